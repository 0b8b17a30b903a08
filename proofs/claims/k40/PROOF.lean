import PyProof.Rows.All
import Wide.All
import OpenK.AllK
import Wide.FinOn
import Lean
import PyProof.EqAt
import PyProof.EqKinds
import PyProof.TupleCall
import PyProof.Rows.SortRuns
import KE.KRevIter
import PyProof.SetRoads
import PyProof.ListNew
import PyProof.Rows.ListMulPlace
import PyProof.ZipIter
import PyProof.Rows.ZipGen
import PyProof.Rows.SumGenD
import PySem.Challenge.RW_closehaul_k40_whole_spread_and_drawn_in
set_option compiler.extract_closed false
namespace PySem.W.Fast
def tw3513042569944458260:=0
def tw2644793080418987945:=0
def tw10734278217047530303:=0
def tw10235238520621876484:=0
def tw8160561730851875800:=0
def tw14175190752083581192:=0
def tw9480953473537427304:=0
def tw7637593716563410165:=0
def tw9136079008895789268:=0
def tw12673860318309036294:=0
def tw15746758629138316643:=0
def tw13264088818371067096:=0
def tw1041325412932308193:=0
def tw6804910737885802688:=0
def tw3381245781695683200:=0
def tw1113915165642577539:=0
def tw3436691261967320200:=0
def tw5327702884809878692:=0
def tw3693353495291031402:=0
def tw15055660254875168547:=0
def tw17859211696305343829:=0
def tw16167515365404118678:=0
def tw2803730839339452134:=0
def tw17535108518161725737:=0
def tw12869286696507836206:=0
def tw5117169036849024676:=0
def tw9724002719009160536:=0
def tw2013901368688964259:=0
def tw8799980420883749494:=0
def tw6923064507076493787:=0
def tw1846230691679238283:=0
def tw12141280724293298835:=0
def tw576455913012616470:=0
def tw14153524223366445847:=0
def tw14585762341977303877:=0
def tw8067068775011036928:=0
def tw17435009337248087936:=0
def tw7948270692664699143:=0
def tw16615438409814246979:=0
def tw5791568487924725507:=0
def tw5719819301397915209:=0
def tw12599358873982075583:=0
def tw6517261812163146277:=0
def tw13364147331085168933:=0
def tw4456256974695031913:=0
def tw5870241960844398910:=0
def tw15170650660742129061:=0
def tw12072182324642357990:=0
def tw3945315871500575592:=0
def tw4678575469754423383:=0
def tw427862406019460715:=0
def tw6976616412446729322:=0
def tw9502675791014085684:=0
def tw4458414291823227513:=0
def tw14410433940367453334:=0
def tw1286807852989783240:=0
def tw6676366187168815289:=0
def tw9347451886147277494:=0
def tw8238039779714579997:=0
def tw2662193121270620469:=0
def tw15177391351591775335:=0
def tw3442937035526865100:=0
def tw9627686643518845844:=0
def tw18058226082766410906:=0
def tw6924587695272428347:=0
def tw18059606110524078542:=0
def tw9468334615147470629:=0
def tw4886453521960456172:=0
def tw6421488659986725567:=0
def tw13236625733351278120:=0
def tw7780267495181335610:=0
def tw17023921595999296998:=0
def tw9625429951253615901:=0
def tw14321812869307311859:=0
def tw10674670464800614681:=0
def tw3383013720754190561:=0
def tw13054805429229574504:=0
def tw10528971929885981153:=0
def tw15152627149508877855:=0
def tw6838040898054833005:=0
def tw902330247310791661:=0
def tw1588805054105208578:=0
def tw1494608893669308494:=0
def tw4938661301483813004:=0
def tw14595088112281674100:=0
def tw6898268040605761801:=0
def tw4348130141550651773:=0
def tw8471491895251192692:=0
def tw1289006769008767408:=0
def tw4275240348330245618:=0
def tw14130886892643785424:=0
def tw2216413179690566253:=0
def tw16498059199747286687:=0
def tw7421739767764804825:=0
def tw7391053072154287198:=0
def tw2317952717040228709:=0
def tw952769176714814126:=0
def tw17145100737643895060:=0
def tw15289237902482826417:=0
def tw8820378764030496724:=0
def tw12210553952140789520:=0
def tw6730671888477531818:=0
def tw14236665853361822654:=0
def tw540298736403235652:=0
def tw13229772935298445631:=0
def tw11327752233093067318:=0
def tw4904156704631527255:=0
def tw6004399828520163805:=0
def tw785282530913828848:=0
def tw13592684404135469773:=0
def tw6161912530641525776:=0
def tw1114146380000636961:=0
def tw8021501939601398340:=0
def tw4364877638272305155:=0
def tw9426647361755452983:=0
def tw10009192864053468379:=0
def tw2321793711720450362:=0
def tw15937828955359025861:=0
def tw16267367594544551170:=0
def tw4002581629977524499:=0
def tw7219033313912797818:=0
def tw6088912319462447124:=0
def tw7551168750216053:=0
def tw11222462210408422397:=0
def tw9044234515287619957:=0
def tw12199473928862764668:=0
def tw14149574219049143612:=0
def tw13554328048686768820:=0
def tw3447902774435348069:=0
def tw17933905891163672221:=0
def tw557595266737137583:=0
def tw4094995899752243072:=0
def tw1831405266597368740:=0
def tw15312485425465775724:=0
def tw14328451362351350440:=0
def tw10757886507672481537:=0
def tw3050942633300274966:=0
def tw3695468960798564522:=0
def tw18235390311859859765:=0
def tw5794432933887027100:=0
def tw12287386626250864014:=0
def tw11997794256894453211:=0
def tw12877230790964045811:=0
def tw4522914098404756652:=0
def tw11586300718170493700:=0
def tw7859168248216428468:=0
def tw4334038025260745748:=0
def tw18408115682927365891:=0
def tw15555228447299742243:=0
def tw14292193913726564685:=0
def tw9350702276361643759:=0
def tw14320291380460581024:=0
def tw16432774838630932344:=0
def tw15566886919647540116:=0
def tw451444622361931021:=0
def tw11167581876357568347:=0
def tw7864852303918407940:=0
def tw2202437063445832985:=0
def tw18443739636943074018:=0
def tw16656620957940388128:=0
def tw16462367911442205751:=0
def tw14952107223522687607:=0
def tw13533500164355375335:=0
def tw12317149367293068057:=0
def tw1582850199335362173:=0
def tw14386672905421923523:=0
def tw5530578036861123968:=0
def tw2912666666108685332:=0
def tw12859517593840981376:=0
def tw2370553646446569664:=0
def tw2081029362282269531:=0
def tw9992885473150362889:=0
def tw7184776234389216394:=0
def tw650359242574154682:=0
def tw6448381377379610985:=0
def tw6193649834592984046:=0
def tw17346991013651754495:=0
def tw2861260208288756989:=0
def tw17838175013947259932:=0
def tw17281184577158242667:=0
def tw14572442485761510453:=0
def tw8045155144238276877:=0
def tw11585386409077004096:=0
def tw2078519625808249159:=0
def tw15910537457484806516:=0
def tw12870912416998292968:=0
def tw16500710597358796777:=0
def tw9419177525269626874:=0
def tw8851817976858567147:=0
def tw6741168183692204095:=0
def tw18320955682268342573:=0
def tw1767298387010118034:=0
def tw13532385269368170307:=0
def tw2365219056415754132:=0
def tw14032138082293026015:=0
def tw16772805257659713540:=0
def tw14746772488872217255:=0
def tw4379612516748204265:=0
def tw1456727563241971423:=0
def tw12713662567682373930:=0
def tw692490553581747249:=0
def tw15000381016477690447:=0
def tw14889994696964159709:=0
def tw3664743042549064599:=0
def tw16258820795640751330:=0
def tw14667922983360890298:=0
def tw3029639970783225248:=0
def tw1868102975898072965:=0
def tw6881705571820125250:=0
def tw12117768468827255647:=0
def tw17780821162435826638:=0
def tw17090123686114974401:=0
def tw7898820383019893567:=0
def tw17751790659993494358:=0
def tw12910430699273482471:=0
def tw14385271435319924492:=0
def tw17472300666431087517:=0
def tw15055942825171364021:=0
def tw5047021795304449396:=0
def tw2988212238009652334:=0
def tw3250760048682955430:=0
def tw8393140860946456319:=0
def tw9388379477435056021:=0
def tw3391496857966050774:=0
def tw15122824141218278117:=0
def tw9710231171153849110:=0
def tw14199410520835167957:=0
def tw10664385849250511213:=0
def tw11064151615280666209:=0
def tw10874561689349836718:=0
def tw3676239697552340250:=0
def tw2419310607851475649:=0
def tw9384242459138263019:=0
def tw15488792165400708287:=0
def tw609699216925537990:=0
def tw4274147041852135928:=0
def tw18423151975348835190:=0
def tw9833611118723251295:=0
def tw7808177918489157161:=0
def tw4460260947455532556:=0
def tw2787384719128922018:=0
def tw16182690883165635064:=0
def tw11113152672928794659:=0
def tw10693752233513885834:=0
def tw14710652639672914227:=0
def tw5072892753674630569:=0
def tw13621898972123490739:=0
def tw8848155088670731850:=0
def tw17826917114716607379:=0
def tw13527543810140633338:=0
def tw13365959301513851245:=0
def tw7452054391724341959:=0
def tw2222304074945827879:=0
def tw10131555910541023805:=0
def tw1384678520027834950:=0
def tw12847985594178272622:=0
def tw7061086350627736021:=0
def tw3115693713518440314:=0
def tw11793143710020826716:=0
def tw13753655256808911889:=0
def tw2202625591244572913:=0
def tw16487470459467724004:=0
def tw5791741821048299513:=0
def tw389484703673285457:=0
def tw14840054194784806132:=0
def tw9997626879524060928:=0
def tw991707017265699722:=0
def tw9732101311257188813:=0
def tw9633824042326349635:=0
def tw954278246663518864:=0
def tw9386249306081009127:=0
def tw917794351144090531:=0
def tw9153195934130591462:=0
def tw9139225759550483169:=0
def tw9018852371002646473:=0
def tw9002586289843332780:=0
end PySem.W.Fast
noncomputable section
section
set_option hygiene false
local macro_rules|`(tactic|kt_k)=>`(tactic|rintro σ H Q ⟨G,ρ,Q0,X0,hs,ab,hr,hk,hx⟩)
local macro_rules|`(tactic|k_in)=>`(tactic|dsimp only)
local macro_rules|`(tactic|z_go)=>`(tactic|intro pins s σ H x y v u Q I rx ry h)
local macro_rules|`(tactic|x_go)=>`(tactic|intro pins s σ H Q I h)
local macro_rules|`(tactic|w_up)=>`(tactic|constructor)
local macro_rules|`(tactic|k_go)=>`(tactic|obtain⟨ps,o,h1,h2,rfl⟩:=h)
local macro_rules|`(tactic|kd_p)=>`(tactic|refine⟨by rw[wg];exact szl' (by lia),Safe.of_noL rfl rfl _,?_⟩)
local macro_rules|`(tactic|k_ne)=>`(tactic|have b0:Bt 310 (2*m+1):=Bt.le (Bt.add (Bt.mul (z08 (n:=3) (by decide)) bm) (z08 (n:=3) (by decide))))
local macro_rules|`(tactic|kj_on)=>`(tactic|intro X hP hw hK hc i pins s σ H E I hf st hg)
local macro_rules|`(tactic|k_all)=>`(tactic|obtain⟨G,ρ,Q0,X0,hs,ab,hr,hk,hx⟩:=h)
local macro_rules|`(tactic|l_bnd)=>`(tactic|show Sm.run _ _ _ _ _)
local macro_rules|`(tactic|kd_p1)=>`(tactic|refine t_no (by lia) ?_)
local macro_rules|`(tactic|o_rec)=>`(tactic|simpa using this)
local macro_rules|`(tactic|kl_no)=>`(tactic|refine⟨by rw[wg];exact szl' (by lia),?_⟩)
local macro_rules|`(tactic|f_int)=>`(tactic|obtain⟨a,xs,rfl,h1,h2⟩:=z1p rd)
local macro_rules|`(tactic|k_not)=>`(tactic|rintro vs H Q ⟨G,ds,Q0,X0,g,rds,hr,hk⟩)
abbrev WvP:=PySem.Value->PySem.Shared->Prop
abbrev WmP:=PySem.Str->Option PySem.Value
set_option hygiene true
def we:=@PySem.wpAny_bind
def wg:=@List.length_map
def wj:=@PySem.wpAny_pure
def wm:=@List.mem_cons_of_mem
def wo:=@PySem.Heap.get?_push_of_some
def wp:=@List.getElem?_eq_getElem
def wq:=@List.mem_singleton
def wu:=@List.getElem?_eq_some_iff
def wv:=@List.mem_map
def ww:=@List.mem_cons
def wx:=@Nat.le_refl
def wy:=@List.mem_of_getElem?
def wA:=@PySem.Heap.get?_push_size
def wB:=@List.getElem?_map
def wC:=@List.cons_ne_nil
def wD:=@List.size_toArray
def wE:=@PySem.Heap.lt_size
def wF:=@List.mem_append_right
def wG:=@List.mem_append
def wH:=@Int.mul_nonneg
def wI:=@List.getElem?_set_ne
def wJ:=@List.mem_cons_self
def wK:=@Int.mul_eq_zero
def wL:=@List.length_append
def wM:=@Int.mul_le_mul_of_nonneg_right
def wN:=@List.getElem?_append_left
def wO:=@Nat.le_trans
def wP:=@Int.mul_pos
def wQ:=@Nat.mod_eq_of_lt
def wR:=@List.mem_append_left
def wT:=@Nat.lt_of_lt_of_le
def wU:=@Bool.false_ne_true
def wV:=@Nat.ne_of_lt
def wW:=@List.getElem?_set_self
def wX:=@List.getLast_append_of_ne_nil
def wY:=@List.map_append
def wZ:=@Bool.false_eq_true
def w5:=@List.length_cons
def w6:=@List.getLast_cons
def w9:=@List.getElem?_append_right
def vd:=@List.mem_map_of_mem
def ve:=@List.map_cons
def vf:=@Int.le_of_lt
def vh:=@List.pairwise_cons
def vk:=@Option.some.inj
def vm:=@Classical.byContradiction
def vn:=@List.not_mem_nil
def vo:=@PySem.wpAny_newObj_type
def vp:=@List.pairwise_map
def vq:=@List.length_pos_iff
def vw:=@List.mem_iff_getElem
def vy:=@Nat.zero_le
def vz:=@Int.natAbs_mul
def vA:=@Array.length_toList
def vB:=@Int.mul_le_mul_of_nonneg_left
def vC:=@decide_eq_true
def vD:=@Nat.lt_or_ge
def vE:=@Bool.and_eq_true
def vF:=@Int.mul_nonpos_of_nonpos_of_nonneg
def vG:=@decide_eq_false
def vH:=@Int.lt_or_le
def vI:=@List.mem_range
def vJ:=@List.drop_eq_getElem_cons
def vK:=@PySem.wpAny_mono
def vL:=@Option.map_eq_some_iff
def vM:=@List.map_map
def vN:=@Nat.pow_le_pow_right
def vO:=@List.length_take
def vP:=@List.lookup_cons
def vQ:=@PyProof.Rows.slot_tuple_getitem
def vR:=@PySem.wpAny_setState_of
def vS:=@Nat.add_mod_right
def vT:=@PySem.Heap.get?_update_self
def vU:=@Ne.symm
def vV:=@Prod.ext
def vW:=@PySem.wpAny_callSpecial?_slot
def vX:=@PySem.W.kia_one
def vY:=@List.nodup_cons
def vZ:=@List.append_assoc
def v3:=@List.pairwise_append
def v4:=@PySem.Heap.get?_update_other
def v5:=@PyProof.Rows.wpS_bind
def v6:=@List.append_nil
def v7:=@List.length_nil
def v8:=@PySem.Heap.get?_update_ne
def v9:=@PySem.wpAny_call_entry
def ua:=@List.getElem_mem
def uc:=@PySem.wpAny_seqItems
def ud:=@PySem.wpAny_holding
def ue:=@List.length_eq_zero_iff
def uf:=@Int.eq_of_mul_eq_mul_right
def ug:=@Int.le_of_mul_le_mul_right
def uh:=@Nat.mul_le_mul_right
def ui:=@List.pairwise_iff_getElem
def uj:=@Nat.lt_irrefl
def uk:=@List.filterMap_cons
def ul:=@Int.le_refl
def um:=@Nat.le_of_lt
def uo:=@List.length_replicate
def uq:=@Nat.lt_succ_of_lt
def ur:=@of_decide_eq_true
def ut:=@Nat.mod_lt
def uv:=@if_false
def uw:=@PySem.wpAny_field
def ux:=@PySem.Obj.data_mapFields
def uy:=@PySem.Around.under_plainId
def uz:=@Int.gcd_dvd_left
def uA:=@List.exists_cons_of_ne_nil
def uC:=@List.reverse_cons
def uD:=@Int.gcd_dvd_right
def uE:=@PySem.Heap.SameBut.update
def uF:=@PySem.Heap.size_push
def uG:=@PyProof.Rows.wpS_pure
def uH:=@List.length_singleton
def uI:=@Array.getElem?_toList
def uJ:=@Int.natAbs_dvd_natAbs
def uK:=@List.mem_filterMap
def uM:=@Nat.lt_of_le_of_lt
def uN:=@Int.emod_lt_of_pos
def uO:=@decide_eq_true_iff
def uP:=@List.map_reverse
def uQ:=@List.getLast?_cons_cons
def uR:=@PySem.plainId_quiet
def uS:=@List.getElem?_cons_succ
def uT:=@Nat.le_mul_of_pos_right
def uU:=@PySem.Heap.get?_push_ne
def uV:=@PyProof.Rows.callWith_type1
def uW:=@PySem.codeAny_builtin
def uX:=@Int.mul_nonpos_of_nonneg_of_nonpos
def uY:=@Int.mul_nonneg_of_nonpos_of_nonpos
def uZ:=@List.getD_eq_getElem?_getD
def u4:=@Array.perm_iff_toList_perm
def u5:=@PySem.F.slot_tuple_iterator_next
def u6:=@PySem.Heap.size_update
def u7:=@List.cons_append
def u8:=@List.getLast_mem
def u9:=@List.mem_flatMap
def ja:=@PySem.wpAny_Call_Name_kw
def jb:=@List.zip_cons_cons
def jc:=@or_false
def jd:=@List.getElem?_eq_none
def je:=@Nat.zero_add
def jf:=@getElem?_pos
def jg:=@List.Perm.append_left
def jh:=@Int.mul_comm
def ji:=@PySem.wpAny_setField_rec
def jj:=@List.pairwise_of_forall_mem_list
def jk:=@Int.mul_ediv_cancel'
def jl:=@List.mem_filter
def jm:=@PySem.wpAny_truthy_bool
def jn:=@PySem.wpAny_passesOwn
def jo:=@Bool.eq_iff_iff
def jp:=@List.of_mem_zip
def jq:=@Nat.not_lt_zero
def jr:=@Int.emod_nonneg
def jt:=@List.takeWhile_append_dropWhile
def ju:=@List.flatMap_cons
def jv:=@Int.dvd_mul_of_dvd_right
def jw:=@Int.zero_mul
def jx:=@PySem.mem_of_lookup
def jy:=@List.getElem?_replicate
def jz:=@PyProof.Rows.F.plain_set_update_loop
def jA:=@List.getLast_eq_getElem
def jB:=@List.length_drop
def jC:=@List.all_eq_true
def jD:=@Nat.le_add_right
def jE:=@PySem.F.plain_max_loop
def jF:=@if_true
def jG:=@List.length_pos_of_mem
def jH:=@List.getLast_singleton
def jI:=@of_decide_eq_false
def jJ:=@List.append_of_mem
def jK:=@Int.lt_or_eq_of_le
def jL:=@PySem.wpAny_loadPart'
def jM:=@List.take_append_drop
def jN:=@PySem.F.called_set
def jO:=@PySem.builtinLookup_eq_fast
def jP:=@PySem.wpAny_updateSeq
def jQ:=@PySem.wpAny_letGo
def jR:=@List.dropLast_sublist
def jS:=@Nat.le_succ_of_le
def jT:=@List.length_range
def jU:=@PySem.wpAny_rule
def jV:=@Nat.lt_trichotomy
def jW:=@Bool.not_true
def jX:=@PyProof.Rows.listUpdate_at
def jY:=@List.Perm.refl
def jZ:=@PySem.isSubtype_type
def j1:=@Int.eq_of_mul_eq_mul_left
def j2:=@List.append_eq_append_iff
def j3:=@List.exists_mem_of_ne_nil
def j4:=@PySem.wpAny_forIn_list
def j5:=@Nat.lt_succ_self
def j6:=@decide_eq_decide
def j7:=@PySem.wpAny_askSetting
def j8:=@List.length_reverse
def j9:=@Nat.ne_of_gt
def Wa:=@PySem.wpAny_typeOf
def Wc:=@Nat.gcd_comm
def Wd:=@Nat.pow_succ
def We:=@Nat.add_comm
def Wf:=@Int.natAbs_natCast
def Wg:=@PySem.wpAny_pyIter_tuple
def Wh:=@PySem.wpAny_attempt
def Wi:=@PyProof.Rows.get?_update_seq
def Wj:=@PySem.wpAny_setField
def Wk:=@List.map_nil
def Wl:=@PyProof.Rows.wpS_forRange
set_option autoImplicit true
set_option relaxedAutoImplicit true
set_option Elab.async false
set_option linter.all false
set_option maxRecDepth 100000
namespace L2
open PySem PySem.Spec PyProof.Rows
abbrev Key:=Sum Int Str
def zhW:Key->Value->Bool
 | .inl k,v=>Value.isInt k v
 | .inr x,v=>Value.isStrOf x v
def keyH (w:World):Key->Int
 | .inl k=>hashInt k
 | .inr x=>hashStr w x
def z0G:∀{k:Key}{v:Value},zhW k v=true->(∃i t,k=Sum.inl i/\v=Value.int i t)\/(∃x t,k=Sum.inr x/\v=Value.str x t)
 | .inl i,v,h=>by
  obtain⟨t,e⟩:=Value.isInt_shape (k:=i) (v:=v) h;exact .inl ⟨i,t,rfl,e⟩
 | .inr x,v,h=>by
  obtain⟨t,e⟩:=Value.isStrOf_shape (x:=x) (v:=v) h;exact .inr ⟨x,t,rfl,e⟩
def zhV (a b:Int):decide ((Sum.inl a:Key)=Sum.inl b)=(a == b):=by
 by_cases e:a=b
 .subst e;simp
 .have h:¬ (Sum.inl a:Key)=Sum.inl b:=λq=>e (Sum.inl.inj q);rw[vG h];exact(beq_eq_false_iff_ne.mpr e).symm
def zhS (a b:Str):decide ((Sum.inr a:Key)=Sum.inr b)=decide (a=b):=by
 by_cases e:a=b
 .subst e;simp
 .have h:¬ (Sum.inr a:Key)=Sum.inr b:=λq=>e (Sum.inr.inj q);rw[vG h,vG e]
def zhU (a:Int)(b:Str):decide ((Sum.inl a:Key)=Sum.inr b)=false:=vG (λq=>nomatch q)
def zhT (a:Str)(b:Int):decide ((Sum.inr a:Key)=Sum.inl b)=false:=vG (λq=>nomatch q)
def zaE (prog:Program)(w:World):PySem.KeyKind prog w Key where
 is:=zhW
 hash:=keyH w
 inj:=λv a b ha hb=>by
  rcases z0G ha with ⟨i,t,rfl,rfl⟩ | ⟨x,t,rfl,rfl⟩
  .rcases z0G hb with ⟨j,u,rfl,e⟩ | ⟨y,u,rfl,e⟩
   .injection e with e1 _;rw[e1]
   .exact nomatch e
  .rcases z0G hb with ⟨j,u,rfl,e⟩ | ⟨y,u,rfl,e⟩
   .exact nomatch e
   .injection e with e1 _;rw[e1]
 byValue:=λk v h=>by
  rcases z0G h with ⟨i,t,rfl,rfl⟩ | ⟨x,t,rfl,rfl⟩ <;> rfl
 pyHash:=λhv h=>by
  rcases z0G hv with ⟨i,t,rfl,rfl⟩ | ⟨x,t,rfl,rfl⟩
  .exact wpAny_pyHash_int h
  .exact wpAny_pyHash_str h
 eqBool:=λhu hv h=>by
  rcases z0G hu with ⟨i,t,rfl,rfl⟩ | ⟨x,t,rfl,rfl⟩
  .rcases z0G hv with ⟨j,u,rfl,rfl⟩ | ⟨y,u,rfl,rfl⟩
   .rw[zhV] at h;exact wpAny_eqBool_int h
   .rw[zhU] at h;exact SeqAt.EqAt.int_str i t y u _ _ _ _ h
  .rcases z0G hv with ⟨j,u,rfl,rfl⟩ | ⟨y,u,rfl,rfl⟩
   .rw[zhT] at h;exact SeqAt.EqAt.str_int x t j u _ _ _ _ h
   .rw[zhS] at h;exact wpAny_eqBool_str h
 «strs»:=λk x t v h=>by
  rcases z0G h with ⟨i,u,rfl,e⟩ | ⟨y,u,rfl,e⟩
  .exact nomatch e
  .injection e with e1 _
   subst e1
   cases v <;> rfl
inductive V where
 | non | bl (b:Bool) | int (i:Int) | str (x:Str) | byt (b:Array UInt8) | flt (b:UInt64) | ref (a:Addr) | ty (n:String)
 deriving DecidableEq
def RelV:V->Value->Prop
 | .non,u=>u=Value.none
 | .bl b,u=>u=Value.bool b
 | .int i,u=>∃t,u=Value.int i t
 | .str x,u=>∃t,u=Value.str x t
 | .byt b,u=>∃t,u=Value.bytes b t
 | .flt b,u=>∃t,u=Value.float b t
 | .ref a,u=>u=Value.ref a
 | .ty n,u=>u=Value.type n
abbrev Vals:List V->List Value->Prop:=Paired RelV
theorem Vals.length {xs:List V}{us:List Value}(r:Vals xs us):xs.length=us.length:=Paired.length r
theorem Vals.get:∀{xs:List V}{us:List Value}{i:Nat}{x:V},Vals xs us->xs[i]? = some x->∃u,us[i]? = some u/\RelV x u
 | _,_,_,_,.nil,e=>by simp at e
 | _,_,0,_,.cons r _,e=>by simp at e;subst e;exact⟨_,rfl,r⟩
 | _,_,i+1,x,.cons _ t,e=>by
  obtain⟨u,h1,h2⟩:=Vals.get (i:=i) (x:=x) t (by simpa using e);exact⟨u,by simpa using h1,h2⟩
theorem Vals.append:∀{xs ys:List V}{us ws:List Value},Vals xs us->Vals ys ws->Vals (xs++ys) (us++ws)
 | _,_,_,_,.nil,s=>s
 | _,_,_,_,.cons r t,s =>.cons r (Vals.append t s)
theorem Vals.take:∀{xs:List V}{us:List Value}(n:Nat),Vals xs us->Vals (xs.take n) (us.take n)
 | _,_,0,_ =>.nil
 | _,_,_+1,.nil =>.nil
 | _,_,n+1,.cons r t =>.cons r (Vals.take n t)
theorem Vals.drop:∀{xs:List V}{us:List Value}(n:Nat),Vals xs us->Vals (xs.drop n) (us.drop n)
 | _,_,0,r=>r
 | _,_,_+1,.nil =>.nil
 | _,_,n+1,.cons _ t=>Vals.drop n t
def RelO:Option V->Option Value->Prop
 | some v,some u=>RelV v u
 | none,none=>True
 | _,_=>False
def KV {κ:Type}:List (κ × V)->List (κ × Value)->Prop:=Paired λ(p:κ × V) (q:κ × Value)=>p.1=q.1/\RelV p.2 q.2
def kV:Key->V
 | .inl i =>.int i
 | .inr x =>.str x
inductive HO where
 | lst (xs:List V)
 | tup (xs:List V)
 | dK (kvs:List (Key × V)) | dT (kvs:List (List Key × V))
 | set (S:Int->Bool) (n:Nat)
 | ins (C dx:Addr) (fs:List (Str × V))
 | own (x:Addr)
 | xd (fs:List (Str × V))
 | met (f x:Addr)
 | rng (lo hi:Int)
 | frz (o:Obj) (u:HO)
 | tbl (ps:Array Value)
 | ext (φ:Heap->Prop)
abbrev Hp:=Addr->Option HO
def upd (H:Hp)(a:Addr)(o:HO):Hp:=λb=>if b=a then some o else H b
def z0b {H:Hp}{a:Addr}{o:HO}:upd H a o a=some o:=by unfold upd;rw[if_pos rfl]
def z05 {H:Hp}{a b:Addr}{o:HO}(h:b≠a):upd H a o b=H b:=by unfold upd;rw[if_neg h]
def z0g {H:Hp}{a b:Addr}{o:HO}(h:H a=some o)(h':H b=none):a≠b:=by
 intro e;subst e;rw[h] at h';cases h'
def NoD (h:Heap)(a:Addr):Prop:=∃o,h.get? a=some o/\o.dict=none
def zjX (H:Hp)(h:Heap)(a:Addr)(ps:Array Value):Prop:=h.get? a=some { cls :=.none,data :=.fields #[] }\/
 ∃(l c:Value) (q:Str) (t:Tok) (c':Addr) (o:Obj) (vs:Array Value) (u:Tok),ps[0]? = some l/\ps[1]? = some c/\ps[2]? = some (.str q t)/\h.get? a=some { cls :=.none,data :=.fields #[l,c,.ref c'] }/\H c'=some (.frz o (.own c'))/\o.data = .fields vs/\vs[1]? = some (.str q u)
section
variable (P:Program)(w:World)
def z1c (H:Hp)(h:Heap)(a:Addr):HO->Prop
 | .lst xs=>xs.length<=sizeLine/\∃(its:List Value) (n:Nat),Vals xs its/\h.get? a=some { cls :=.type "list",data :=.seq its.toArray n }
 | .tup xs=>xs.length<=sizeLine/\∃its:List Value,Vals xs its/\IsTup h a its.toArray/\NoD h a
 | .dK kvs=>kvs.length<=sizeLine/\(a == sysModules)=false/\∃vs,KV kvs vs/\h.DictOf (zaE P w) a vs
 | .dT kvs=>kvs.length<=sizeLine/\(a == sysModules)=false/\∃xs:List (List Key × Addr × Value),
   Paired (λ(p:List Key × V) (q:List Key × Addr × Value)=>p.1=q.1/\H q.2.1=some (.tup (p.1.map kV))/\RelV p.2 q.2.2) kvs xs/\
   ∃o es ep,h.get? a=some o/\o.ExactDict/\o.data = .dict es ep/\es.toList=xs.map (entryOfKey (tupleKind (zaE P w)))/\(xs.map (·.1)).Nodup
 | .set S n=>h.SetOf (intKind P w) a S n
 | .ins C dx fs=>H dx=some (.own a)/\fs.length<=1000/\dx≠a/\h.get? a=some (W.instObj C dx)/\
   ∃mA,h.Ns1 dx mA/\(∀f,RelO (fs.lookup f) (mA f))/\PySem.Within mA (fs.map (·.1))
 | .own _=>∃o,h.get? a=some o
 | .xd fs=>∃mA,h.Ns1 a mA/\∀f,RelO (fs.lookup f) (mA f)
 | .rng lo hi=>∃t u v,h.get? a=some { cls :=.type "range",data :=.fields #[.int lo t,.int hi u,.int 1 v] }
 | .frz o u=>h.get? a=some o/\z1c H h a u
 | .tbl ps=>zjX H h a ps
 | .met f x=>h.get? a=some (W.methodObj (.ref f) (.ref x))
 | .ext φ=>φ h/\(∃o,h.get? a=some o)/\∀h1 h2:Heap,φ h1->(∀o,h1.get? a=some o->h2.get? a=some o)->φ h2
def HOk (H:Hp)(h:Heap):Prop:=∀a o,H a=some o->z1c P w H h a o
end
section
variable {P:Program}{w:World}{H H':Hp}{h h':Heap}{a:Addr}{o:HO}
theorem z1c.lt (x:z1c P w H h a o):a<h.objs.size:=by
 cases o with
 | lst xs=>obtain⟨_,_,_,_,e⟩:=x;exact wE e
 | tup xs=>obtain⟨_,_,_,p,_⟩:=x;exact p.lt
 | dK kvs=>obtain⟨_,_,_,_,o,_,_,e,_⟩:=x;exact wE e
 | dT kvs=>obtain⟨_,_,_,_,o,_,_,e,_⟩:=x;exact wE e
 | set S n=>obtain⟨o,_,_,_,e,_⟩:=x;exact wE e
 | ins C dx fs=>obtain⟨_,_,_,e,_⟩:=x;exact wE e
 | own y=>obtain⟨_,e⟩:=x;exact wE e
 | xd fs=>obtain⟨_,⟨_,_,_,e,_⟩,_⟩:=x;exact wE e
 | rng lo hi=>obtain⟨_,_,_,e⟩:=x;exact wE e
 | frz ob u=>obtain⟨e,_⟩:=x;exact wE e
 | tbl ps=>rcases x with e | ⟨_,_,_,_,_,_,_,_,_,_,_,e,_⟩ <;> exact wE e
 | met f y=>exact wE (show h.get? a=some _ from x)
 | ext φ=>obtain⟨_,⟨_,e⟩,_⟩:=x;exact wE e
theorem Paired.mapP {α β:Type}{F G:α->β->Prop}:∀{l₁:List α} {l₂:List β},Paired F l₁ l₂->(∀a b,F a b->G a b)->Paired G l₁ l₂
 | _,_,.nil,_ =>.nil
 | _,_,.cons r t,f =>.cons (f _ _ r) (Paired.mapP t f)
def z1c.stay (x:z1c P w H h a o)(k:∀b u,(b=a\/H b=some (.own a))->h.get? b=some u->h'.get? b=some u)
  (ho:∀b,H b=some (.own a)->H' b=some (.own a)) (ht:∀b xs,H b=some (.tup xs)->H' b=some (.tup xs)) (hf:∀b o u,H b=some (.frz o u)->H' b=some (.frz o u):=by first | exact λ_ _ _ q=>q | exact λc _ _ q=>by rw[z05 (z0g q (by assumption))];exact q):z1c P w H' h' a o:=by
 induction o with
 | lst xs=>obtain⟨z,its,n,r,e⟩:=x;exact⟨z,its,n,r,k _ _ (.inl rfl) e⟩
 | tup xs=>obtain⟨z,its,r,⟨ob,e,c⟩,od,ed,cd⟩:=x;exact⟨z,its,r,⟨ob,k _ _ (.inl rfl) e,c⟩,od,k _ _ (.inl rfl) ed,cd⟩
 | dK kvs=>obtain⟨z,y,vs,r,ob,es,ep,e,c⟩:=x;exact⟨z,y,vs,r,ob,es,ep,k _ _ (.inl rfl) e,c⟩
 | dT kvs=>
  obtain⟨z,y,xs,r,ob,es,ep,e,c⟩:=x;exact⟨z,y,xs,Paired.mapP r λp q z=>⟨z.1,ht _ _ z.2.1,z.2.2⟩,ob,es,ep,k _ _ (.inl rfl) e,c⟩
 | set S n=>obtain⟨ob,es,ep,t,e,c⟩:=x;exact⟨ob,es,ep,t,k _ _ (.inl rfl) e,c⟩
 | ins C dx fs=>
  obtain⟨d,z,ne,e,mA,⟨od,es,ep,e2,c⟩,r⟩:=x;exact⟨ho _ d,z,ne,k _ _ (.inl rfl) e,mA,⟨od,es,ep,k _ _ (.inr d) e2,c⟩,r⟩
 | own y=>obtain⟨ob,e⟩:=x;exact⟨ob,k _ _ (.inl rfl) e⟩
 | xd fs=>obtain⟨mA,⟨od,es,ep,e,c⟩,r⟩:=x;exact⟨mA,⟨od,es,ep,k _ _ (.inl rfl) e,c⟩,r⟩
 | rng lo hi=>obtain⟨t,u,v,e⟩:=x;exact⟨t,u,v,k _ _ (.inl rfl) e⟩
 | frz ob u ih=>obtain⟨e,q⟩:=x;exact⟨k _ _ (.inl rfl) e,ih q⟩
 | tbl ps=>
  rcases x with e | ⟨l,c,q,t,c',ob,vs,u,e1,e2,e3,e,ec,r⟩
  .exact .inl (k a _ (.inl rfl) e)
  .exact .inr ⟨l,c,q,t,c',ob,vs,u,e1,e2,e3,k a _ (.inl rfl) e,hf _ _ _ ec,r⟩
 | met f y=>
  have e:h.get? a=some (W.methodObj (.ref f) (.ref y)):=x;show h'.get? a=some (W.methodObj (.ref f) (.ref y));exact k a _ (.inl rfl) e
 | ext φ=>obtain⟨p,⟨o,e⟩,st⟩:=x;exact⟨st _ _ p λo q=>k _ _ (.inl rfl) q,⟨o,k _ _ (.inl rfl) e⟩,st⟩
theorem HOk.lt (x:HOk P w H h)(e:H a=some o):a<h.objs.size:=(x a o e).lt
def HOk.fresh (x:HOk P w H h)(e:h.objs.size<=a):H a=none:=by
 cases q:H a with
 | none=>rfl
 | some u=>exact absurd (wT (x.lt q) e) (uj _)
def HOk.kept (x:HOk P w H h)(k:∀b u,h.get? b=some u->h'.get? b=some u):HOk P w H h':=λa o e=>
 (x a o e).stay (λb u _ q=>k b u q) (λ_ q=>q) λ_ _ q=>q
def HOk.laid (x:HOk P w H h)(k:∀b u,h.get? b=some u->h'.get? b=some u)(hp:h.objs.size<=a)(new:z1c P w (upd H a o) h' a o):HOk P w (upd H a o) h':=λb u e=>by
 have hn:=x.fresh hp
 by_cases hb:b=a
 .subst hb;rw[z0b] at e;cases e;exact new
 .rw[z05 hb] at e;exact(x b u e).stay (λc v _ q=>k c v q) (λc q=>by rw[z05 (z0g q hn)];exact q) λc xs q=>by rw[z05 (z0g q hn)];exact q
end
def Rd (H:Hp)(a:Addr)(u:HO):Prop:=H a=some u\/∃o,H a=some (.frz o u)
def Rd.ok {P:Program}{w:World}{H:Hp}{h:Heap}{a:Addr}{u:HO}(r:Rd H a u)(x:HOk P w H h):z1c P w H h a u:=by
 rcases r with r | ⟨o,r⟩
 .exact x a u r
 .obtain⟨_,q⟩:=x a _ r;exact q
def Mut:Option HO->Prop
 | some (.lst _)=>True
 | some (.dK _)=>True
 | some (.dT _)=>True
 | some (.set _ _)=>True
 | some (.ins _ _ _)=>True
 | some (.ext _)=>True
 | _=>False
section
variable {P:Program}{w:World}{H:Hp}{h h':Heap}{x e:Addr}{o':HO}
def HOk.write (ok:HOk P w H h)(mu:Mut (H x))(he:e=x\/H e=some (.own x))(k:∀b u,b≠e->h.get? b=some u->h'.get? b=some u)(heo:∃u,h'.get? e=some u)
  (new:z1c P w (upd H x o') h' x o'):HOk P w (upd H x o') h':=λb u q=>by
 have nown:∀c y,H c=some (.own y)->c≠x:=λc y r z=>by subst z;rw[r] at mu;exact mu
 have ntup:∀c xs,H c=some (.tup xs)->c≠x:=λc xs r z=>by subst z;rw[r] at mu;exact mu
 by_cases hb:b=x
 .subst hb;rw[z0b] at q;cases q;exact new
 .rw[z05 hb] at q
  by_cases hbe:b=e
  .have q':H b=some (.own x):=by
    rcases he with z | z
    .exact absurd (hbe.trans z) hb
    .rw[hbe];exact z
   rw[q] at q';cases q';obtain⟨v,hv⟩:=heo;exact⟨v,by rw[hbe];exact hv⟩
  .refine(ok b u q).stay (λc v hc r=>k c v ?_ r) (λc r=>by rw[z05 (nown c b r)];exact r) (λc xs r=>by rw[z05 (ntup c xs r)];exact r) λc o u r=>by rw[z05 (λz=>by subst z;rw[r] at mu;exact mu)];exact r
   rcases hc with rfl | hc
   .exact hbe
   .rintro rfl
    rcases he with z | z
    .exact nown c b hc z
    .rw[hc] at z;cases z;exact hb rfl
end
structure Un (fs ex:List Addr)(H H':Hp)(h h':Heap):Prop where
 keep:∀b o,h.get? b=some o->H b=none->b ∉ fs->b ∉ ex->h'.get? b=some o
 slot:∀b o,h.get? b=some o->H b=none->b∈fs->b ∉ ex->∃sl,h'.get? b=some { o with slots:=sl }
 free:∀b o,h.get? b=some o->H b=none->b ∉ ex->H' b=none
 there:∀b o,h.get? b=some o->b ∉ ex->∃o',h'.get? b=some o'
 tups:∀b xs,H b=some (.tup xs)->H' b=some (.tup xs)
 frzs:∀b o u,H b=some (.frz o u)->H' b=some (.frz o u)
 tbls:∀b ps,H b=some (.tbl ps)->∃more,H' b=some (.tbl (ps++more))
section
variable {fs fs' ex ex':List Addr}{H H1 H2:Hp}{h h1 h2 h':Heap}{a x e:Addr}{o:HO}
def Un.any (u:Un fs ex H H1 h h1){b:Addr}{ob:Obj}(q:h.get? b=some ob)(n:H b=none)(hx:b ∉ ex):∃sl,h1.get? b=some { ob with slots:=sl }:=by
 by_cases hb:b∈fs
 .exact u.slot b ob q n hb hx
 .exact⟨ob.slots,u.keep b ob q n hb hx⟩
def Un.kept (k:∀b u,h.get? b=some u->h'.get? b=some u):Un fs ex H H h h':=
 ⟨λb ob q _ _ _=>k b ob q,λb ob q _ _ _=>⟨ob.slots,k b ob q⟩,λ_ _ _ n _=>n,λb ob q _=>⟨ob,k b ob q⟩,λ_ _ q=>q,λ_ _ _ q=>q,λ_ ps q=>⟨#[],by rw[q];simp⟩⟩
def Un.refl:Un fs ex H H h h:=Un.kept λ_ _ q=>q
def Un.laid (k:∀b u,h.get? b=some u->h'.get? b=some u)(hp:h.objs.size<=a)(hn:H a=none):Un fs ex H (upd H a o) h h' where
 keep:=λb u q _ _ _=>k b u q
 slot:=λb u q _ _ _=>⟨u.slots,k b u q⟩
 free:=λb u q n _=>by rw[z05 (wV (wT (wE q) hp))];exact n
 there:=λb u q _=>⟨u,k b u q⟩
 tups:=λb xs q=>by rw[z05 (z0g q hn)];exact q
 frzs:=λb u xs q=>by rw[z05 (z0g q hn)];exact q
 tbls:=λb ps q=>⟨#[],by rw[z05 (z0g q hn),q];simp⟩
def Un.write (mu:Mut (H x))(he:e=x\/H e=some (.own x))(k:∀b u,b≠e->h.get? b=some u->h'.get? b=some u)(heo:∃u,h'.get? e=some u):Un fs ex H (upd H x o) h h':=by
 have hx:∀b,H b=none->b≠x:=λb n z=>by subst z;rw[n] at mu;exact mu
 have hb:∀b,H b=none->b≠e:=λb n z=>by
  subst z
  rcases he with r | r
  .exact hx b n r
  .rw[n] at r;cases r
 have hm:∀b u,H b=some u->¬ Mut (some u)->b≠x:=λb u q nm z=>by subst z;rw[q] at mu;exact nm mu
 refine⟨λb u q n _ _=>k b u (hb b n) q,λb u q n _ _=>⟨u.slots,k b u (hb b n) q⟩,λb u q n _=>by rw[z05 (hx b n)];exact n,λb u q _ =>?_,
  λb xs q=>by rw[z05 (hm b _ q λz=>z)];exact q,λb u xs q=>by rw[z05 (hm b _ q λz=>z)];exact q,λb ps q=>⟨#[],by rw[z05 (hm b _ q λz=>z),q];simp⟩⟩
 by_cases hbe:b=e
 .subst hbe;exact heo
 .exact⟨u,k b u hbe q⟩
end
def trk (h:Heap)(H:Hp):List Addr:=(List.range h.objs.size).filter λa=>(H a).isSome
def hidT (h:Heap)(H:Hp):Heap:=W.hideAll h (trk h H)
def zaU (h:Heap)(H:Hp):(hidT h H).objs.size=h.objs.size:=W.hideAll_size _ _
def z6a (e:h.get? b=some o)(n:H b=none):(hidT h H).get? b=some o:=
 W.hideAll_get _ e λhm=>by
  have q:(H b).isSome=true:=(jl.mp hm).2;rw[n] at q;simp at q
def zf2 (e:(hidT h H).get? b=some o):h.get? b=some o/\H b=none:=by
 have e':h.get? b=some o:=W.of_hideAll (trk h H) e;refine⟨e',?_⟩
 cases q:H b with
 | none=>rfl
 | some x=>
  have hm:b∈trk h H:=jl.mpr ⟨vI.mpr (wE e'),by simp[q]⟩;have z:(hidT h H).get? b=none:=W.hideAll_none (trk h H) hm;rw[z] at e;cases e
def BmAt (mg:WmP)(h:Heap):Prop:=∃bm ob,mg "__builtins__"=some (.ref bm)/\bm≠builtinsNs/\h.get? bm=some ob/\ob.cls = .type "module"/\ob.dict=some builtinsNs/\ob.data = .plain
def z5m (fd:FuncData):Option Pos:=match fd.body with
 | .stmts b=>(match b.getLast? with
  | some (.Return (some (.Call _ _ [⟨_,.Lambda _ _ _ pos,_⟩] _)) _)=>some pos
  | _=>none)
 | _=>none
def z7x (K:W.Frag)(c:Addr):Option Addr:=match K.lookup c with
 | some ⟨.type "code",_,.fields vs,_⟩=>(match (vs[11]? : Option Value) with | some (.ref P)=>if (K.lookup P).isNone then some P else none | _=>none)
 | _=>none
def tsOf (K:W.Frag):List (Addr × Nat × Nat × Str):=K.filterMap λp=>match p.2.data with
 | .func fd=>(match z5m fd,fd.code with
  | some pos,.ref c=>(z7x K c).map λP=>(P,pos.line,pos.col,fd.qualname++".<locals>."++"<lambda>")
  | _,_=>none)
 | _=>none
def encT (t:Nat × Nat × Str):Array Value := #[rawInt t.1,rawInt t.2.1,.str t.2.2 0]
def Tbs (K:W.Frag)(H:Hp):Prop:=∀P t,(tsOf K).lookup P=some t->∃more,H P=some (.tbl (encT t++more))
structure Mod (K:W.Frag)(mg:WmP)(base:Heap):Prop where
 kin:K.In base
 glob:base.Ns mainGlobals mg
 blt:∃mb,base.Ns builtinsNs mb/\∀x:Str,x≠"__name__"->mb x=bootBuiltins x
 nolimit:base.NoLimit
 bm:BmAt mg base
structure Cx where
 prog:Program
 w:World
 K:W.Frag
 mg:Str->Option Value
 base:Heap
 A:Around
 N:List Str
 s₀:Shared
 H₀:Hp
 env:Env
 outer:List Env
 stack:List Env
 ex:List Addr
 fn:Str->Bool
 calm:Bool
 pn:List (Addr × Obj)
 xe:Value->Shared->Prop
def frs (l:List Env):List Addr:=l.filterMap (·.frame)
abbrev Cx.fs (X:Cx):List Addr:=frs X.outer
def Vis (sc:Scope)(x:Str):Prop:=sc.names.lookup x=some .local\/sc.names.lookup x=some .cell\/sc.names.lookup x=some .free
def Loc (sc:Scope)(x:Str):Prop:=sc.names.lookup x=some .local\/sc.names.lookup x=some .cell
def Look (env:Env)(h:Heap)(m:WmP)(x:Str)(u:Value):Prop:=
 (env.kindOf x=some .local/\m x=some u)\/((env.kindOf x=some .cell\/env.kindOf x=some .free)/\∃c,env.cells.lookup x=some c/\h.IsCell c (some u))
structure Cx.Ok (X:Cx):Prop where
 mod:Mod X.K X.mg X.base
 kind:X.env.scope.kind = .function
 glob:X.env.globals=mainGlobals
 blt:X.env.builtins=builtinsNs
 above:X.s₀.heap.objs.size<=X.env.locals
 inj:∀x y c,X.env.cells.lookup x=some c->X.env.cells.lookup y=some c->x=y
 has:∀x,(X.env.kindOf x=some .cell\/X.env.kindOf x=some .free)->∃c,X.env.cells.lookup x=some c
 cab:∀x c,X.fn x=true->X.env.cells.lookup x=some c->X.s₀.heap.objs.size<=c
 hd:X.calm=true->X.A.handled=none
 frames:X.A.frames=some X.stack
 stk:X.stack=X.outer\/(X.stack=X.env::X.outer/\X.env.frame=some X.env.locals)
 exf:∀b∈X.ex,b≠X.env.locals/\∀x c,X.env.cells.lookup x=some c->c≠b
 bs:∀b o,X.base.get? b=some o->X.s₀.heap.get? b=some o/\X.H₀ b=none
 bsz:X.base.objs.size<=X.s₀.heap.objs.size
 noex:∀b o,X.base.get? b=some o->b ∉ X.ex
 exfs:∀b∈X.ex,b ∉ X.fs
 funs:X.s₀.heap.FunFrames X.base X.outer
 frf:∀b∈X.fs,X.H₀ b=none
 tbs:Tbs X.K X.H₀
structure Inv (X:Cx)(pins:List (Addr × Obj))(σ:List (Option V))(H:Hp)(s:Shared):Prop where
 ok:X.Ok
 os:s.os=X.s₀.os
 bare:AllBare s.gens
 base:Un X.fs X.ex X.H₀ H X.s₀.heap s.heap
 loc:∃m,s.heap.Ns X.env.locals m/\∀(i:Nat) (x:Str) (v:V),X.N[i]? = some x->σ[i]? = some (some v)->Vis X.env.scope x->∃u,RelV v u/\Look X.env s.heap m x u
 cell:∀x c,X.env.cells.lookup x=some c->∃v,s.heap.IsCell c v
 free:H X.env.locals=none
 freeC:∀x c,X.env.cells.lookup x=some c->H c=none
 pin:∀p∈X.pn++pins,s.heap.get? p.1=some p.2/\H p.1=none/\p.1≠X.env.locals/\p.1 ∉ X.fs/\∀v,p.2.data ≠ .cell v
 hok:HOk X.prog X.w H s.heap
 len:σ.length=X.N.length
section
variable {X:Cx}{pins:List (Addr × Obj)}{σ:List (Option V)}{H H':Hp}{s:Shared}{h':Heap}
def Cx.Ok.nofr (ok:X.Ok)(e:X.base.get? b=some o):b ∉ X.fs:=λhb=>by
 have:=(ok.funs.mem hb).1;rw[e] at this;cases this
theorem Inv.bs (I:Inv X pins σ H s):∀b o,X.base.get? b=some o->s.heap.get? b=some o/\H b=none:=λb o e=>
 ⟨I.base.keep b o (I.ok.bs b o e).1 (I.ok.bs b o e).2 (I.ok.nofr e) (I.ok.noex b o e),I.base.free b o (I.ok.bs b o e).1 (I.ok.bs b o e).2 (I.ok.noex b o e)⟩
def Inv.bk (I:Inv X pins σ H s):∀b o,X.base.get? b=some o->s.heap.get? b=some o:=λb o e=>(I.bs b o e).1
theorem Inv.mod (I:Inv X pins σ H s):Mod X.K X.mg X.base:=I.ok.mod
def Inv.kIn (I:Inv X pins σ H s):X.K.In s.heap:=I.ok.mod.kin.keeps I.bk
theorem Inv.nolimit (I:Inv X pins σ H s):s.heap.NoLimit:=I.ok.mod.nolimit.keeps I.bk
theorem Inv.lt (I:Inv X pins σ H s):X.env.locals<s.heap.objs.size:=let ⟨_,hn,_⟩:=I.loc;hn.lt
def Inv.sz (I:Inv X pins σ H s):X.s₀.heap.objs.size<=s.heap.objs.size:=wO I.ok.above (um I.lt)
def Inv.nofs (I:Inv X pins σ H s)(h:s.heap.objs.size<=a):a ∉ X.fs:=λhb=>by
 obtain⟨_,o,ho,_⟩:=I.ok.funs.mem hb;exact absurd (wT (wE ho) (wO I.sz h)) (uj _)
def Inv.cne (I:Inv X pins σ H s):∀x c,X.env.cells.lookup x=some c->c≠X.env.locals:=λx c e z=>by
 obtain⟨v,o,ho,hd⟩:=I.cell x c e;obtain⟨m,⟨o',es,ep,ho',hd',_⟩,_⟩:=I.loc;rw[z,ho'] at ho;cases ho;rw[hd'] at hd;cases hd
theorem Inv.funs (I:Inv X pins σ H s):s.heap.FunFrames X.base X.outer:=by
 have all:∀(l:List Env),(∀b∈frs l,b∈X.fs)->X.s₀.heap.FunFrames X.base l->s.heap.FunFrames X.base l:=by
  intro l
  induction l with
  | nil=>intro _ _;trivial
  | cons env r ih=>
   intro hs hl;obtain⟨hk,⟨L,o,hf,hn,ho,hd⟩,hr⟩:=hl;have hL:L∈X.fs:=hs L (by unfold frs;rw[uk,hf];exact wJ);obtain⟨sl,e⟩:=I.base.slot L o ho (I.ok.frf L hL) hL λz=>I.ok.exfs L z hL;exact⟨hk,⟨L,_,hf,hn,e,hd⟩,ih (λb hb=>hs b (by unfold frs;rw[uk,hf];exact wm _ hb)) hr⟩
 exact all X.outer (λ_ hb=>hb) I.ok.funs
theorem Inv.stack (I:Inv X pins σ H s):s.heap.FunFrames X.base X.stack:=by
 rcases I.ok.stk with e | ⟨e,hf⟩
 .rw[e];exact I.funs
 .rw[e];obtain⟨m,hn,_⟩:=I.loc;refine .cons (by rw[I.ok.kind];decide) hf hn ?_ I.funs;exact Heap.get?_none_of_le (wO I.ok.bsz I.ok.above)
def Inv.stkSub (I:Inv X pins σ H s):∀b∈frs X.stack,b∈X.env.locals::X.fs:=λb hb=>by
 rcases I.ok.stk with e | ⟨e,hf⟩
 .rw[e] at hb;exact wm _ hb
 .rw[e] at hb;unfold frs at hb;rw[uk,hf] at hb;exact hb
def Inv.stkFree (I:Inv X pins σ H s):∀b∈frs X.stack,H b=none:=λb hb=>by
 rcases ww.mp (I.stkSub b hb) with e | hb
 .rw[e];exact I.free
 .obtain⟨_,o,ho,_⟩:=I.ok.funs.mem hb;exact I.base.free b o ho (I.ok.frf b hb) λz=>I.ok.exfs b z hb
theorem Inv.tbs (I:Inv X pins σ H s):Tbs X.K H:=λP t e=>by
 obtain⟨m1,e1⟩:=I.ok.tbs P t e;obtain⟨m2,e2⟩:=I.base.tbls P _ e1;exact⟨m1++m2,by rw[e2,Array.append_assoc]⟩
def Inv.step {g':Array GenState}{t':Nat}{d':Drawn}{ch:List Addr}(I:Inv X pins σ H s)
  (hch:∀b∈ch,(b∈X.ex\/X.s₀.heap.objs.size<=b)/\b≠X.env.locals/\(∀x c,X.env.cells.lookup x=some c->c≠b)/\∀p∈X.pn++pins,p.1≠b)
  (keep:∀b o,b≠X.env.locals->b ∉ X.fs->b ∉ ch->s.heap.get? b=some o->H b=none->h'.get? b=some o)
  (slot:∀b o,b≠X.env.locals->b∈X.fs->b ∉ ch->s.heap.get? b=some o->H b=none->∃sl,h'.get? b=some { o with slots:=sl }) (free:∀b o,b ∉ ch->s.heap.get? b=some o->H b=none->H' b=none)
  (there:∀b o,b ∉ ch->s.heap.get? b=some o->∃o',h'.get? b=some o')
  (tups:∀b xs,H b=some (.tup xs)->H' b=some (.tup xs)) (frzs:∀b o u,H b=some (.frz o u)->H' b=some (.frz o u)) (tbls:∀b ps,H b=some (.tbl ps)->∃more,H' b=some (.tbl (ps++more)))
  (ns:∀m,s.heap.Ns X.env.locals m->h'.Ns X.env.locals m) (hok:HOk X.prog X.w H' h') (hg:AllBare g'):
  Inv X pins σ H' { s with heap:=h',gens:=g',drawn:=d',toks:=t' }:=by
 have neL:∀b o,X.s₀.heap.get? b=some o->b≠X.env.locals:=λb o e=>wV (wT (wE e) I.ok.above);have neC:∀b o,X.s₀.heap.get? b=some o->b ∉ X.ex->b ∉ ch:=λb o e hx hb=>by
  rcases(hch b hb).1 with z | z
  .exact hx z
  .exact absurd (wT (wE e) z) (uj _)
 have cellK:∀x c,X.env.cells.lookup x=some c->∀v,s.heap.IsCell c v->h'.IsCell c v:=by
  rintro x c e v ⟨o,ho,hd⟩;have nch:c ∉ ch:=λz=>(hch c z).2.2.1 x c e rfl
  by_cases hc:c∈X.fs
  .obtain⟨sl,q⟩:=slot c o (I.cne x c e) hc nch ho (I.freeC x c e);exact⟨_,q,hd⟩
  .exact⟨o,keep c o (I.cne x c e) hc nch ho (I.freeC x c e),hd⟩
 refine⟨I.ok,I.os,hg,⟨λb o e n hb hx =>?_,λb o e n hb hx =>?_,λb o e n hx =>?_,λb o e hx =>?_,λb xs e=>tups b xs (I.base.tups b xs e),λb o xs e=>frzs b o xs (I.base.frzs b o xs e),λb ps e =>?_⟩,?_,λx c e =>?_,?_,λx c e =>?_,λp hp =>?_,hok,I.len⟩
 .exact keep b o (neL b o e) hb (neC b o e hx) (I.base.keep b o e n hb hx) (I.base.free b o e n hx)
 .obtain⟨sl,e1⟩:=I.base.slot b o e n hb hx;obtain⟨sl',e2⟩:=slot b _ (neL b o e) hb (neC b o e hx) e1 (I.base.free b o e n hx);exact⟨sl',e2⟩
 .obtain⟨o',e1⟩:=I.base.there b o e hx;exact free b o' (neC b o e hx) e1 (I.base.free b o e n hx)
 .obtain⟨o',e1⟩:=I.base.there b o e hx;exact there b o' (neC b o e hx) e1
 .obtain⟨m1,e1⟩:=I.base.tbls b ps e;obtain⟨m2,e2⟩:=tbls b _ e1;exact⟨m1++m2,by rw[e2,Array.append_assoc]⟩
 .obtain⟨m,hn,hl⟩:=I.loc;refine⟨m,ns m hn,λi x v e1 e2 e3 =>?_⟩;obtain⟨u,r,l⟩:=hl i x v e1 e2 e3;refine⟨u,r,?_⟩
  rcases l with l | ⟨k,c,e,z⟩
  .exact .inl l
  .exact .inr ⟨k,c,e,cellK x c e _ z⟩
 .obtain⟨v,z⟩:=I.cell x c e;exact⟨v,cellK x c e v z⟩
 .obtain⟨m,⟨o,_,_,ho,_⟩,_⟩:=I.loc;exact free _ o (λz=>(hch _ z).2.1 rfl) ho I.free
 .obtain⟨v,o,ho,hd⟩:=I.cell x c e;exact free c o (λz=>(hch c z).2.2.1 x c e rfl) ho (I.freeC x c e)
 .obtain⟨e,n,ne,nf,d⟩:=I.pin p hp;have nch:p.1 ∉ ch:=λz=>(hch p.1 z).2.2.2 p hp rfl;exact⟨keep p.1 p.2 ne nf nch e n,free p.1 p.2 nch e n,ne,nf,d⟩
def Inv.un {t':Nat}(I:Inv X pins σ H s)(u:Un X.fs [] H H' s.heap h')(hok:HOk X.prog X.w H' h'):Inv X pins σ H' { s with heap:=h',toks:=t' }:=by
 obtain⟨m,⟨o,es,ep,ho,r⟩,_⟩:=id I.loc;obtain⟨sl,hL⟩:=u.any ho I.free (by simp);exact I.step (g':=s.gens) (d':=s.drawn) (ch:=[]) (λ_ z=>nomatch z) (λb o _ hb _ e n=>u.keep b o e n hb (by simp)) (λb o _ hb _ e n=>u.slot b o e n hb (by simp)) (λb o _ e n=>u.free b o e n (by simp)) (λb o _ e=>u.there b o e (by simp)) u.tups u.frzs u.tbls (λm' hm=>by
  obtain⟨o',es',ep',ho',r'⟩:=hm;rw[ho] at ho';cases ho';exact⟨_,es',ep',hL,r'⟩) hok I.bare
def Inv.call {t':Nat}(I:Inv X pins σ H s)(u:Un (frs X.stack) ch H H' s.heap h')(hok:HOk X.prog X.w H' h')(hg:AllBare g')
  (hch:∀b∈ch,(b∈X.ex\/X.s₀.heap.objs.size<=b)/\b≠X.env.locals/\(∀x c,X.env.cells.lookup x=some c->c≠b)/\∀p∈X.pn++pins,p.1≠b):
  Inv X pins σ H' { s with heap:=h',gens:=g',drawn:=d',toks:=t' }:=by
 obtain⟨m,⟨o,es,ep,ho,r⟩,_⟩:=id I.loc;obtain⟨sl,hL⟩:=u.any ho I.free λz=>(hch _ z).2.1 rfl;exact I.step (ch:=ch) hch (λb o hL hb hc e n=>u.keep b o e n (λz=>(ww.mp (I.stkSub b z)).elim hL hb) hc) (λb o _ _ hc e n=>u.any e n hc) (λb o hc e n=>u.free b o e n hc) (λb o hc e=>u.there b o e hc) u.tups u.frzs u.tbls (λm' hm=>by
  obtain⟨o',es',ep',ho',r'⟩:=hm;rw[ho] at ho';cases ho';exact⟨_,es',ep',hL,r'⟩) hok hg
def Inv.turned {t':Nat}(I:Inv X pins σ H s)(k:∀b o,b≠it->s.heap.get? b=some o->h'.get? b=some o)(hn:H it=none)(hL:it≠X.env.locals)
  (h1:it∈X.ex\/X.s₀.heap.objs.size<=it) (h2:∀x c,X.env.cells.lookup x=some c->c≠it) (h3:∀p∈X.pn++pins,p.1≠it):Inv X pins σ H { s with heap:=h',toks:=t' }:=by
 have nit:∀b u,H b=some u->b≠it:=λb u e z=>by rw[z,hn] at e;cases e
 refine I.step (g':=s.gens) (d':=s.drawn) (ch:=[it]) (λb hb =>?_) (λb o _ _ hc e _=>k b o (λz=>hc (by simp[z])) e) (λb o _ _ hc e _=>⟨o.slots,k b o (λz=>hc (by simp[z])) e⟩) (λ_ _ _ _ n=>n)
  (λb o hc e=>⟨o,k b o (λz=>hc (by simp[z])) e⟩) (λ_ _ e=>e) (λ_ _ _ e=>e) (λb ps e=>⟨#[],by rw[e];simp⟩) (λm hm =>?_) (λb u e =>?_) I.bare
 .have e:b=it:=by simpa using hb
  subst e;exact⟨h1,hL,h2,h3⟩
 .obtain⟨o,es,ep,ho,r⟩:=hm;exact⟨o,es,ep,k _ o (vU hL) ho,r⟩
 .refine(I.hok b u e).stay (λc v hc q=>k c v ?_ q) (λ_ q=>q) λ_ _ q=>q
  rcases hc with z | z
  .rw[z];exact nit b u e
  .exact nit c _ z
def Inv.tok (I:Inv X pins σ H s)(t:Nat):Inv X pins σ H { s with toks:=t }:=I.un (h':=s.heap) (t':=t) Un.refl I.hok
theorem Inv.kept (I:Inv X pins σ H s)(k:∀b u,s.heap.get? b=some u->h'.get? b=some u):Inv X pins σ H { s with heap:=h',toks:=t' }:=I.un (Un.kept k) (I.hok.kept k)
theorem Inv.laid {a:Addr}{o:HO}{t':Nat}(I:Inv X pins σ H s)(k:∀b u,s.heap.get? b=some u->h'.get? b=some u)(hp:s.heap.objs.size<=a)(new:z1c X.prog X.w (upd H a o) h' a o):
  Inv X pins σ (upd H a o) { s with heap:=h',toks:=t' }:=I.un (Un.laid k hp (I.hok.fresh hp)) (I.hok.laid k hp new)
theorem Inv.write (I:Inv X pins σ H s)(mu:Mut (H x))(he:e=x\/H e=some (.own x))(k:∀b u,b≠e->s.heap.get? b=some u->h'.get? b=some u)(heo:∃u,h'.get? e=some u)
  (new:z1c X.prog X.w (upd H x o) h' x o):Inv X pins σ (upd H x o) { s with heap:=h',toks:=t' }:=I.un (Un.write mu he k heo) (I.hok.write mu he k heo new)
def Inv.pins_of (I:Inv X pins σ H s)(h:∀p∈pins',s.heap.get? p.1=some p.2/\H p.1=none/\p.1≠X.env.locals/\p.1 ∉ X.fs/\∀v,p.2.data ≠ .cell v):Inv X pins' σ H s:=
 ⟨I.ok,I.os,I.bare,I.base,I.loc,I.cell,I.free,I.freeC,λp hp=>(wG.mp hp).elim (λz=>I.pin p (wR _ z)) (h p),I.hok,I.len⟩
def z8j {N:List Str}(hN:N.Nodup){i j:Nat}{x:Str}(a:N[i]? = some x)(b:N[j]? = some x):i=j:=by
 obtain⟨h1,e1⟩:=wu.mp a;obtain⟨h2,e2⟩:=wu.mp b;exact(List.getElem_inj hN).mp (e1.trans e2.symm)
def z9B {E:WvP}{i:Nat}{x:Str}{v:V}{Q:Unit->Shared->Prop}(I:Inv X pins σ H s)(hN:X.N.Nodup)(hi:X.N[i]? = some x)(hx:Loc X.env.scope x)(r:RelV v u)
  (h:∀s',Inv X pins (σ.set i (some v)) H s'->(∃a,Heap.SameBut a s.heap s'.heap/\(a=X.env.locals\/X.env.cells.lookup x=some a))->Q () s') (hf:X.fn x=true\/X.env.scope.names.lookup x=some .local:=by first | exact .inl rfl | exact .inr rfl | assumption):wpAny M A (storeName X.env x u) Q E s:=by
 obtain⟨m,hn,hl⟩:=id I.loc;have hcls:(X.env.scope.kind == .class || (X.env.scope.kind == .module && X.env.locals != X.env.globals))=false:=by rw[I.ok.kind];rfl
 have hiσ:i < σ.length:=by rw[I.len];exact(wu.mp hi).1
 have cne:=I.cne;have tracked:∀{a:Addr}{h':Heap},(∃o,s.heap.get? a=some o/\H a=none)->Heap.SameBut a s.heap h'->HOk X.prog X.w H h':=λ{a h'} ha hs b ob e=>by
  obtain⟨_,_,hfree⟩:=ha;refine(I.hok b ob e).stay (λc w' hc q=>(hs.2 c ?_).trans q) (λ_ q=>q) λ_ _ q=>q;rintro rfl
  rcases hc with rfl | hc
  .rw[hfree] at e;cases e
  .rw[hfree] at hc;cases hc
 rcases hx with hk | hk
 .refine wpAny_storeName_local hk hn (λh' hn' hs =>?_) hcls;obtain⟨oL,_,_,hoL,_⟩:=id hn;refine h _ ⟨I.ok,I.os,I.bare,⟨λb o e n hb hx =>?_,λb o e n hb hx =>?_,I.base.free,λb o e hx =>?_,I.base.tups,I.base.frzs,I.base.tbls⟩,⟨_,hn',λj y v' e1 e2 e3 =>?_⟩,λy c e =>?_,I.free,I.freeC,λp hp =>?_,tracked ⟨oL,hoL,I.free⟩ hs,by simpa using I.len⟩ ⟨_,hs,.inl rfl⟩
  .exact(hs.2 b (wV (wT (wE e) I.ok.above))).trans (I.base.keep b o e n hb hx)
  .obtain⟨sl,e1⟩:=I.base.slot b o e n hb hx;exact⟨sl,(hs.2 b (wV (wT (wE e) I.ok.above))).trans e1⟩
  .obtain⟨o',e1⟩:=I.base.there b o e hx;exact⟨o',(hs.2 b (wV (wT (wE e) I.ok.above))).trans e1⟩
  .by_cases hj:j=i
   .subst hj;rw[hi] at e1;cases e1;rw[wW hiσ] at e2
    cases e2
    exact⟨u,r,.inl ⟨hk,by simp⟩⟩
   .rw[wI (vU hj)] at e2;obtain⟨u',r',q⟩:=hl j y v' e1 e2 e3;refine⟨u',r',?_⟩
    rcases q with ⟨k,e⟩ | ⟨k,c,e,z⟩
    .refine .inl ⟨k,?_⟩;have:y≠x:=λe=>hj (z8j hN e1 (e ▸ hi));simp[this,e]
    .exact .inr ⟨k,c,e,z.sameBut hs (cne y c e)⟩
  .obtain⟨w',z⟩:=I.cell y c e;exact⟨w',z.sameBut hs (cne y c e)⟩
  .obtain⟨e,n,ne,nf,d⟩:=I.pin p hp;exact⟨(hs.2 p.1 ne).trans e,n,ne,nf,d⟩
 .have hfn:X.fn x=true:=by
   rcases hf with z | z
   .exact z
   .rw[z] at hk;cases hk
  obtain⟨c,hc⟩:=I.ok.has x (.inl hk);obtain⟨w',z⟩:=I.cell x c hc;refine wpAny_storeName_cell I.ok.kind hk hc z (λh' hc' hs =>?_);obtain⟨oc,hoc,hocd⟩:=id z;refine h { s with heap:=h' } ⟨I.ok,I.os,I.bare,⟨λb o e n hb hx =>?_,λb o e n hb hx =>?_,I.base.free,λb o e hx =>?_,I.base.tups,I.base.frzs,I.base.tbls⟩,⟨m,hn.sameBut hs (vU (cne x c hc)),λj y v' e1 e2 e3 =>?_⟩,λy c' e =>?_,I.free,I.freeC,λp hp =>?_,tracked ⟨oc,hoc,I.freeC x c hc⟩ hs,by simpa using I.len⟩ ⟨c,hs,.inr hc⟩
  .exact(hs.2 b (wV (wT (wE e) (I.ok.cab x c hfn hc)))).trans (I.base.keep b o e n hb hx)
  .obtain⟨sl,e1⟩:=I.base.slot b o e n hb hx;exact⟨sl,(hs.2 b (wV (wT (wE e) (I.ok.cab x c hfn hc)))).trans e1⟩
  .obtain⟨o',e1⟩:=I.base.there b o e hx;exact⟨o',(hs.2 b (wV (wT (wE e) (I.ok.cab x c hfn hc)))).trans e1⟩
  .by_cases hj:j=i
   .subst hj;rw[hi] at e1;cases e1;rw[wW hiσ] at e2
    cases e2
    exact⟨u,r,.inr ⟨.inl hk,c,hc,hc'⟩⟩
   .rw[wI (vU hj)] at e2;obtain⟨u',r',q⟩:=hl j y v' e1 e2 e3;refine⟨u',r',?_⟩
    rcases q with q | ⟨k,c',e,z'⟩
    .exact .inl q
    .refine .inr ⟨k,c',e,z'.sameBut hs ?_⟩;rintro rfl;exact hj (z8j hN e1 (I.ok.inj _ _ _ e hc ▸ hi))
  .by_cases hcc:c'=c
   .subst hcc;exact⟨_,hc'⟩
   .obtain⟨w2,z2⟩:=I.cell y c' e;exact⟨w2,z2.sameBut hs hcc⟩
  .obtain⟨e,n,ne,nf,d⟩:=I.pin p hp;refine⟨(hs.2 p.1 ?_).trans e,n,ne,nf,d⟩;intro q;rw[q,hoc] at e;have q':oc=p.2:=vk e;exact d w' (by rw[<- q'];exact hocd)
def z81 {v:V}(I:Inv X pins σ H s)(hN:X.N.Nodup)(hi:X.N[i]? = some x)(hx:Loc X.env.scope x)(r:RelV v u)
  (h:∀s',Inv X pins (σ.set i (some v)) H s'->Q () s') (hf:X.fn x=true\/X.env.scope.names.lookup x=some .local:=by first | exact .inl rfl | exact .inr rfl | assumption):wpAny M A (storeName X.env x u) Q E s:=
 z9B I hN hi hx r (λs' I' _=>h s' I') hf
def Inv.call' (I:Inv X pins σ H s)(ho:s'.os=s.os)(u:Un (frs X.stack) ch H H' s.heap s'.heap)(hok:HOk X.prog X.w H' s'.heap)(hg:AllBare s'.gens)
  (hch:∀b∈ch,(b∈X.ex\/X.s₀.heap.objs.size<=b)/\b≠X.env.locals/\(∀x c,X.env.cells.lookup x=some c->c≠b)/\∀p∈X.pn++pins,p.1≠b):Inv X pins σ H' s':=by
 obtain⟨h',g',d',t',o'⟩:=s';have e:o'=s.os:=ho;subst e;exact I.call (g':=g') (t':=t') (d':=d') u hok hg hch
end
abbrev XK:=Value->Option Addr->Hp->Prop
abbrev St:=List (Option V)
abbrev VK:=V->Hp->Prop
abbrev TE:=St->Hp->VK->Prop
abbrev TT:=St->Hp->(Bool->Hp->Prop)->Prop
abbrev TA:=St->Hp->(List V->Hp->Prop)->Prop
structure Ends where
 nx:St->Hp->Prop
 rt:VK
 bk:St->Hp->Prop:=λ_ _=>False
 ct:St->Hp->Prop:=λ_ _=>False
abbrev TS:=Ends->St->Hp->Prop
def EP (X:Cx)(pins:List (Addr × Obj))(σ:St)(Q:VK)(u:Value)(s':Shared):Prop:=∃v H',Inv X pins σ H' s'/\RelV v u/\Q v H'
def TP (X:Cx)(pins:List (Addr × Obj))(σ:St)(Q:Bool->Hp->Prop)(b:Bool)(s':Shared):Prop:=∃H',Inv X pins σ H' s'/\Q b H'
def AP (X:Cx)(pins:List (Addr × Obj))(σ:St)(Q:List V->Hp->Prop)(us:List Value)(s':Shared):Prop:=∃vs H',Inv X pins σ H' s'/\Vals vs us/\Q vs H'
def SP (X:Cx)(pins:List (Addr × Obj))(D:Ends)(f:Flow)(s':Shared):Prop:=
 match f with
 | .next=>∃σ' H',Inv X pins σ' H' s'/\D.nx σ' H'
 | .brk=>∃σ' H',Inv X pins σ' H' s'/\D.bk σ' H'
 | .cont=>∃σ' H',Inv X pins σ' H' s'/\D.ct σ' H'
 | .ret u=>∃v σ' H',Inv X pins σ' H' s'/\RelV v u/\D.rt v H'
def PE (X:Cx)(e:Expr)(t:TE):Prop:=
 ∀(pins:List (Addr × Obj)) (s:Shared) (σ:St) (H:Hp) (Q:VK),Inv X pins σ H s->t σ H Q->wpAny (model X.prog X.w) X.A (eval e X.env) (EP X pins σ Q) X.xe s
def PT (X:Cx)(e:Expr)(t:TT):Prop:=
 ∀(pins:List (Addr × Obj)) (s:Shared) (σ:St) (H:Hp) (Q:Bool->Hp->Prop),Inv X pins σ H s->t σ H Q->wpAny (model X.prog X.w) X.A (isTrue e X.env (eval e X.env)) (TP X pins σ Q) X.xe s
def PW (X:Cx)(e:Expr)(t:TT):Prop:=
 ∀(whole:Sem Value) (pins:List (Addr × Obj)) (s:Shared) (σ:St) (H:Hp) (Q:Bool->Hp->Prop),Inv X pins σ H s->t σ H Q->wpAny (model X.prog X.w) X.A (isTrue e X.env whole) (TP X pins σ Q) X.xe s
def PW.pt (h:PW X e t):PT X e t:=h _
def PA (X:Cx)(es:List Expr)(t:TA):Prop:=
 ∀(pos:Pos) (pins:List (Addr × Obj)) (s:Shared) (σ:St) (H:Hp) (Q:List V->Hp->Prop),Inv X pins σ H s->t σ H Q->wpAny (model X.prog X.w) X.A (spliced (backTo pos (starEach es X.env))) (AP X pins σ Q) X.xe s
def PS (X:Cx)(st:Stmt)(t:TS):Prop:=
 ∀(pins:List (Addr × Obj)) (s:Shared) (σ:St) (H:Hp) (D:Ends),Inv X pins σ H s->t D σ H->wpAny (model X.prog X.w) X.A (exec st X.env) (SP X pins D) X.xe s
def PSs (X:Cx)(st:List Stmt)(t:TS):Prop:=
 ∀(pins:List (Addr × Obj)) (s:Shared) (σ:St) (H:Hp) (D:Ends),Inv X pins σ H s->t D σ H->wpAny (model X.prog X.w) X.A (execs st X.env) (SP X pins D) X.xe s
def thn {α:Type}{t:Sem α}{Q Q':α->Shared->Prop}{M:Model}{A:Around}{E:WvP}{s:Shared}(h:wpAny M A t Q E s)(hQ:∀a s,Q a s->Q' a s):wpAny M A t Q' E s:=vK h hQ λ_ _ x=>x
section
variable {X:Cx}
def tVar (i:Nat):TE:=λσ H Q=>∃v,σ[i]? = some (some v)/\Q v H
def tC (v:V):TE:=λ_ H Q=>Q v H
def zdB (hN:X.N[i]? = some x)(hv:Vis X.env.scope x)(hd:(x == ("__debug__":Str))=false:=by decide)(hcd:(x == ("__classdict__":Str))=false:=by decide):PE X (.Name x pos) (tVar i):=by
 x_go;obtain⟨v,e,h⟩:=h;obtain⟨m,hn,hl⟩:=I.loc;obtain⟨u,r,l⟩:=hl i x v hN e hv;have fin:EP X pins σ Q u s:=⟨v,H,I,r,h⟩
 rcases l with ⟨hk,hm⟩ | ⟨hk,c,hc,hcell⟩
 .exact wpAny_Name (wpAny_loadName_local I.ok.kind hk hn hm fin) hd
 .rcases hk with hk | hk
  .exact wpAny_Name (wpAny_loadName_cell I.ok.kind hk hc hcell fin) hd
  .exact wpAny_Name (wpAny_loadName_free I.ok.kind hk hc hcell fin hcd) hd
def zh6 {i j pos}:PE X (.Constant (.int i) j pos) (tC (.int i)):=λ_ _ _ H _ I h=>wpAny_Constant_int ⟨.int i,H,I.tok _,⟨_,rfl⟩,h⟩
def zj6 {b j pos}:PE X (.Constant (.bool b) j pos) (tC (.bl b)):=λ_ _ _ H _ I h=>Constant_bool ⟨.bl b,H,I,rfl,h⟩
def zh3 {j pos}:PE X (.Constant .none j pos) (tC .non):=λ_ _ _ H _ I h=>Constant_none ⟨.non,H,I,rfl,h⟩
def Gl (X:Cx)(x:Str):Prop:=X.env.kindOf x=some .globalImplicit
def zaM (I:Inv X pins σ H s)(hg:Gl X x)(hm:X.mg x=some u)(h:Q u s)
  (hd:(x == ("__debug__":Str))=false:=by decide):wpAny (model X.prog X.w) X.A (eval (.Name x pos) X.env) Q E s:=
 Calls.Name_function_global I.ok.kind hg (Calls.loadGlobal_global (by rw[I.ok.glob];exact I.mod.glob.keeps I.bk) hm h) hd
def z40 (I:Inv X pins σ H s)(hg:Gl X x)(hm:X.mg x=none)(hv:bootBuiltins x=some u)(h:Q u s)
  (hn:x≠"__name__":=by decide) (hd:(x == ("__debug__":Str))=false:=by decide):wpAny (model X.prog X.w) X.A (eval (.Name x pos) X.env) Q E s:=by
 obtain⟨mb,h1,h2⟩:=I.mod.blt;exact Calls.Name_function_global I.ok.kind hg (Calls.loadGlobal_builtin (by rw[I.ok.glob];exact I.mod.glob.keeps I.bk) hm (by rw[I.ok.blt];exact h1.keeps I.bk) ((h2 x hn).trans hv) h) hd
def zal {v:V}(hg:Gl X x)(hm:X.mg x=some u)(r:RelV v u)(hd:(x == ("__debug__":Str))=false:=by decide):PE X (.Name x pos) (tC v):=
 λ_ _ _ H _ I h=>zaM I hg hm ⟨v,H,I,r,h⟩ hd
def zeS {v:V}(hg:Gl X x)(hm:X.mg x=none)(hv:bootBuiltins x=some u)(r:RelV v u)(hn:x≠"__name__":=by decide)(hd:(x == ("__debug__":Str))=false:=by decide):PE X (.Name x pos) (tC v):=
 λ_ _ _ H _ I h=>z40 I hg hm hv ⟨v,H,I,r,h⟩ hn hd
variable {a b:Expr}{ta tb:TE}{pos:Pos}
def tB (t:TE):TT:=λσ H Q=>t σ H λx H1=>∃c,x = .bl c/\Q c H1
def zgT (h:PE X e t)(he:∀whole,isTrue e X.env whole=(do let v <- whole;standAt e.pos;holding [v] (truthy v)):=by intro _;rfl):PT X e (tB t):=by
 intro pins s σ H Q I hw;refine isTrue_plain (thn (h pins s σ H _ I hw) λv s1 z9 =>?_) (he _);obtain⟨x,H1,I1,r1,q1⟩:=z9;obtain⟨d,rfl,q⟩:=q1
 cases r1
 exact jm ⟨H1,I1,q⟩
variable {tA tB':TT}{rest:List Expr}
def tAnd (t u:TT):TT:=λσ H Q=>t σ H λc H1=>if c=true then u σ H1 Q else Q false H1
def tOr (t u:TT):TT:=λσ H Q=>t σ H λc H1=>if c=true then Q true H1 else u σ H1 Q
def tNot (t:TT):TT:=λσ H Q=>t σ H λc H1=>Q (!c) H1
def zeH (ha:PT X a tA):PW X (.BoolOp .And [a] pos) tA:=by
 intro wh pins s σ H Q I h;refine isTrue_and (thn (ha pins s σ H Q I h) λc s1 e =>?_)
 cases c with
 | true=>exact isTrue_and_nil e
 | false=>exact e
def zgR (ha:PT X a tA):PW X (.BoolOp .Or [a] pos) tA:=by
 intro wh pins s σ H Q I h;refine isTrue_or (thn (ha pins s σ H Q I h) λc s1 e =>?_)
 cases c with
 | false=>exact isTrue_or_nil e
 | true=>exact e
def zgS (ha:PT X a tA)(hb:PW X (.BoolOp .And (b::rest) pos) tB'):PW X (.BoolOp .And (a::b::rest) pos) (tAnd tA tB'):=by
 intro wh pins s σ H Q I h;refine isTrue_and (thn (ha pins s σ H _ I h) λc s1 z9 =>?_);obtain⟨H1,I1,q1⟩:=z9
 cases c with
 | true=>exact hb wh pins s1 σ H1 Q I1 q1
 | false=>exact⟨H1,I1,q1⟩
def ziY (ha:PT X a tA)(hb:PW X (.BoolOp .Or (b::rest) pos) tB'):PW X (.BoolOp .Or (a::b::rest) pos) (tOr tA tB'):=by
 intro wh pins s σ H Q I h;refine isTrue_or (thn (ha pins s σ H _ I h) λc s1 z9 =>?_);obtain⟨H1,I1,q1⟩:=z9
 cases c with
 | true=>exact⟨H1,I1,q1⟩
 | false=>exact hb wh pins s1 σ H1 Q I1 q1
def zgU (ha:PT X a tA):PT X (.UnaryOp .Not a pos) (tNot tA):=by
 x_go;exact isTrue_not (ha pins s σ H (λc H1=>Q (!c) H1) I h)
def zfS (ta tb:TE):TE:=λσ H Q=>ta σ H λx H1=>∃c,x = .bl c/\if c=true then tb σ H1 Q else Q (.bl false) H1
def tOrV (ta tb:TE):TE:=λσ H Q=>ta σ H λx H1=>∃c,x = .bl c/\if c=true then Q (.bl true) H1 else tb σ H1 Q
def zfO (ta:TE):TE:=λσ H Q=>ta σ H λx H1=>∃c,x = .bl c/\Q (.bl (!c)) H1
def zh1 {op}(h:PE X a t):PE X (.BoolOp op [a] pos) t:=λpins s σ H Q I hw=>BoolOp_one (h pins s σ H Q I hw)
def zh8 (ha:PE X a ta)(hb:PE X (.BoolOp .And (b::rest) pos) tb):PE X (.BoolOp .And (a::b::rest) pos) (zfS ta tb):=by
 x_go;refine BoolOp_and (thn (ha pins s σ H _ I h) λv s1 z9 =>?_);obtain⟨x,H1,I1,r1,q1⟩:=z9;obtain⟨c,rfl,q1⟩:=q1
 cases r1
 refine jm ?_
 cases c with
 | true=>exact hb pins s1 σ H1 Q I1 q1
 | false=>exact⟨.bl false,H1,I1,rfl,q1⟩
def zj1 (ha:PE X a ta)(hb:PE X (.BoolOp .Or (b::rest) pos) tb):PE X (.BoolOp .Or (a::b::rest) pos) (tOrV ta tb):=by
 x_go;refine BoolOp_or (thn (ha pins s σ H _ I h) λv s1 z9 =>?_);obtain⟨x,H1,I1,r1,q1⟩:=z9;obtain⟨c,rfl,q1⟩:=q1
 cases r1
 refine jm ?_
 cases c with
 | false=>exact hb pins s1 σ H1 Q I1 q1
 | true=>exact⟨.bl true,H1,I1,rfl,q1⟩
def zh2 (ha:PE X a ta):PE X (.UnaryOp .Not a pos) (zfO ta):=by
 x_go;refine UnaryOp_ (thn (ha pins s σ H _ I h) λv s1 z9 =>?_);obtain⟨x,H1,I1,r1,q1⟩:=z9;obtain⟨c,rfl,q1⟩:=q1
 cases r1
 exact not_of (jm ⟨.bl (!c),H1,I1,rfl,q1⟩)
end
def SqL (K:W.Frag)(H:Hp)(a:Addr)(xs:List V):Prop:=
 Rd H a (.lst xs)\/
  ∃(o:Obj) (its:Array Value) (n:Nat),K.lookup a=some o/\o.cls = .type "list"/\o.dict=none/\o.data = .seq its n/\its.size<=sizeLine/\Vals xs its.toList
def SqT (K:W.Frag)(H:Hp)(a:Addr)(xs:List V):Prop:=
 Rd H a (.tup xs)\/
  ∃(o:Obj) (its:Array Value) (n:Nat),K.lookup a=some o/\o.cls = .type "tuple"/\o.data = .seq its n/\its.size<=sizeLine/\Vals xs its.toList/\o.dict=none
def absV:Value->Option V
 | .none=>some .non
 | .bool b=>some (.bl b)
 | .int i _=>some (.int i)
 | .str x _=>some (.str x)
 | .bytes b _=>some (.byt b)
 | .float b _=>some (.flt b)
 | .ref a=>some (.ref a)
 | .type n=>some (.ty n)
 | _=>none
def RelV.abs (r:RelV x u):absV u=some x:=by
 cases x with
 | non=>cases r;rfl
 | bl _=>cases r;rfl
 | int _=>obtain⟨t,rfl⟩:=r;rfl
 | str _=>obtain⟨t,rfl⟩:=r;rfl
 | byt _=>obtain⟨t,rfl⟩:=r;rfl
 | flt _=>obtain⟨t,rfl⟩:=r;rfl
 | ref _=>cases r;rfl
 | ty _=>cases r;rfl
def RelV.inj {x y:V}{u:Value}(r:RelV x u)(q:RelV y u):x=y:=vk (r.abs.symm.trans q.abs)
theorem Vals.inj:∀{xs ys:List V}{us:List Value},Vals xs us->Vals ys us->xs=ys
 | _,_,_,.nil,.nil=>rfl
 | _,_,_,.cons r t,.cons r' t'=>by rw[r.inj r',Vals.inj t t']
section
variable {X:Cx}{pins:List (Addr × Obj)}{σ:St}{H:Hp}{s:Shared}{a:Addr}{xs ys:List V}
def SqL.of {K:W.Frag}(h:H a=some (.lst xs)):SqL K H a xs :=.inl (.inl h)
def SqT.of {K:W.Frag}(h:H a=some (.tup xs)):SqT K H a xs :=.inl (.inl h)
def Inv.list (I:Inv X pins σ H s)(h:SqL X.K H a xs):∃its:List Value,Vals xs its/\PlainL s.heap a its.toArray/\xs.length<=sizeLine:=by
 rcases h with h | ⟨o,its,n,hk,hc,hd,hs,hz,r⟩
 .obtain⟨z,its,n,r,e⟩:=h.ok I.hok;exact⟨its,r,⟨_,n,e,rfl,rfl,rfl⟩,z⟩
 .refine⟨its.toList,r,⟨o,n,I.kIn a o hk,hc,hd,by simpa using hs⟩,?_⟩;have e:=r.length;simp only[vA] at e;lia
def Inv.tuple (I:Inv X pins σ H s)(h:SqT X.K H a xs):∃its:List Value,Vals xs its/\IsTup s.heap a its.toArray/\xs.length<=sizeLine:=by
 rcases h with h | ⟨o,its,n,hk,hc,hs,hz,r,_⟩
 .obtain⟨z,its,r,p,_⟩:=h.ok I.hok;exact⟨its,r,p,z⟩
 .refine⟨its.toList,r,⟨o,I.kIn a o hk,hc,n,by simpa using hs⟩,?_⟩;have e:=r.length;simp only[vA] at e;lia
def Inv.list_inj (I:Inv X pins σ H s)(h:SqL X.K H a xs)(h':SqL X.K H a ys):xs=ys:=by
 obtain⟨its,r,⟨o,n,e,_,_,d⟩,_⟩:=I.list h;obtain⟨its',r',⟨o',n',e',_,_,d'⟩,_⟩:=I.list h';rw[e] at e';cases e';rw[d] at d'
 injection d' with d1 _
 have:its=its':=by simpa using congrArg Array.toList d1
 subst this;exact r.inj r'
def Inv.tuple_inj (I:Inv X pins σ H s)(h:SqT X.K H a xs)(h':SqT X.K H a ys):xs=ys:=by
 obtain⟨its,r,⟨o,e,_,n,d⟩,_⟩:=I.tuple h;obtain⟨its',r',⟨o',e',_,n',d'⟩,_⟩:=I.tuple h';rw[e] at e';cases e';rw[d] at d'
 injection d' with d1 _
 have:its=its':=by simpa using congrArg Array.toList d1
 subst this;exact r.inj r'
end
abbrev Cx.wish (X:Cx)(E:WvP):Cx:={ X with xe:=E }
abbrev Cx.nox (X:Cx):Cx:=X.wish λ_ _=>False
theorem Cx.Ok.wish {X:Cx}(ok:X.Ok)(E:WvP):(X.wish E).Ok:=
 ⟨ok.mod,ok.kind,ok.glob,ok.blt,ok.above,ok.inj,ok.has,ok.cab,ok.hd,ok.frames,ok.stk,ok.exf,ok.bs,ok.bsz,ok.noex,ok.exfs,ok.funs,ok.frf,ok.tbs⟩
def Cx.Ok.unwish {X:Cx}{E:WvP}(ok:(X.wish E).Ok):X.Ok:=
 ⟨ok.mod,ok.kind,ok.glob,ok.blt,ok.above,ok.inj,ok.has,ok.cab,ok.hd,ok.frames,ok.stk,ok.exf,ok.bs,ok.bsz,ok.noex,ok.exfs,ok.funs,ok.frf,ok.tbs⟩
section
variable {X:Cx}{pins:List (Addr × Obj)}{σ:St}{H:Hp}{s:Shared}{E:WvP}
theorem Inv.wish (I:Inv X pins σ H s)(E:WvP):Inv (X.wish E) pins σ H s:=⟨I.ok.wish E,I.os,I.bare,I.base,I.loc,I.cell,I.free,I.freeC,I.pin,I.hok,I.len⟩
theorem Inv.unwish (I:Inv (X.wish E) pins σ H s):Inv X pins σ H s:=⟨I.ok.unwish,I.os,I.bare,I.base,I.loc,I.cell,I.free,I.freeC,I.pin,I.hok,I.len⟩
theorem SP.unwish {D:Ends}{f:Flow}{s':Shared}(h:SP (X.wish E) pins D f s'):SP X pins D f s':=by
 cases f with
 | next=>obtain⟨σ',H',I,q⟩:=h;exact⟨σ',H',I.unwish,q⟩
 | brk=>obtain⟨σ',H',I,q⟩:=h;exact⟨σ',H',I.unwish,q⟩
 | cont=>obtain⟨σ',H',I,q⟩:=h;exact⟨σ',H',I.unwish,q⟩
 | ret u=>obtain⟨v,σ',H',I,r,q⟩:=h;exact⟨v,σ',H',I.unwish,r,q⟩
theorem PSs.nox {st:List Stmt}(h:PSs X.nox st t):PSs X st t:=λpins s σ H D I hw=>
 vK (h pins s σ H D (I.wish _) hw) (λ_ _ q=>q.unwish) λ_ _ z=>False.elim z
end
section
variable {X:Cx}{st:Stmt}{rest:List Stmt}{t u:TS}{e:Expr}{te:TE}{pos:Pos}
def zfP:TS:=λD σ H=>D.nx σ H
def tSeq (t u:TS):TS:=λD σ H=>t { D with nx:=u D } σ H
def zeK:PSs X [] zfP:=λ_ _ σ H _ I h=>wpAny_execs_nil ⟨σ,H,I,h⟩
def zci (h1:PS X st t)(h2:PSs X rest u):PSs X (st::rest) (tSeq t u):=by
 intro pins s σ H D I h;refine wpAny_execs_cons (thn (h1 pins s σ H { D with nx:=u D } I h) λf s1 q =>?_)
 cases f with
 | next=>
  obtain⟨σ',H',I',q⟩:=q;exact h2 pins s1 σ' H' D I' q
 | ret v=>exact q
 | brk=>exact q
 | cont=>exact q
def zeJ (h1:PS X st t):PSs X [st] t:=by
 intro pins s σ H D I h;refine wpAny_execs_cons (thn (h1 pins s σ H D I h) λf s1 q =>?_)
 cases f with
 | next=>exact wpAny_execs_nil q
 | ret v=>exact q
 | brk=>exact q
 | cont=>exact q
def Inv.quiet {pins:List (Addr × Obj)}{σ:St}{H:Hp}{s:Shared}(I:Inv X pins σ H s):interactive X.env=false:=by simp[interactive,I.ok.kind]
def zfQ (te:TE):TS:=λD σ H=>te σ H λ_ H1=>D.nx σ H1
def zeL (he:PE X e te)(hs:swapsWith e none pos.line X.env=pure false:=by rfl):PS X (.Expr e pos) (zfQ te):=by
 intro pins s σ H D I h;exact wpAny_Expr_any (thn (he pins s σ H _ I h) λv s1 ⟨x,H1,I1,r1,q1⟩=>⟨σ,H1,I1,q1⟩) I.quiet hs
def tRet (te:TE):TS:=λD σ H=>te σ H D.rt
def zgW (he:PE X e te):PS X (.Return (some e) pos) (tRet te):=by
 intro pins s σ H D I h;exact wpAny_Return_some (thn (he pins s σ H _ I h) λv s1 ⟨x,H1,I1,r1,q1⟩=>⟨x,σ,H1,I1,r1,q1⟩)
def tIfS (c:TT)(t u:TS):TS:=λD σ H=>c σ H λb H1=>if b=true then t D σ H1 else u D σ H1
def ziZ {c:Expr}(hc:PT X c tc)(ha:PSs X a t)(hb:PSs X b u):PS X (.If c a b pos) (tIfS tc t u):=by
 intro pins s σ H D I h;refine wpAny_If (thn (hc pins s σ H _ I h) λd s1 z9 =>?_);obtain⟨H1,I1,q1⟩:=z9
 cases d with
 | true=>exact ha pins s1 σ H1 D I1 q1
 | false=>exact hb pins s1 σ H1 D I1 q1
def zdn:TS:=λ_ _ _=>False
def zck:PS X st zdn:=λ_ _ _ _ _ _ h=>h.elim
end
abbrev TG:=V->St->Hp->(St->Hp->Prop)->Prop
abbrev TGs:=List V->St->Hp->(St->Hp->Prop)->Prop
def PG (X:Cx)(target:Expr)(t:TG):Prop:=
 ∀(pins:List (Addr × Obj)) (s:Shared) (σ:St) (H:Hp) (v:V) (u:Value) (Q:St->Hp->Prop),Inv X pins σ H s->RelV v u->t v σ H Q->
  wpAny (model X.prog X.w) X.A (assign target X.env u) (λ_ s'=>∃σ' H',Inv X pins σ' H' s'/\Q σ' H') X.xe s
def PGs (X:Cx)(ts:List Expr)(t:TGs):Prop:=
 ∀(pins:List (Addr × Obj)) (s:Shared) (σ:St) (H:Hp) (vs:List V) (us:List Value) (Q:St->Hp->Prop),Inv X pins σ H s->Vals vs us->t vs σ H Q->
  wpAny (model X.prog X.w) X.A (assignInOrder ((assignEach ts X.env).map (·.2)) us) (λ_ s'=>∃σ' H',Inv X pins σ' H' s'/\Q σ' H') X.xe s
section
variable {X:Cx}{pos:Pos}
def z47 (i:Nat):TG:=λv σ H Q=>Q (σ.set i (some v)) H
def zak (hN:X.N.Nodup)(hi:X.N[i]? = some x)(hx:Loc X.env.scope x)(hf:X.fn x=true\/X.env.scope.names.lookup x=some .local:=by first | exact .inl rfl | exact .inr rfl | assumption):PG X (.Name x pos) (z47 i):=by
 intro pins s σ H v u Q I r h;exact wpAny_assign_Name (z81 I hN hi hx r (λs' I'=>⟨_,H,I',h⟩) hf)
def gNil:TGs:=λvs σ H Q=>vs=[]/\Q σ H
def zcY (t:TG)(u:TGs):TGs:=λvs σ H Q=>∃v r,vs=v::r/\t v σ H λσ' H'=>u r σ' H' Q
def zeO:PGs X [] gNil:=by
 intro pins s σ H vs us Q I r h;obtain⟨e,h⟩:=h;subst e
 cases r
 exact assignInOrder_nil ⟨σ,H,I,h⟩
def zcm (h1:PG X e t)(h2:PGs X es u)
  (hs:(assignEach (e::es) X.env).map (·.2)=assign e X.env::(assignEach es X.env).map (·.2):=by rfl):PGs X (e::es) (zcY t u):=by
 intro pins s σ H vs us Q I r h;obtain⟨v,vr,e1,h⟩:=h;subst e1
 cases r with
 | cons r rr=>
  rw[hs];refine assignInOrder_cons (thn (h1 pins s σ H _ _ _ I r h) λ_ s1 z9 =>?_);obtain⟨σ1,H1,I1,q1⟩:=z9;exact h2 pins s1 σ1 H1 _ _ Q I1 rr q1
def gTup (K:W.Frag)(n:Nat)(t:TGs):TG:=λv σ H Q=>∃a xs,v = .ref a/\SqT K H a xs/\xs.length=n/\t xs σ H Q
def zgZ {k:Nat}(hc:X.calm=true)(h:PGs X es t)
  (hn:(assignEach es X.env).length=n:=by rfl) (hst:(assignEach es X.env).findIdx? (·.1)=none:=by rfl):PG X (.Tuple es k pos) (gTup X.K n t):=by
 intro pins s σ H v u Q I r hw;obtain⟨a,xs,e1,hq,hl,hw⟩:=hw;subst e1
 cases r
 obtain⟨its,rv,ht,hz⟩:=I.tuple hq;refine assign_Tuple_tuple (I.ok.hd hc) ht (by simp[hn, <- hl,rv.length]) hst λh' hx =>?_;have I1:Inv X pins σ H { s with heap:=h' }:=I.kept (t':=s.toks) λb o e=>hx b o (wV (wE e)) e;exact h pins _ σ H xs _ Q I1 (by simpa using rv) hw
def tAsg (te:TE)(g:TG):TS:=λD σ H=>te σ H λx H1=>g x σ H1 D.nx
def zgV {i:Nat}{x:Str}(hN:X.N.Nodup)(hi:X.N[i]? = some x)(hx:Loc X.env.scope x)(he:PE X e te)(hs:swapsWith e (some (.Name x pos')) pos.line X.env=pure false:=by rfl)(hf:X.fn x=true\/X.env.scope.names.lookup x=some .local:=by first | exact .inl rfl | exact .inr rfl | assumption):
  PS X (.Assign [.Name x pos'] e pos) (tAsg te (z47 i)):=by
 intro pins s σ H D I h;refine wpAny_Assign_Name (thn (he pins s σ H _ I h) λv s1 z9 =>?_) hs;obtain⟨y,H1,I1,r1,q1⟩:=z9;exact z81 I1 hN hi hx r1 (λs2 I2=>⟨_,H1,I2,q1⟩) hf
def zdm (c:TT)(tb:TS):TS:=λD σ H=>∃W:Nat->St->Hp->Prop,(∃m,W m σ H)/\∀m σ H,W m σ H->
 c σ H λb H1=>if b=true then ∃N:St->Hp->Prop,(∀σ' H',N σ' H'->∃m',m'<m/\W m' σ' H')/\tb { D with nx:=N,ct:=N,bk:=D.nx } σ H1 else D.nx σ H1
def zcj {c:Expr}(hp:PassesOwn (model X.prog X.w) X.A X.env X.xe)(hc:PT X c tc)(hb:PSs X body tb):PS X (.While c body [] pos) (zdm tc tb):=by
 intro pins s σ H D I h;obtain⟨W,⟨m0,w0⟩,turn⟩:=h;refine wpAny_While (codeAny_whileLoop (λn s'=>∃σ' H',Inv X pins σ' H' s'/\W n σ' H') ?_ m0 ⟨σ,H,I,w0⟩);rintro n s1 ⟨σ1,H1,I1,w1⟩;refine jn hp (thn (hc pins s1 σ1 H1 _ I1 (turn n σ1 H1 w1)) λb s2 z9 =>?_);obtain⟨H2,I2,q2⟩:=z9
 cases b with
 | true=>
  obtain⟨N,hN,q2⟩:=q2;rw[if_pos rfl];refine jn hp (thn (hb pins s2 σ1 H2 _ I2 q2) λf s3 q3 =>?_)
  cases f with
  | next=>
   obtain⟨σ3,H3,I3,n3⟩:=q3;obtain⟨m',hm,w3⟩:=hN σ3 H3 n3;exact⟨m',hm,σ3,H3,I3,w3⟩
  | cont=>
   obtain⟨σ3,H3,I3,n3⟩:=q3;obtain⟨m',hm,w3⟩:=hN σ3 H3 n3;exact⟨m',hm,σ3,H3,I3,w3⟩
  | brk=>exact q3
  | ret v=>exact q3
 | false=>
  rw[if_neg wU];exact wpAny_execs_nil ⟨σ1,H2,I2,q2⟩
end
structure It where
 go:Nat->Hp->Prop
 yld:Nat->Hp->V->Hp->Prop
 stop:Nat->Hp->Prop
def FpOk (X:Cx)(pins:List (Addr × Obj))(H:Hp)(b:Addr):Prop:=
 H b=none/\b≠X.env.locals/\b ∉ X.fs/\(b∈X.ex\/X.s₀.heap.objs.size<=b)/\(∀x c,X.env.cells.lookup x=some c->c≠b)/\∀p∈X.pn++pins,p.1≠b
def Inv.fpOk (I:Inv X pins σ H s)(hb:s.heap.objs.size<=b)(hn:H' b=none):FpOk X pins H' b:=by
 refine⟨hn,j9 (wT I.lt hb),I.nofs hb,.inr (wO I.sz hb),λx c e z =>?_,λp hp z =>?_⟩
 .obtain⟨v,q⟩:=I.cell x c e;exact absurd (wT q.lt (by rw[z];exact hb)) (uj _)
 .exact absurd (wT (wE (I.pin p hp).1) (by rw[z];exact hb)) (uj _)
structure Turn (P:Program)(w:World)(K:W.Frag)(tg:Expr)(J:It)(fp:List Addr)(it:Addr)(tn:Nat->Heap->Prop):Prop where
 mem:it∈fp
 obj:∀i h,tn i h->∀b∈fp,∃o,h.get? b=some o/\∀v,o.data ≠ .cell v
 keep:∀i h h',tn i h->(∀b∈fp,∀o,h.get? b=some o->h'.get? b=some o)->tn i h'
 item:∀(X:Cx),X.prog=P->X.w=w->X.K=K->X.calm=true->∀(i:Nat) (pins:List (Addr × Obj)) (s:Shared) (σ:St) (H:Hp) (E:WvP),Inv X pins σ H s->(∀b∈fp,FpOk X pins H b)->tn i s.heap->J.go i H->
  wpAny (model P w) X.A (pyNext (.ref it)) (λr s1=>∃u,r=some u/\
   wpAny (model P w) X.A (letOwnedTupleGo tg (.ref it) u) (λ_ s2=>∃x H',Inv X pins σ H' s2/\RelV x u/\J.yld i H x H'/\tn (i+1) s2.heap/\∀b∈fp,H' b=none) E s1) E s
 done:∀(X:Cx),X.prog=P->X.w=w->X.K=K->X.calm=true->∀(i:Nat) (pins:List (Addr × Obj)) (s:Shared) (σ:St) (H:Hp) (E:WvP),Inv X pins σ H s->(∀b∈fp,FpOk X pins H b)->tn i s.heap->J.stop i H->
  wpAny (model P w) X.A (pyNext (.ref it)) (λr s1=>r=none/\Inv X pins σ H s1) E s
 self:∀(A:Around) (i:Nat) (s:Shared) (Q:WvP) (E:WvP),tn i s.heap->Q (.ref it) s->wpAny (model P w) A (pyIter (.ref it)) Q E s
abbrev TI:=St->Hp->(It->Hp->Prop)->Prop
def PIE (X:Cx)(pins:List (Addr × Obj))(σ:St)(tg:Expr)(R:It->Hp->Prop)(itv:Value)(s2:Shared):Prop:=
 ∃(it:Addr) (fp:List Addr) (tn:Nat->Heap->Prop) (J:It) (H':Hp),itv = .ref it/\Inv X pins σ H' s2/\Turn X.prog X.w X.K tg J fp it tn/\tn 0 s2.heap/\(∀b∈fp,FpOk X pins H' b)/\R J H'
def PI (X:Cx)(tg iter:Expr)(wi:TI):Prop:=
 ∀(pins:List (Addr × Obj)) (s:Shared) (σ:St) (H:Hp) (R:It->Hp->Prop),Inv X pins σ H s->wi σ H R->
  wpAny (model X.prog X.w) X.A (eval iter X.env) (λv s1=>wpAny (model X.prog X.w) X.A (pyIter v) (PIE X pins σ tg R) X.xe s1) X.xe s
def zfo {vs:Array Value}(ho:s.heap.get? it=some o)(hc:o.cls = .type n)(hd:o.data = .fields vs)
  (hn:["enumerate","zip","dict_itemiterator","dict_reverseitemiterator","odict_iterator","itertools.zip_longest","itertools.pairwise"].contains n=false) (hQ:Q () s):wpAny M A (letOwnedTupleGo tg (.ref it) u) Q E s:=by
 unfold letOwnedTupleGo
 cases tg <;> first
  | exact wj hQ
  | (cases u <;> first
    | exact wj hQ
    | (refine we (wpAny_load ho ?_)
       rw[hc,hd];show wpAny M A (if (["enumerate","zip","dict_itemiterator","dict_reverseitemiterator","odict_iterator","itertools.zip_longest","itertools.pairwise"].contains n && vs[0]? == some (rawInt _))=true then _ else _) Q E s;rw[if_neg (by intro h;rw[hn,Bool.false_and] at h;cases h)];exact wj hQ))
def Itl (K:W.Frag)(a:Addr):It:=
 ⟨λi H=>∃xs x,SqL K H a xs/\xs[i]? = some x,λi H x H'=>H'=H/\∀xs,SqL K H a xs->xs[i]? = some x,λi H=>∃xs,SqL K H a xs/\xs.length<=i⟩
def Itt (K:W.Frag)(a:Addr):It:=
 ⟨λi H=>∃xs x,SqT K H a xs/\xs[i]? = some x,λi H x H'=>H'=H/\∀xs,SqT K H a xs->xs[i]? = some x,λi H=>∃xs,SqT K H a xs/\xs.length<=i⟩
def Itr (lo:Int)(n:Nat):It:=⟨λi _=>i<n,λi H x H'=>H'=H/\x = .int (lo+i),λi _=>n<=i⟩
def z9y {P:Program}{w:World}{K:W.Frag}{tg:Expr}(a it:Addr):Turn P w K tg (Itl K a) [it] it (λi h=>h.IsListIter it a i) where
 mem:=by simp
 obj:=λi h st b hb=>by
  have e:b=it:=by simpa using hb
  subst e;obtain⟨o,e,c,d⟩:=st;exact⟨o,e,λv z=>by rw[d] at z;cases z⟩
 keep:=λi h h' st k=>st.at λo e=>k it (by simp) o e
 item:=by
  kj_on;subst hP hw hK;obtain⟨xs,x,hq,hx⟩:=hg;obtain⟨its,rv,p,hz⟩:=I.list hq;obtain⟨u,hu,ru⟩:=rv.get hx;obtain⟨f0,f1,f2,f3,f4,f5⟩:=hf it (by simp);refine wpAny_pyNext_list_item st p.isList (x:=u) (by simpa using hu) λh' st' sb =>?_;have I1:Inv X pins σ H { s with heap:=h' }:=I.turned (t':=s.toks) (λb o hb e=>(sb.2 b hb).trans e) f0 f1 f3 f4 f5;obtain⟨o,e,c,d⟩:=id st';exact⟨u,rfl,zfo (s:={ s with heap:=h' }) e c d (by decide) ⟨x,H,I1,ru,⟨rfl,λys hy=>by rw[I.list_inj hy hq];exact hx⟩,st',λb hb=>(hf b hb).1⟩⟩
 done:=by
  kj_on;subst hP hw hK;obtain⟨xs,hq,hx⟩:=hg;obtain⟨its,rv,p,hz⟩:=I.list hq;obtain⟨f0,f1,f2,f3,f4,f5⟩:=hf it (by simp);have hl:=rv.length;exact wpAny_pyNext_list_end (I.ok.hd hc) st p.isList (by simp;lia) λh' eb=>⟨rfl,I.turned (t':=s.toks) (λb o hb e=>eb b o hb e) f0 f1 f3 f4 f5⟩
 self:=λ_ _ _ _ _ st h=>wpAny_pyIter_listiter st h
def z8K {P:Program}{w:World}{K:W.Frag}{tg:Expr}(a it:Addr):Turn P w K tg (Itt K a) [it] it (λi h=>h.IsTupleIter it a i) where
 mem:=by simp
 obj:=λi h st b hb=>by
  have e:b=it:=by simpa using hb
  subst e;obtain⟨o,e,c,d⟩:=st;exact⟨o,e,λv z=>by rw[d] at z;cases z⟩
 keep:=λi h h' st k=>st.at λo e=>k it (by simp) o e
 item:=by
  kj_on;subst hP hw hK;obtain⟨xs,x,hq,hx⟩:=hg;obtain⟨its,rv,p,hz⟩:=I.tuple hq;obtain⟨u,hu,ru⟩:=rv.get hx;obtain⟨f0,f1,f2,f3,f4,f5⟩:=hf it (by simp);refine wpAny_pyNext_tuple_item st (show s.heap.IsTuple a its.toArray from p) (x:=u) (by simpa using hu) λh' st' sb =>?_;have I1:Inv X pins σ H { s with heap:=h' }:=I.turned (t':=s.toks) (λb o hb e=>(sb.2 b hb).trans e) f0 f1 f3 f4 f5;obtain⟨o,e,c,d⟩:=id st';exact⟨u,rfl,zfo (s:={ s with heap:=h' }) e c d (by decide) ⟨x,H,I1,ru,⟨rfl,λys hy=>by rw[I.tuple_inj hy hq];exact hx⟩,st',λb hb=>(hf b hb).1⟩⟩
 done:=by
  kj_on;subst hP hw hK;obtain⟨xs,hq,hx⟩:=hg;obtain⟨its,rv,p,hz⟩:=I.tuple hq;obtain⟨f0,f1,f2,f3,f4,f5⟩:=hf it (by simp);have hl:=rv.length;exact wpAny_pyNext_tuple_end (I.ok.hd hc) st (show s.heap.IsTuple a its.toArray from p) (by simp;lia) λh' eb=>⟨rfl,I.turned (t':=s.toks) (λb o hb e=>eb b o hb e) f0 f1 f3 f4 f5⟩
 self:=λ_ _ _ _ _ st h=>wpAny_pyIter_tupleiter st h
def z8L {P:Program}{w:World}{K:W.Frag}{tg:Expr}(it:Addr)(lo:Int)(n:Nat):Turn P w K tg (Itr lo n) [it] it (λi h=>IsRangeIter h it (lo+(i:Nat)*1) ((n:Int) - (i:Nat)) 1) where
 mem:=by simp
 obj:=λi h st b hb=>by
  have e:b=it:=by simpa using hb
  subst e;exact⟨_,st,λv z=>by
   have z':Data.fields _=Data.cell v:=z
   cases z'⟩
 keep:=λi h h' st k=>k it (by simp) _ st
 item:=by
  kj_on;subst hP hw hK;obtain⟨f0,f1,f2,f3,f4,f5⟩:=hf it (by simp);have W:=Walks.range (prog:=X.prog) (w:=X.w) (I.ok.hd hc) it lo 1 n;refine W.item i s _ _ hg st λv h' tk hv st' kk =>?_;obtain⟨t,rfl⟩:=hv;have I1:Inv X pins σ H { s with heap:=h',toks:=tk }:=I.turned (λb o hb e=>kk b o (by simpa using hb) e) f0 f1 f3 f4 f5;refine⟨_,rfl,zfo (s:={ s with heap:=h',toks:=tk }) (n:="range_iterator") st' rfl rfl (by decide) ⟨.int (lo+i),H,I1,⟨t,?_⟩,⟨rfl,rfl⟩,st',λb hb=>(hf b hb).1⟩⟩;rw[Int.mul_one]
 done:=by
  kj_on;subst hP hw hK;obtain⟨f0,f1,f2,f3,f4,f5⟩:=hf it (by simp);exact wpAny_pyNext_range_end (I.ok.hd hc) st (by have:n<=i:=hg;lia) λh' eb=>⟨rfl,I.turned (t':=s.toks) (λb o hb e=>eb b o hb e) f0 f1 f3 f4 f5⟩
 self:=λ_ _ _ _ _ st h=>wpAny_pyIter_rangeiter st h
section
variable {X:Cx}{tg:Expr}
def z8b {lo hi:Int}{t u v:Tok}(I:Inv X pins σ H s)(h1 : -(2 ^ 62)<=lo)(h2:lo<2 ^ 62)(h3 : -(2 ^ 62)<=hi)(h4:hi<2 ^ 62)
  (q:R (Itr lo (hi - lo).toNat) H):wpAny (model X.prog X.w) X.A (pyIter (.ref s.heap.objs.size)) (PIE X pins σ tg R) E { s with heap:=s.heap.push { cls :=.type "range",data :=.fields #[.int lo t,.int hi u,.int 1 v] },toks:=tk }:=by
 refine wpAny_pyIter_range (IsRange.new ..) (small_one h1 h2 h3 h4) ?_;have I1:Inv X pins σ H { s with heap:=s.heap.push { cls :=.type "range",data :=.fields #[.int lo t,.int hi u,.int 1 v] },toks:=tk }:=I.kept λb o e=>wo _ e;refine⟨(s.heap.push { cls :=.type "range",data :=.fields #[.int lo t,.int hi u,.int 1 v] }).objs.size,[(s.heap.push { cls :=.type "range",data :=.fields #[.int lo t,.int hi u,.int 1 v] }).objs.size],_,_,H,rfl,
  I1.kept (t':=tk) λb o e=>wo _ e,z8L _ lo (hi - lo).toNat,?_,λb hb =>?_,q⟩
 .have e1:lo+((0:Nat):Int)*1=lo:=by simp
  have e2:(((hi - lo).toNat:Nat):Int) - ((0:Nat):Int)=Builtin.Range.rangeSize lo hi 1:=by rw[rangeSize_one];split <;> lia
  show IsRangeIter _ _ (lo+((0:Nat):Int)*1) ((((hi - lo).toNat:Nat):Int) - ((0:Nat):Int)) 1;rw[e1,e2];exact wA _ rfl
 .have e:b=(s.heap.push { cls :=.type "range",data :=.fields #[.int lo t,.int hi u,.int 1 v] }).objs.size:=by simpa using hb
  subst e;exact I1.fpOk (wx _) (I1.hok.fresh (wx _))
def zi2 (ta:TA):TI:=λσ H R=>ta σ H λvs H1=>∃j:Int,vs=[.int j] /\ -(2 ^ 62)<=j/\j<2 ^ 62/\R (Itr 0 j.toNat) H1
def zi1 (ta:TA):TI:=λσ H R=>ta σ H λvs H1=>∃i j:Int,vs=[.int i,.int j]/\(-(2 ^ 62)<=i/\i<2 ^ 62 /\ -(2 ^ 62)<=j/\j<2 ^ 62)/\R (Itr i (j - i).toNat) H1
def zaj (hg:Gl X "range")(hm:X.mg "range"=none)(ha:PA X [a] ta)(hs:starEach [a] X.env=[(false,eval a X.env)]:=by rfl):PI X tg (.Call (.Name "range" p) [a] [] pos) (zi2 ta):=by
 intro pins s σ H R I h;refine Call_ (z40 I hg hm boot_range (uV (thn (ha pos pins s σ H _ I h) λus s1 z9 =>?_) hs rfl));obtain⟨vs,H1,I1,r1,q1⟩:=z9;obtain⟨j,e,q1,q2,q⟩:=q1;subst e
 cases r1 with
 | cons r rr=>
  cases rr
  obtain⟨t,rfl⟩:=r;exact call_range_1 (z8b I1 (by lia) (by lia) q1 q2 (by simpa using q))
def zai (hg:Gl X "range")(hm:X.mg "range"=none)(ha:PA X [a,b] ta)(hs:starEach [a,b] X.env=[(false,eval a X.env),(false,eval b X.env)]:=by rfl)(hs2:starEach [b] X.env=[(false,eval b X.env)]:=by rfl):
  PI X tg (.Call (.Name "range" p) [a,b] [] pos) (zi1 ta):=by
 intro pins s σ H R I h;refine Call_ (z40 I hg hm boot_range (uV (thn (ha pos pins s σ H _ I h) λus s1 z9 =>?_) (by rw[hs,hs2]) (by rw[hs2];rfl)));obtain⟨vs,H1,I1,r1,q1⟩:=z9;obtain⟨i,j,e,⟨q1,q2,q3,q4⟩,q⟩:=q1;subst e
 cases r1 with
 | cons r rr=>
  cases rr with
  | cons r' rr=>
   cases rr
   obtain⟨t,rfl⟩:=r;obtain⟨t',rfl⟩:=r';exact call_range_2 (z8b I1 q1 q2 q3 q4 q)
def tFor (wi:TI)(g:TG)(tb:TS):TS:=λD σ H=>wi σ H λJ H1=>∃W:Nat->Nat->St->Hp->Prop,(∃m,W 0 m σ H1)/\∀i m σ H,W i m σ H->
 (J.stop i H/\D.nx σ H)\/(J.go i H/\∃N:St->Hp->Prop,(∀σ' H',N σ' H'->∃m',m'<m/\W (i+1) m' σ' H')/\∀x H',J.yld i H x H'->g x σ H' λσ2 H2=>tb { D with nx:=N,ct:=N,bk:=D.nx } σ2 H2)
def z5h (fp:List Addr)(h:Heap):List (Addr × Obj):=fp.filterMap λb=>(h.get? b).map λo=>(b,o)
def z2Z (hb:b∈fp)(e:h.get? b=some o):(b,o)∈z5h fp h:=uK.mpr ⟨b,hb,by rw[e];rfl⟩
def zav (hp:p∈z5h fp h):p.1∈fp/\h.get? p.1=some p.2:=by
 obtain⟨b,hb,e⟩:=uK.mp hp
 cases q:h.get? b with
 | none=>rw[q] at e;cases e
 | some o=>
  rw[q] at e;have e':(b,o)=p:=vk e;subst e';exact⟨hb,q⟩
def Inv.pinned (I:Inv X pins σ H s)(hf:∀b∈fp,FpOk X pins H b)(ho:∀b∈fp,∃o,s.heap.get? b=some o/\∀v,o.data ≠ .cell v):Inv X (pins++z5h fp s.heap) σ H s:=
 I.pins_of λp hp=>(wG.mp hp).elim (λz=>I.pin p (wF _ z)) λz=>by
  obtain⟨hb,e⟩:=zav z;obtain⟨f0,f1,f2,_⟩:=hf p.1 hb;obtain⟨o,e',d⟩:=ho p.1 hb;rw[e] at e';cases e';exact⟨e,f0,f1,f2,d⟩
def Inv.unpinned {pins pl:List (Addr × Obj)}(I:Inv X (pins++pl) σ H s):Inv X pins σ H s:=I.pins_of λp hp=>I.pin p (wF _ (wR _ hp))
def zgX (hp:PassesOwn (model X.prog X.w) X.A X.env X.xe)(hc:X.calm=true)(hi:PI X tg iter wi)(hg:PG X tg g)(hb:PSs X body tb)
  (hs:∀x,foldedSetIterable iter X.env x=pure x:=by intro _;rfl):PS X (.For tg iter body [] pos) (tFor wi g tb):=by
 intro pins s σ H D I h;refine wpAny_For (thn (hi pins s σ H _ I h) λv s1 h1=>thn h1 λitv s2 h2 =>?_) hs;obtain⟨it,fp,tn,J,H2,e,I2,T,st2,f2,W,⟨m0,w0⟩,turn⟩:=h2;subst e;have stat:∀{H':Hp},(∀b∈fp,H' b=none)->∀b∈fp,FpOk X pins H' b:=λhn b hb=>⟨hn b hb,(f2 b hb).2⟩
 refine codeAny_forLoop_any (λn s'=>∃i σ' H',Inv X pins σ' H' s'/\tn i s'.heap/\(∀b∈fp,H' b=none)/\W i n σ' H') ?_ m0 ⟨0,σ,H2,I2,st2,λb hb=>(f2 b hb).1,w0⟩;rintro n s3 ⟨i,σ3,H3,I3,st3,fr3,w3⟩
 rcases turn i n σ3 H3 w3 with ⟨stop,qn⟩ | ⟨go,N,hN,step⟩
 .refine jn hp (thn (T.done X rfl rfl rfl hc i pins s3 σ3 H3 X.xe I3 (stat fr3) st3 stop) λr s4 ⟨hr,I4⟩ =>?_);subst hr;exact wpAny_execs_nil ⟨σ3,H3,I4,qn⟩
 .refine jn hp (thn (T.item X rfl rfl rfl hc i pins s3 σ3 H3 X.xe I3 (stat fr3) st3 go) λr s4 ⟨u,hr,h4⟩ =>?_);subst hr;refine jn hp (thn h4 λ_ s5 z9 =>?_);obtain⟨x,H5,I5,r5,y5,st5,fr5⟩:=z9;have I5':=I5.pinned (stat fr5) (T.obj _ _ st5);refine jn hp (thn (hg _ s5 σ3 H5 x u _ I5' r5 (step x H5 y5)) λ_ s6 z9 =>?_);obtain⟨σ6,H6,I6,q6⟩:=z9;refine jn hp (thn (hb _ s6 σ6 H6 _ I6 q6) λf s7 q7 =>?_);have again:∀{σ7:St}{H7:Hp},Inv X (pins++z5h fp s5.heap) σ7 H7 s7->N σ7 H7->∃m,m<n/\∃i σ' H',Inv X pins σ' H' s7/\tn i s7.heap/\(∀b∈fp,H' b=none)/\W i m σ' H':=λ{σ7 H7} I7 n7=>by
   obtain⟨m',hm,w7⟩:=hN σ7 H7 n7;refine⟨m',hm,i+1,σ7,H7,I7.unpinned,T.keep _ _ _ st5 λb hb o e=>(I7.pin (b,o) (wF _ (wF _ (z2Z hb e)))).1,λb hb =>?_,w7⟩;obtain⟨o,e,d⟩:=T.obj _ _ st5 b hb;exact(I7.pin (b,o) (wF _ (wF _ (z2Z hb e)))).2.1
  cases f with
  | next=>obtain⟨σ7,H7,I7,n7⟩:=q7;exact again I7 n7
  | cont=>obtain⟨σ7,H7,I7,n7⟩:=q7;exact again I7 n7
  | brk=>obtain⟨σ7,H7,I7,q7⟩:=q7;exact⟨σ7,H7,I7.unpinned,q7⟩
  | ret v=>obtain⟨x7,σ7,H7,I7,r7,q7⟩:=q7;exact⟨x7,σ7,H7,I7.unpinned,r7,q7⟩
end
abbrev R2:=V->V->Hp->VK->Prop
def OpR (X:Cx)(f:Value->Value->Sem Value)(r:R2):Prop:=
 ∀(pins:List (Addr × Obj)) (s:Shared) (σ:St) (H:Hp) (x y:V) (v u:Value) (Q:VK),Inv X pins σ H s->RelV x v->RelV y u->r x y H Q->
  wpAny (model X.prog X.w) X.A (f v u) (EP X pins σ Q) X.xe s
def UnR (X:Cx)(f:Value->Sem Value)(r:V->Hp->VK->Prop):Prop:=
 ∀(pins:List (Addr × Obj)) (s:Shared) (σ:St) (H:Hp) (x:V) (v:Value) (Q:VK),Inv X pins σ H s->RelV x v->r x H Q->
  wpAny (model X.prog X.w) X.A (f v) (EP X pins σ Q) X.xe s
def z1n (X:Cx)(f:Value)(r:List V->Hp->VK->Prop):Prop:=
 ∀(pins:List (Addr × Obj)) (s:Shared) (σ:St) (H:Hp) (xs:List V) (us:List Value) (Q:VK),Inv X pins σ H s->Vals xs us->r xs H Q->
  wpAny (model X.prog X.w) X.A (call f us) (EP X pins σ Q) X.xe s
def tOp (r:R2)(ta tb:TE):TE:=λσ H Q=>ta σ H λx H1=>tb σ H1 λy H2=>r x y H2 Q
def tUn (r:V->Hp->VK->Prop)(ta:TE):TE:=λσ H Q=>ta σ H λx H1=>r x H1 Q
def rI (C:Int->Int->Prop)(g:Int->Int->V):R2:=λx y H Q=>∃i j,x = .int i/\y = .int j/\C i j/\Q (g i j) H
def rI0 (g:Int->Int->V):R2:=λx y H Q=>∃i j,x = .int i/\y = .int j/\Q (g i j) H
def rU (g:Int->V):V->Hp->VK->Prop:=λx H Q=>∃i,x = .int i/\Q (g i) H
section
variable {X:Cx}{a b c:Expr}{ta tb tc:TE}{pos:Pos}
def binT (ha:PE X a ta)(hb:PE X b tb){pins:List (Addr × Obj)}{s:Shared}{σ:St}{H:Hp}{R:V->V->Hp->Prop}(I:Inv X pins σ H s)
  (h:ta σ H λx H1=>tb σ H1 λy H2=>R x y H2) {Q:WvP}{f:Value->Value->Sem Value}
  (hf:∀v u s2 x y H2,Inv X pins σ H2 s2->RelV x v->RelV y u->R x y H2->wpAny (model X.prog X.w) X.A (f v u) Q X.xe s2):
  wpAny (model X.prog X.w) X.A (eval a X.env) (λv s₁=>wpAny (model X.prog X.w) X.A (eval b X.env) (λu s₂=>wpAny (model X.prog X.w) X.A (f v u) Q X.xe s₂) X.xe s₁) X.xe s:=by
 refine thn (ha pins s σ H _ I h) λv s1 z9 =>?_;obtain⟨x,H1,I1,r1,q1⟩:=z9;refine thn (hb pins s1 σ H1 _ I1 q1) λu s2 z9 =>?_;obtain⟨y,H2,I2,r2,q2⟩:=z9;exact hf v u s2 x y H2 I2 r1 r2 q2
def zj2 {op:Operator}(ho:OpR X (binaryOp op) r)(ha:PE X a ta)(hb:PE X b tb):PE X (.BinOp a op b pos) (tOp r ta tb):=by
 x_go;exact wpAny_BinOp (binT ha hb I h λv u s2 x y H2 I2 rx ry q=>ho pins s2 σ H2 x y v u Q I2 rx ry q)
def zj0 {op:UnaryOp}(ho:UnR X (unaryOp op) r)(ha:PE X a ta):PE X (.UnaryOp op a pos) (tUn r ta):=by
 x_go;exact UnaryOp_ (thn (ha pins s σ H _ I h) λv s1 ⟨x,H1,I1,r1,q1⟩=>ho pins s1 σ H1 x v Q I1 r1 q1)
def opI {f:Value->Value->Sem Value}{C:Int->Int->Prop}{g:Int->Int->Int}
  (rule:∀(i j:Int) (t u:Tok) (s:Shared) (Q:WvP) (E:WvP),C i j->Q (.int (g i j) s.toks) { s with toks:=s.toks+1 }->wpAny (model X.prog X.w) X.A (f (.int i t) (.int j u)) Q E s):
  OpR X f (rI C λi j =>.int (g i j)):=by
 z_go;obtain⟨i,j,rfl,rfl,hc,q⟩:=h;obtain⟨t,rfl⟩:=rx;obtain⟨t',rfl⟩:=ry;exact rule i j t t' s _ _ hc ⟨.int (g i j),H,I.tok _,⟨_,rfl⟩,q⟩
def opI0 {f:Value->Value->Sem Value}{g:Int->Int->Int}
  (rule:∀(i j:Int) (t u:Tok) (s:Shared) (Q:WvP) (E:WvP),Q (.int (g i j) s.toks) { s with toks:=s.toks+1 }->wpAny (model X.prog X.w) X.A (f (.int i t) (.int j u)) Q E s):
  OpR X f (rI0 λi j =>.int (g i j)):=by
 z_go;obtain⟨i,j,rfl,rfl,q⟩:=h;obtain⟨t,rfl⟩:=rx;obtain⟨t',rfl⟩:=ry;exact rule i j t t' s _ _ ⟨.int (g i j),H,I.tok _,⟨_,rfl⟩,q⟩
def opB0 {f:Value->Value->Sem Value}{g:Int->Int->Bool}
  (rule:∀(i j:Int) (t u:Tok) (s:Shared) (Q:WvP) (E:WvP),Q (.bool (g i j)) s->wpAny (model X.prog X.w) X.A (f (.int i t) (.int j u)) Q E s):
  OpR X f (rI0 λi j =>.bl (g i j)):=by
 z_go;obtain⟨i,j,rfl,rfl,q⟩:=h;obtain⟨t,rfl⟩:=rx;obtain⟨t',rfl⟩:=ry;exact rule i j t t' s _ _ ⟨.bl (g i j),H,I,rfl,q⟩
def CPow (i j:Int):Prop:=0<=j/\j<=1000000/\i.natAbs<2 ^ 64
def zhk:OpR X (binaryOp .Add) (rI0 λi j =>.int (i+j)):=opI0 λ_ _ _ _ _ _ _ q=>add_int q
def zhd:OpR X (binaryOp .Sub) (rI0 λi j =>.int (i - j)):=opI0 λ_ _ _ _ _ _ _ q=>sub_int q
def zeY:OpR X (binaryOp .Mod) (rI (λ_ j=>j≠0) λi j =>.int (i.fmod j)):=opI λ_ _ _ _ _ _ _ hc q=>mod_int' hc q
def zhe:OpR X (binaryOp .Pow) (rI CPow λi j =>.int (i ^ j.toNat)):=opI λ_ _ _ _ _ _ _ hc q=>pow_int_small hc.1 hc.2.1 hc.2.2 q
def unI {f:Value->Sem Value}{g:Int->Int}
  (rule:∀(i:Int) (t:Tok) (s:Shared) (Q:WvP) (E:WvP),Q (.int (g i) s.toks) { s with toks:=s.toks+1 }->wpAny (model X.prog X.w) X.A (f (.int i t)) Q E s):
  UnR X f (rU λi =>.int (g i)):=by
 intro pins s σ H x v Q I rx h;obtain⟨i,rfl,q⟩:=h;obtain⟨t,rfl⟩:=rx;exact rule i t s _ _ ⟨.int (g i),H,I.tok _,⟨_,rfl⟩,q⟩
def zfF:UnR X (unaryOp .USub) (rU λi =>.int (-i)):=unI λ_ _ _ _ _ q=>neg_int q
end
def scal:V->V->Bool
 | .non,.non=>true | .non,.int _=>true | .int _,.non=>true | .non,.bl _=>true | .bl _,.non=>true | .non,.str _=>true | .str _,.non=>true
 | .int _,.int _=>true | .bl _,.bl _=>true | .str _,.str _=>true | .byt _,.byt _=>true
 | .int _,.str _=>true | .str _,.int _=>true | .bl _,.str _=>true | .str _,.bl _=>true
 | _,_=>false
def rEq:R2:=λx y H Q=>scal x y=true/\Q (.bl (decide (x=y))) H
def rNe:R2:=λx y H Q=>scal x y=true/\Q (.bl (!decide (x=y))) H
def zba:decide (V.int i=V.int j)=(i == j):=by
 rw[jo];simp
def zdT:decide (V.bl i=V.bl j)=(i == j):=by
 rw[jo];simp
def zb9:decide (V.str i=V.str j)=(i == j):=by
 rw[jo];simp
def zbb:decide (V.byt i=V.byt j)=(i.toList == j.toList):=by
 rw[jo]
 cases i
 cases j
 simp
section
variable {X:Cx}{a b c:Expr}{ta tb tc:TE}{pos:Pos}
def z0o {k k':Bool}(I:Inv X pins σ H s)(q:Q (.bl k) H)(e:k=k'):EP X pins σ Q (.bool k') s:=by
 subst e;exact⟨.bl k,H,I,rfl,q⟩
def zjb:OpR X (compareOp .Eq) rEq:=by
 z_go;obtain⟨hs,q⟩:=h
 cases x with
 | non=>
  cases rx
  cases y with
  | non=>cases ry;exact PySem.EqNone.eq_none_none (z0o I q (by simp))
  | bl j=>cases ry;exact PySem.EqNone.eq_none_bool (z0o I q (by simp))
  | int j=>obtain⟨t',rfl⟩:=ry;exact PySem.EqNone.eq_none_int (z0o I q (by simp))
  | str j=>obtain⟨t',rfl⟩:=ry;exact PySem.EqNone.eq_none_str (z0o I q (by simp))
  | _=>exact absurd (show false=true from hs) wU
 | bl i=>
  cases rx
  cases y with
  | non=>cases ry;exact PySem.EqNone.eq_bool_none (z0o I q (by simp))
  | bl j=>cases ry;exact eq_bool (z0o I q zdT)
  | str j=>obtain⟨t',rfl⟩:=ry;exact PySem.EqMixed.eq_bool_str (z0o I q (by simp))
  | _=>exact absurd (show false=true from hs) wU
 | int i=>
  obtain⟨t,rfl⟩:=rx
  cases y with
  | non=>cases ry;exact PySem.EqNone.eq_int_none (z0o I q (by simp))
  | int j=>obtain⟨t',rfl⟩:=ry;exact eq_int (z0o I q zba)
  | str j=>obtain⟨t',rfl⟩:=ry;exact PySem.EqMixed.eq_int_str (z0o I q (by simp))
  | _=>exact absurd (show false=true from hs) wU
 | str i=>
  obtain⟨t,rfl⟩:=rx
  cases y with
  | non=>cases ry;exact PySem.EqNone.eq_str_none (z0o I q (by simp))
  | bl j=>cases ry;exact PySem.EqMixed.eq_str_bool (z0o I q (by simp))
  | int j=>obtain⟨t',rfl⟩:=ry;exact PySem.EqMixed.eq_str_int (z0o I q (by simp))
  | str j=>obtain⟨t',rfl⟩:=ry;exact eq_str (z0o I q zb9)
  | _=>exact absurd (show false=true from hs) wU
 | byt i=>
  obtain⟨t,rfl⟩:=rx
  cases y with
  | byt j=>obtain⟨t',rfl⟩:=ry;exact W.eq_bytes (z0o I q zbb)
  | _=>exact absurd (show false=true from hs) wU
 | _=>cases y <;> exact absurd (show false=true from hs) wU
def zj7:OpR X (compareOp .NotEq) rNe:=by
 z_go;obtain⟨hs,q⟩:=h
 cases x with
 | non=>
  cases rx
  cases y with
  | non=>cases ry;exact PySem.EqNone.ne_none_none (z0o I q (by simp))
  | bl j=>cases ry;exact PySem.EqNone.ne_none_bool (z0o I q (by simp))
  | int j=>obtain⟨t',rfl⟩:=ry;exact PySem.EqNone.ne_none_int (z0o I q (by simp))
  | str j=>obtain⟨t',rfl⟩:=ry;exact PySem.EqNone.ne_none_str (z0o I q (by simp))
  | _=>exact absurd (show false=true from hs) wU
 | bl i=>
  cases rx
  cases y with
  | non=>cases ry;exact PySem.EqNone.ne_bool_none (z0o I q (by simp))
  | bl j=>cases ry;exact ne_bool (z0o I q (congrArg not zdT))
  | str j=>obtain⟨t',rfl⟩:=ry;exact PySem.EqMixed.ne_bool_str (z0o I q (by simp))
  | _=>exact absurd (show false=true from hs) wU
 | int i=>
  obtain⟨t,rfl⟩:=rx
  cases y with
  | non=>cases ry;exact PySem.EqNone.ne_int_none (z0o I q (by simp))
  | int j=>obtain⟨t',rfl⟩:=ry;exact ne_int (z0o I q (congrArg not zba))
  | str j=>obtain⟨t',rfl⟩:=ry;exact PySem.EqMixed.ne_int_str (z0o I q (by simp))
  | _=>exact absurd (show false=true from hs) wU
 | str i=>
  obtain⟨t,rfl⟩:=rx
  cases y with
  | non=>cases ry;exact PySem.EqNone.ne_str_none (z0o I q (by simp))
  | bl j=>cases ry;exact PySem.EqMixed.ne_str_bool (z0o I q (by simp))
  | int j=>obtain⟨t',rfl⟩:=ry;exact PySem.EqMixed.ne_str_int (z0o I q (by simp))
  | str j=>obtain⟨t',rfl⟩:=ry;exact ne_str (z0o I q (congrArg not zb9))
  | _=>exact absurd (show false=true from hs) wU
 | byt i=>
  obtain⟨t,rfl⟩:=rx
  cases y with
  | byt j=>obtain⟨t',rfl⟩:=ry;exact W.ne_bytes (z0o I q (congrArg not zbb))
  | _=>exact absurd (show false=true from hs) wU
 | _=>cases y <;> exact absurd (show false=true from hs) wU
def zj8:OpR X (compareOp .Lt) (rI0 λi j =>.bl (decide (i<j))):=opB0 λ_ _ _ _ _ _ _ q=>lt_int q
def zj9:OpR X (compareOp .LtE) (rI0 λi j =>.bl (decide (i<=j))):=opB0 λ_ _ _ _ _ _ _ q=>le_int q
def zja:OpR X (compareOp .Gt) (rI0 λi j =>.bl (decide (j<i))):=opB0 λ_ _ _ _ _ _ _ q=>gt_int q
def zhh:OpR X (compareOp .Is) (λx y H Q=>y = .non/\Q (.bl (decide (x = .non))) H):=by
 z_go;obtain⟨rfl,q⟩:=h
 cases ry
 refine is_none_gen (z0o I q ?_)
 cases x <;> first
  | (cases rx;rfl)
  | (obtain⟨t,rfl⟩:=rx;rfl)
def zhH (b:Expr){op:CmpOp}(h:op ≠ .In:=by decide)(h2:op ≠ .NotIn:=by decide):behindInMarks op b=false:=by
 have e1:(op == CmpOp.In)=false:=by cases op <;> first | rfl | exact absurd rfl h
 have e2:(op == CmpOp.NotIn)=false:=by cases op <;> first | rfl | exact absurd rfl h2
 cases b <;> simp[behindInMarks,e1,e2]
def zeQ {op:CmpOp}(ho:OpR X (compareOp op) r)(ha:PE X a ta)(hb:PE X b tb)(hm:behindInMarks op b=false):PE X (.Compare a [op] [b] pos) (tOp r ta tb):=by
 x_go;exact wpAny_Compare1 (binT ha hb I h λv u s2 x y H2 I2 rx ry q=>ho pins s2 σ H2 x y v u Q I2 rx ry q) hm
def zea (t:TE):TT:=λσ H Q=>t σ H λx H'=>∃k,x = .bl k/\Q k H'
def zeI {op:CmpOp}(ho:OpR X (compareOp op) r)(ha:PE X a ta)(hb:PE X b tb)(hm:behindInMarks op b=false):PT X (.Compare a [op] [b] pos) (zea (tOp r ta tb)):=by
 x_go;refine wpAny_isTrue_Compare1 (thn (ha pins s σ H _ I h) λv s1 ⟨x,H1,I1,r1,q1⟩=>thn (hb pins s1 σ H1 _ I1 q1) λu s2 ⟨y,H2,I2,r2,q2⟩=>
  thn (ho pins s2 σ H2 x y v u _ I2 r1 r2 q2) λc s3 ⟨z,H3,I3,r3,k,e,q3⟩ =>?_) hm
 subst e
 cases r3
 exact jm ⟨H3,I3,q3⟩
def z8o:(sizeLine:Nat)<2 ^ 63:=by rw[sizeLine_eq];decide
def z3k {x:V}{us:List Value}(r:Vals [x] us):∃u,us=[u]/\RelV x u:=by
 cases r with
 | cons r1 r2=>cases r2;exact⟨_,rfl,r1⟩
def zfE (r:Vals [x,y] us):∃u w',us=[u,w']/\RelV x u/\RelV y w':=by
 cases r with
 | cons r1 r2=>
  cases r2 with
  | cons r3 r4=>cases r4;exact⟨_,_,rfl,r1,r3⟩
def zdd:z1n X (.builtin "abs") (λxs H Q=>∃i,xs=[.int i]/\Q (.int (if i<0 then -i else i)) H):=by
 intro pins s σ H xs us Q I r h;obtain⟨i,rfl,q⟩:=h;obtain⟨u,rfl,t,rfl⟩:=z3k r;exact call_abs_int λu tk=>⟨.int (if i<0 then -i else i),H,I.tok _,⟨_,rfl⟩,q⟩
def zbn (hc:X.calm=true):z1n X (.builtin "min") (λxs H Q=>∃i j,xs=[.int i,.int j]/\Q (.int (if j<i then j else i)) H):=by
 intro pins s σ H xs us Q I r h;obtain⟨i,j,rfl,q⟩:=h;obtain⟨u,w',rfl,⟨t,rfl⟩,⟨t',rfl⟩⟩:=zfE r;refine min_two_ints (I.ok.hd hc) λh' tk k=>⟨_,H,I.kept k,?_,q⟩
 by_cases hj:j<i
 .rw[if_pos hj,if_pos hj];exact⟨_,rfl⟩
 .rw[if_neg hj,if_neg hj];exact⟨_,rfl⟩
end
structure ObjM (h:Heap)(x dx C:Addr)(mA:WmP):Prop where
 obj:h.get? x=some (W.instObj C dx)
 ns:h.Ns1 dx mA
 ne:dx≠x
def zaI {h:Heap}{mA:WmP}(n:h.Ns1 dx mA):∃od,h.get? dx=some od/\∀name,W.lookIn name od=some (mA name):=by
 obtain⟨o,es,ep,ho,hd,hk,_,hm⟩:=n;refine⟨o,ho,λname =>?_⟩;have e:=hm name;unfold nsFind findBy at e;rw[<- Array.find?_toList] at e;unfold W.lookIn;rw[hd];k_in
 split
 .rename_i y q
  rw[q] at e;exact congrArg some e
 .rename_i q
  rw[q] at e;have a:es.toList.any (·.refKey)=false:=by
   rw[List.any_eq_false];intro y hy;obtain⟨z,t,hkey⟩:=hk y (Array.mem_toList_iff.mp hy);simp[DictEntry.refKey,hkey]
  have a':¬ es.toList.any (·.refKey)=true:=by rw[a];exact wU
  rw[if_neg a'];exact congrArg some e
def ObjM.look (I:ObjM h x dx C mA):∃od,W.InstAt h x (W.instObj C dx) C (some od)/\∀name,W.lookIn name od=some (mA name):=
 let ⟨od,ho,hl⟩:=zaI I.ns
 ⟨od,⟨I.obj,rfl,rfl,ho⟩,hl⟩
section
variable {P:Program}{w:World}{H H':Hp}{h h':Heap}{a C dx:Addr}{fs fs':List (Str × V)}
def zfk (hok:HOk P w H h)(e:H a=some (.ins C dx fs)):∃mA,ObjM h a dx C mA/\(∀f,RelO (fs.lookup f) (mA f))/\PySem.Within mA (fs.map (·.1))/\fs.length<=1000/\H dx=some (.own a):=by
 obtain⟨d,z,ne,ob,mA,n,r,q⟩:=(show z1c P w H h a (.ins C dx fs) from hok a _ e)
 exact⟨mA,⟨ob,n,ne⟩,r,q,z,d⟩
end
structure Cls (K:W.Frag)(C:Addr):Prop where
 pg:W.plainGet K C Str.empty=true
 hd:W.hasDictIn K C=true
 po:W.plainOver K C=true
 sa:W.findIn K (.ref C) "__setattr__"=some (some (.builtin "object.__setattr__"))
def Cls.get {K:W.Frag}{C:Addr}(c:Cls K C)(f:Str):W.plainGet K C f=true:=c.pg
section
variable {X:Cx}{pins:List (Addr × Obj)}{σ:St}{H:Hp}{s:Shared}{A:Around}{E:WvP}{Q:WvP}{c:Value}{b:Bool}
inductive TyOf (K:W.Frag) (H:Hp):V->Value->Prop where
 | non:TyOf K H .non (.type "NoneType")
 | bl (x:Bool):TyOf K H (.bl x) (.type "bool")
 | int (i:Int):TyOf K H (.int i) (.type "int")
 | str (x:Str):TyOf K H (.str x) (.type "str")
 | flt (x:UInt64):TyOf K H (.flt x) (.type "float")
 | lst {a:Addr}{xs:List V}(e:H a=some (.lst xs)):TyOf K H (.ref a) (.type "list")
 | frz {a:Addr}{o:Obj}{xs:List V}(e:H a=some (.frz o (.lst xs))):TyOf K H (.ref a) (.type "list")
 | tup {a:Addr}{xs:List V}(e:H a=some (.tup xs)):TyOf K H (.ref a) (.type "tuple")
 | dK {a:Addr}{kvs:List (Key × V)}(e:H a=some (.dK kvs)):TyOf K H (.ref a) (.type "dict")
 | dT {a:Addr}{kvs:List (List Key × V)}(e:H a=some (.dT kvs)):TyOf K H (.ref a) (.type "dict")
 | ins {a C dx:Addr}{fs:List (Str × V)}(e:H a=some (.ins C dx fs)) (cl:Cls K C) (ha:W.findIn K (.ref C) "__class__"=some (some (.builtin "object.__class__")))
   (hn:W.specialIn K (.builtin "object.__class__") "__get__"=some (some (.builtin "getset_descriptor.__get__"))) (htk:W.takesIn K (.builtin "object.__class__")=some true)
   (hm:W.mroIn K C (.type "object")=some true):TyOf K H (.ref a) (.ref C)
def z3v (I:Inv X pins σ H s)(rx:RelV x u)(ty:TyOf X.K H x t)(e:W.kitOne X.K t c=some b)(h:∀tk,Q (.bool b) { s with toks:=tk }):
  wpAny (model X.prog X.w) A (call (.builtin "isinstance") [u,c]) Q E s:=by
 cases ty with
 | non=>cases (show u=Value.none from rx);exact vX W.kitx_none I.kIn True.intro e (λz=>nomatch z) h
 | bl y=>cases (show u=Value.bool y from rx);exact vX W.kitx_bool I.kIn True.intro e (λz=>nomatch z) h
 | int i=>obtain⟨t,q⟩:=(show ∃t,u=Value.int i t from rx);cases q;exact vX W.kitx_int I.kIn True.intro e (λz=>nomatch z) h
 | str y=>obtain⟨t,q⟩:=(show ∃t,u=Value.str y t from rx);cases q;exact vX W.kitx_str I.kIn True.intro e (λz=>nomatch z) h
 | flt y=>obtain⟨t,q⟩:=(show ∃t,u=Value.float y t from rx);cases q;exact vX W.kitx_float I.kIn True.intro e (λz=>nomatch z) h
 | @lst a xs ea=>
  cases (show u=Value.ref a from rx)
  obtain⟨_,_,n,_,h1⟩:=(show z1c X.prog X.w H s.heap a (.lst xs) from I.hok a _ ea)
  exact vX W.kitx_list I.kIn ⟨_,h1,rfl⟩ e (λz=>nomatch z) h
 | @frz a ob xs ea=>
  cases (show u=Value.ref a from rx)
  obtain⟨_,_,_,n,_,h1⟩:=(show z1c X.prog X.w H s.heap a (.frz ob (.lst xs)) from I.hok a _ ea)
  exact vX W.kitx_list I.kIn ⟨_,h1,rfl⟩ e (λz=>nomatch z) h
 | @tup a xs ea=>
  cases (show u=Value.ref a from rx)
  obtain⟨_,_,_,p,_⟩:=(show z1c X.prog X.w H s.heap a (.tup xs) from I.hok a _ ea)
  obtain⟨o,h1,h2,_⟩:=p;exact vX W.kitx_tuple I.kIn ⟨o,h1,h2⟩ e (λz=>nomatch z) h
 | @dK a kvs ea=>
  cases (show u=Value.ref a from rx)
  obtain⟨_,_,vs,_,p⟩:=(show z1c X.prog X.w H s.heap a (.dK kvs) from I.hok a _ ea)
  obtain⟨o,es,ep,h1,h2,_⟩:=p;exact vX W.kitx_dict I.kIn ⟨o,h1,h2.1⟩ e (λz=>nomatch z) h
 | @dT a kvs ea=>
  cases (show u=Value.ref a from rx)
  obtain⟨_,_,xs,_,o,es,ep,h1,h2,_⟩:=(show z1c X.prog X.w H s.heap a (.dT kvs) from I.hok a _ ea)
  exact vX W.kitx_dict I.kIn ⟨o,h1,h2.1⟩ e (λz=>nomatch z) h
 | @ins a C dx fs ea cl ha hn htk hm=>
  cases (show u=Value.ref a from rx)
  obtain⟨mA,O,_⟩:=zfk I.hok ea;obtain⟨od,J,_⟩:=O.look;exact vX (W.kitx_own (cl.get _) cl.hd ha hn htk hm) I.kIn J e (λz=>nomatch z) h
end
structure Room (k:Nat)(A:Around):Prop where
 hd:A.handled=none
 dp:A.depth+3*k+5<recursionLimit
 un:A.units+16*k+200<cLine
def Room.mono {j k:Nat}{A:Around}(r:Room k A)(h:j<=k):Room j A:=⟨r.hd,by have:=r.dp;lia,by have:=r.un;lia⟩
theorem Room.deeper {k:Nat}(r:Room (k+1) A)(env:Env):Room k (A.deeper env):=
 ⟨r.hd,by have:=r.dp;show A.depth+1+3*k+5<_;lia,by have:=r.un;show A.units+3+16*k+200<_;lia⟩
theorem Room.depth {k:Nat}(r:Room k A):A.depth<recursionLimit:=by have:=r.dp;lia
theorem Room.units {k:Nat}{A:Around}(r:Room k A):A.units+64<cLine:=by have:=r.un;lia
def tNil:TA:=λ_ H Q=>Q [] H
def z6w (ta:TE)(tr:TA):TA:=λσ H Q=>ta σ H λx H1=>tr σ H1 λxs H2=>Q (x::xs) H2
section
variable {X:Cx}{e:Expr}{es:List Expr}{te:TE}{t:TA}{pos:Pos}
def zao:PA X [] tNil:=λ_ _ _ _ H Q I h=>Calls.spliced_nil ⟨[],H,I,.nil,h⟩
def z7E (ha:PE X e te)(hr:PA X es t)(hs:starEach (e::es) X.env=(false,eval e X.env)::starEach es X.env:=by rfl):PA X (e::es) (z6w te t):=by
 intro pos pins s σ H Q I h;rw[hs];show wpAny _ _ (spliced ((false,eval e X.env)::backTo pos (starEach es X.env))) _ _ s;refine Calls.spliced_cons (thn (ha pins s σ H _ I h) λu s1 z9 =>?_);obtain⟨x,H1,I1,r1,q1⟩:=z9;exact thn (hr pos pins s1 σ H1 _ I1 q1) λus s2 ⟨xs,H2,I2,r2,q2⟩=>⟨x::xs,H2,I2,.cons r1 r2,q2⟩
def tTup (t:TA):TE:=λσ H Q=>t σ H λxs H1=>xs.length<=sizeLine/\∀p,H1 p=none->Q (.ref p) (upd H1 p (.tup xs))
def tLst (t:TA):TE:=λσ H Q=>t σ H λxs H1=>xs.length<=sizeLine/\∀p,H1 p=none->Q (.ref p) (upd H1 p (.lst xs))
def zh0 {x1}(h:PA X es t):PE X (.Tuple es x1 pos) (tTup t):=by
 intro pins s σ H Q I hq;refine wpAny_Tuple_spliced (thn (h pos pins s σ H _ I hq) λus s1 ⟨xs,H1,I1,r,z,q⟩=>⟨by rw[<- r.length];exact z,?_⟩);have hf:H1 s1.heap.objs.size=none:=I1.hok.fresh (wx _);refine⟨.ref s1.heap.objs.size,upd H1 s1.heap.objs.size (.tup xs),I1.laid (t':=s1.toks) (λb u e=>wo _ e) (wx _) ?_,rfl,q _ hf⟩;exact⟨z,us,r,⟨_,wA _ rfl,rfl,_,rfl⟩,_,wA _ rfl,rfl⟩
def zh4 (h:PA X es t):PE X (.List es pos) (tLst t):=by
 intro pins s σ H Q I hq;refine wpAny_List_spliced (thn (h pos pins s σ H _ I hq) λus s1 ⟨xs,H1,I1,r,z,q⟩=>⟨by rw[<- r.length];exact z,?_⟩);have hf:H1 s1.heap.objs.size=none:=I1.hok.fresh (wx _);refine⟨.ref s1.heap.objs.size,upd H1 s1.heap.objs.size (.lst xs),I1.laid (t':=s1.toks) (λb u e=>wo _ e) (wx _) ?_,rfl,q _ hf⟩;exact⟨z,us,0,r,wA _ rfl⟩
end
abbrev Sp:=List V->Hp->VK->XK->Prop
abbrev CXT:=List Env->Hp->Shared->XK->Value->Shared->Prop
structure Env0 (P:Program)(w:World)(K:W.Frag)(mg:WmP)(base:Heap)(A:Around)(outer:List Env)(s:Shared)(H:Hp):Prop where
 frames:A.frames=some outer
 mod:Mod K mg base
 bs:∀b o,base.get? b=some o->s.heap.get? b=some o/\H b=none
 bsz:base.objs.size<=s.heap.objs.size
 funs:s.heap.FunFrames base outer
 frf:∀b∈frs outer,H b=none
 tbs:Tbs K H
 hok:HOk P w H s.heap
 bare:AllBare s.gens
def CE (outer:List Env)(P:Program)(w:World)(H:Hp)(s:Shared)(Q:VK)(u:Value)(s':Shared):Prop:=
 ∃v H',s'.os=s.os/\AllBare s'.gens/\Un (frs outer) [] H H' s.heap s'.heap/\HOk P w H' s'.heap/\RelV v u/\Q v H'
def CR (CX:CXT)(outer:List Env)(P:Program)(w:World)(H:Hp)(s:Shared)(Q:VK)(E:XK)(r:Result)(s':Shared):Prop:=
 match r with
 | .ok (.ret u)=>CE outer P w H s Q u s'
 | .ok _=>False
 | .error e=>CX outer H s E e s'
structure FnOk (P:Program)(w:World)(K:W.Frag)(mg:WmP)(base:Heap)(CX:CXT)(k:Nat)(f:Addr)(fd:FuncData)(ps:List Str)(sp:Sp):Prop where
 len:∀vs H Q E,sp vs H Q E->vs.length=ps.length
 run:∀(A:Around) (outer:List Env) (s:Shared) (H:Hp) (args:Args) (us:List Value) (vs:List V) (Q:VK) (E:XK),Room k A->Env0 P w K mg base A outer s H->BindsTo s fd args (ps.zip us)->Vals vs us->sp vs H Q E->
  codeAny (model P w) A (.call (.ref f) args) (CR CX outer P w H s Q E) s
def FnOk.imp {P:Program}{w:World}{K:W.Frag}{mg:WmP}{base:Heap}{CX:CXT}{k:Nat}{f:Addr}{fd:FuncData}{ps:List Str}{sp sp':Sp}(F:FnOk P w K mg base CX k f fd ps sp)
  (h:∀vs H Q E,sp' vs H Q E->sp vs H Q E):FnOk P w K mg base CX k f fd ps sp':=
 ⟨λvs H Q E q=>F.len vs H Q E (h _ _ _ _ q),λA outer s H args us vs Q E hr he hb hv hs=>F.run A outer s H args us vs Q E hr he hb hv (h _ _ _ _ hs)⟩
section
variable {X:Cx}{pins:List (Addr × Obj)}{σ:St}{H:Hp}{s s':Shared}
def Inv.env0 (I:Inv X pins σ H s):Env0 X.prog X.w X.K X.mg X.base X.A X.stack s H:=
 ⟨I.ok.frames,I.ok.mod,I.bs,wO I.ok.bsz I.sz,I.stack,I.stkFree,I.tbs,I.hok,I.bare⟩
def Inv.after (I:Inv X pins σ H s)(h:CE X.stack X.prog X.w H s Q u s'):EP X pins σ Q u s':=by
 obtain⟨v,H',os,bare,un,hok,r,q⟩:=h;obtain⟨hh,g,d,t,os'⟩:=s';obtain rfl:os'=s.os:=os;exact⟨v,H',I.call (h':=hh) (g':=g) (d':=d) (t':=t) (ch:=[]) un hok bare (λb z=>absurd z (by simp)),r,q⟩
end
def zeb (sp:Sp)(dvs:List V)(E:XK)(t:TA):TE:=λσ H Q=>t σ H λvs H1=>sp (vs++dvs) H1 Q E
def z53 (K:W.Frag)(fd:FuncData)(ps:List Str)(ds:List Value):Prop:=
 ∀(s:Shared) (us:List Value),K.In s.heap->(us++ds).length=ps.length->BindsTo s fd ⟨us,[]⟩ (ps.zip (us++ds))
def z53.all {K:W.Frag}{fd:FuncData}{ps:List Str}(h:∀us:List Value,us.length=ps.length->bindArgs fd ⟨us,[]⟩=pure (ps.zip us)):z53 K fd ps []:=λs us _ hl=>by
 rw[v6] at hl ⊢;exact .of_eq (h us hl)
def z3E (CX:CXT)(X:Cx)(E:XK):Prop:=∀(pins:List (Addr × Obj)) (σ:St) (H:Hp) (s:Shared) (e:Value) (s':Shared),Inv X pins σ H s->CX X.stack H s E e s'->X.xe e s'
section
variable {X:Cx}{CX:CXT}{k:Nat}{f C:Addr}{fd:FuncData}{ps:List Str}{sp:Sp}{dvs:List V}{ds:List Value}{E:XK}{x m:Str}{p pos apos:Pos}{e o:Expr}{es:List Expr}{ta:TE}{t:TA}
def zds {vs:List V}(F:FnOk X.prog X.w X.K X.mg X.base CX k f fd ps sp)(hr:Room k X.A)(hb:z53 X.K fd ps ds)(hd:Vals dvs ds)(hx:z3E CX X E)
  (I:Inv X pins σ H s) (r:Vals vs us) (h:sp (vs++dvs) H Q E):wpAny (model X.prog X.w) X.A (call (.ref f) us) (EP X pins σ Q) X.xe s:=by
 have r2:Vals (vs++dvs) (us++ds):=r.append hd;have hl:(us++ds).length=ps.length:=by rw[<- r2.length];exact F.len _ _ _ _ h
 refine wpAny_call (codeAny_mono (F.run X.A X.stack s H ⟨us,[]⟩ (us++ds) (vs++dvs) Q E hr I.env0 (hb s us I.kIn hl) r2 h) λr s' hq =>?_)
 cases r with
 | error e=>exact hx pins σ H s e s' I hq
 | ok fl=>
  cases fl with
  | ret u=>exact I.after hq
  | next=>exact False.elim hq
  | brk=>exact False.elim hq
  | cont=>exact False.elim hq
def zeR (F:FnOk X.prog X.w X.K X.mg X.base CX k f fd ps sp)(hr:Room k X.A)(hg:Gl X x)(hm:X.mg x=some (.ref f))(hk:W.keepIn X.K (.ref f)=true)(hb:z53 X.K fd ps ds)(hd:Vals dvs ds)(hx:z3E CX X E)
  (ha:PA X (e::es) t) (hdb:(x == ("__debug__":Str))=false:=by decide) (he:starEach (e::es) X.env=(false,eval e X.env)::starEach es X.env:=by rfl) (hpl:(backTo pos (starEach es X.env)).any (·.1)=false:=by rfl):
  PE X (.Call (.Name x p) (e::es) [] pos) (zeb sp dvs E t):=by
 x_go;refine ja (zaM I hg hm ?_ hdb);refine W.callWith_K (h₀:=X.base) I.ok.mod.kin hk (thn (ha pos pins s σ H _ I h) λus s1 ⟨vs,H1,I1,r,q⟩=>⟨I1.kIn,?_⟩) he hpl;exact zds F hr hb hd hx I1 r q
end
def PK (X:Cx)(kws:List Keyword)(t:TA):Prop:=
 ∀(pos:Pos) (pins:List (Addr × Obj)) (s:Shared) (σ:St) (H:Hp) (Q:List V->Hp->Prop),Inv X pins σ H s->t σ H Q->wpAny (model X.prog X.w) X.A (evalAll ((backToKw pos (keywordEach kws X.env)).map (·.2))) (AP X pins σ Q) X.xe s
section
variable {X:Cx}{CX:CXT}{k:Nat}{f C:Addr}{fd:FuncData}{ps ks:List Str}{sp:Sp}{E:XK}{x m:Str}{p pos apos kpos:Pos}{e o:Expr}{es:List Expr}{kws:List Keyword}{te ta:TE}{t tk:TA}{nm:Option Str}
def zdz:PK X [] tNil:=λ_ _ _ _ H Q I h=>wpAny_evalAll_nil ⟨[],H,I,.nil,h⟩
def zag (ha:PE X e te)(hr:PK X kws t):PK X (⟨nm,e,kpos⟩::kws) (z6w te t):=by
 intro pos pins s σ H Q I h;show wpAny _ _ (evalAll ((do let v <- eval e X.env;standAt pos;pure v)::(backToKw pos (keywordEach kws X.env)).map (·.2))) _ _ s;refine wpAny_evalAll_cons (we (thn (ha pins s σ H _ I h) λu s1 ⟨x,H1,I1,r1,q1⟩=>we (wpAny_standAt (wj ?_))));exact thn (hr pos pins s1 σ H1 _ I1 q1) λus s2 ⟨xs,H2,I2,r2,q2⟩=>⟨x::xs,H2,I2,.cons r1 r2,q2⟩
variable {g:List Value->List Value->List Value}{gV:List V->List V->List V}
end
structure z3h (N P:List Str)(sc:Scope):Prop where
 kind:sc.kind = .function
 co:sc.isCoroutine=false
 gen:sc.isGenerator=false
 nd:N.Nodup
 pre:N.take P.length=P
 par:∀x∈P,sc.names.lookup x=some .local\/sc.names.lookup x=some .cell
 nofree:∀y∈sc.names,y.2 ≠ .free
theorem z7k {kindOf:Str->Option NameKind}{x:Str}:∀{binds:List (Str × Value)}{m:WmP},(∀v,(x,v) ∉ binds)->bindL kindOf binds m x=m x
 | [],_,_=>rfl
 | (n,v)::r,m,h=>by
  unfold bindL;rw[z7k λw hw=>h w (wm _ hw)]
  split
  .have:x≠n:=by rintro rfl;exact h v wJ
   simp[this]
  .rfl
theorem z7m {kindOf:Str->Option NameKind}{x:Str}:∀{binds:List (Str × Value)}{m:WmP},(∀v,(x,v) ∉ binds)->bindC kindOf binds m x=m x
 | [],_,_=>rfl
 | (n,v)::r,m,h=>by
  unfold bindC;rw[z7m λw hw=>h w (wm _ hw)]
  split
  .rfl
  .have:x≠n:=by rintro rfl;exact h v wJ
   simp[this]
theorem z7l {kindOf:Str->Option NameKind}{x:Str}{v:Value}:∀{P:List Str}{vs:List Value}{i:Nat}{m:WmP},P.Nodup->P[i]? = some x->vs[i]? = some v->kindOf x=some .local->
  bindL kindOf (P.zip vs) m x=some v
 | [],_,_,_,_,h,_,_=>by simp at h
 | _::_,[],_,_,_,_,h,_=>by simp at h
 | p::P,w::vs,0,m,nd,h1,h2,hk=>by
  simp at h1 h2;subst h1;subst h2;show bindL kindOf ((p,w)::P.zip vs) m p=_;unfold bindL;rw[z7k λv hv=>(vY.mp nd).1 (jp hv).1,if_pos hk];simp
 | p::P,w::vs,i+1,m,nd,h1,h2,hk=>by
  show bindL kindOf ((p,w)::P.zip vs) m x=_;unfold bindL;exact z7l (i:=i) (vY.mp nd).2 (by simpa using h1) (by simpa using h2) hk
theorem z7n {kindOf:Str->Option NameKind}{x:Str}{v:Value}:∀{P:List Str}{vs:List Value}{i:Nat}{m:WmP},P.Nodup->P[i]? = some x->vs[i]? = some v->kindOf x≠some .local->
  bindC kindOf (P.zip vs) m x=some v
 | [],_,_,_,_,h,_,_=>by simp at h
 | _::_,[],_,_,_,_,h,_=>by simp at h
 | p::P,w::vs,0,m,nd,h1,h2,hk=>by
  simp at h1 h2;subst h1;subst h2;show bindC kindOf ((p,w)::P.zip vs) m p=_;unfold bindC;rw[z7m λv hv=>(vY.mp nd).1 (jp hv).1,if_neg hk];simp
 | p::P,w::vs,i+1,m,nd,h1,h2,hk=>by
  show bindC kindOf ((p,w)::P.zip vs) m x=_;unfold bindC;exact z7n (i:=i) (vY.mp nd).2 (by simpa using h1) (by simpa using h2) hk
def start (N:List Str)(vs:List V):St:=vs.map some++List.replicate (N.length - vs.length) none
def cxOf (CX:CXT)(P:Program)(w:World)(K:W.Frag)(mg:WmP)(base:Heap)(N:List Str)(qual:Str)(scope:Scope)(f:Addr)(cd:Value)(A:Around)(outer:List Env)(s:Shared)(H:Hp)(E:XK):Cx where
 prog:=P
 w:=w
 K:=K
 mg:=mg
 base:=base
 A:=A.deeper (envOfC qual scope s.heap.objs.size f cd)
 N:=N
 s₀:=s
 H₀:=H
 env:=envOfC qual scope s.heap.objs.size f cd
 outer:=outer
 stack:=envOfC qual scope s.heap.objs.size f cd::outer
 ex:=[]
 calm:=true
 fn:=λ_=>true
 pn:=[]
 xe:=λe s'=>wpAny (model P w) (A.deeper (envOfC qual scope s.heap.objs.size f cd)) (leaving (envOfC qual scope s.heap.objs.size f cd) e) (λ_ s''=>CX outer H s E e s'') (λe' s''=>CX outer H s E e' s'') s'
def z8G {sc:Scope}(h:sc.names.lookup x=some .cell):∃c,(cellsFrom n sc.names []).lookup x=some c:=by
 have q:=W.cellsFrom_some sc.names n [] (.inl h);exact Option.isSome_iff_exists.mp q
def zaR {CX:CXT}{P:Program}{w:World}{K:W.Frag}{mg:WmP}{base:Heap}{N ps:List Str}{qual:Str}{scope:Scope}{f:Addr}{cd:Value}{A:Around}{outer:List Env}{s s1:Shared}{H:Hp}{E:XK}{us:List Value}{vs:List V}
  (S:z3h N ps scope) (hd:A.handled=none) (e0:Env0 P w K mg base A outer s H) (hl:vs.length=ps.length) (r:Vals vs us)
  (x:InCallC s s.heap.objs.size (bindL (envOfC qual scope s.heap.objs.size f cd).kindOf (ps.zip us) λ_=>none) (cellsFrom (s.heap.objs.size+1) scope.names []) (bindC (envOfC qual scope s.heap.objs.size f cd).kindOf (ps.zip us) λ_=>none) s1):
  Inv (cxOf CX P w K mg base N qual scope f cd A outer s H E) [] (start N vs) H s1:=by
 have hpl:ps.length<=N.length:=by have:=congrArg List.length S.pre;rw[vO] at this;lia
 obtain⟨h1,tk,rfl,hk⟩:=x.done;have noA:∀b:Addr,b ∉ (cxOf CX P w K mg base N qual scope f cd A outer s H E).ex:=λb z=>absurd (show b∈([]:List Addr) from z) (by simp);refine⟨⟨e0.mod,S.kind,rfl,rfl,wx _,λy z c h1 h2 =>?_,λy hy =>?_,λy c _ h =>?_,λ_=>hd,Around.frames_deeper e0.frames,.inr ⟨rfl,rfl⟩,λb z=>absurd z (noA b),e0.bs,e0.bsz,λb _ _=>noA b,λb z=>absurd z (noA b),e0.funs,e0.frf,e0.tbs⟩,
  rfl,e0.bare,Un.kept hk,⟨_,x.toInCall.ns,λi y v h1 h2 h3 =>?_⟩,λy c h=>⟨_,x.cell y c h⟩,e0.hok.fresh (wx _),λy c h =>?_,λp hp=>absurd (show p∈([]:List (Addr × Obj)) from hp) (by simp),e0.hok.kept hk,?_⟩
 .exact name_of_addr x.apart (jx h1) (jx h2)
 .have hy:scope.names.lookup y=some .cell\/scope.names.lookup y=some .free:=hy
  rcases hy with hy | hy
  .exact z8G hy
  .exact absurd rfl (S.nofree _ (jx hy))
 .exact um (x.above y c (jx h))
 .have hi:i<vs.length:=by
   unfold start at h2
   by_cases hi:i<vs.length
   .exact hi
   .rw[w9 (by simpa using hi)] at h2;rw[jy] at h2
    split at h2 <;> cases h2
  have ha:vs[i]? = some v:=by
   unfold start at h2;rw[wN (by simpa using hi),wB] at h2
   cases e:vs[i]? with
   | none=>rw[e] at h2;cases h2
   | some a=>rw[e] at h2;cases h2;rfl
  obtain⟨u,hu,rv⟩:=r.get ha;have hp:ps[i]? = some y:=by
   rw[<- S.pre,List.getElem?_take_of_lt (by lia)];exact h1
  have ndP:ps.Nodup:=by rw[<- S.pre];exact S.nd.sublist (List.take_sublist _ _)
  refine⟨u,rv,?_⟩
  rcases S.par y (wy hp) with k | k
  .exact .inl ⟨k,z7l ndP hp hu k⟩
  .obtain⟨c,e⟩:=z8G (n:=s.heap.objs.size+1) k;refine .inr ⟨.inl k,c,e,?_⟩;have q:=x.cell y c e;rw[z7n ndP hp hu (by show scope.names.lookup y≠_;rw[k];decide)] at q;exact q
 .exact e0.hok.fresh (um (x.above y c (jx h)))
 .unfold start;show _=N.length;rw[wL,wg,uo];lia
def zi4 {P:Program}{K:W.Frag}{mg:WmP}{k:Nat}{name qual:Str}{dV kV doc pm cdv ct oc:Value}
     {N ps:List Str}(lk:K.lookup f=some ⟨oc,od,.func (W.fnOf name qual params body scope dV kV doc pm an cdv ct),osl⟩) (hcd:W.codeIn K cdv qual=true) (S:z3h N ps scope)
  (len:∀vs H Q E,sp vs H Q E->vs.length=ps.length)
  (hbody:∀(A:Around) (outer:List Env) (s:Shared) (H:Hp) (vs:List V) (Q:VK) (E:XK),Room k (A.deeper (envOfC qual scope s.heap.objs.size f cdv))->sp vs H Q E->
   ∃t,PSs (cxOf CX P w K mg base N qual scope f cdv A outer s H E) body t/\t { nx:=λ_ H'=>Q .non H',rt:=Q } (start N vs) H):
  FnOk P w K mg base CX (k+1) f (W.fnOf name qual params body scope dV kV doc pm an cdv ct) ps sp:=by
 refine⟨len,λA outer s H args us vs Q E hr e0 hb r hsp =>?_⟩;have hl:=len _ _ _ _ hsp;have KX:K.In s.heap:=e0.mod.kin.keeps λb o e=>(e0.bs b o e).1;have lim:s.heap.NoLimit:=e0.mod.nolimit.keeps λb o e=>(e0.bs b o e).1;have hkind:∀y∈ps.zip us,scope.names.lookup y.1=some .local\/(scope.names.lookup y.1=some .cell/\((cellsFrom (s.heap.objs.size+1) scope.names []).lookup y.1).isSome=true):=by
  rintro⟨n,v⟩ hy
  rcases S.par n (jp hy).1 with q | q
  .exact .inl q
  .exact .inr ⟨q,W.cellsFrom_some _ _ _ (.inl q)⟩
 refine codeAny_call_function hr.depth (KX _ _ lk) rfl S.co S.gen rfl (W.codeRec_of KX hcd) (hb _ _ _ _ ?_);refine wpAny_newFunctionEnv_cells S.kind hkind λenv he s1 x =>?_;subst he;refine⟨lim.keeps x.toInCall.keep,codeAny_func ?_⟩;obtain⟨t,ht,hq⟩:=hbody A outer s H vs Q E (hr.deeper _) hsp;have I:Inv (cxOf CX P w K mg base N qual scope f cdv A outer s H E) [] (start N vs) H s1:=zaR S hr.hd e0 hl r x;refine vK (ht [] s1 (start N vs) H _ I hq) (λfl s' hs =>?_) λe s' hs=>hs;have fin:∀{σ':St}{H':Hp}{v:V}{u:Value},Inv (cxOf CX P w K mg base N qual scope f cdv A outer s H E) [] σ' H' s'->RelV v u->Q v H'->CE outer P w H s Q u s':=
  λ{σ' H' v u} J rv q=>⟨v,H',J.os,J.bare,J.base,J.hok,rv,q⟩
 cases fl with
 | ret u=>
  obtain⟨v,σ',H',J,rv,q⟩:=hs;exact fin J rv q
 | next=>
  obtain⟨σ',H',J,q⟩:=hs;exact fin (v:=V.non) (u:=Value.none) J rfl q
 | brk=>
  obtain⟨_,_,_,q⟩:=hs;exact False.elim q
 | cont=>
  obtain⟨_,_,_,q⟩:=hs;exact False.elim q
section
variable {X:Cx}{x:Str}{p pos:Pos}{e:Expr}{es:List Expr}{t:TA}{id T:String}{r:List V->Hp->VK->Prop}
def tCB (r:List V->Hp->VK->Prop)(t:TA):TE:=λσ H Q=>t σ H λvs H1=>r vs H1 Q
def zcr (hc:z1n X (.builtin id) r)(hg:Gl X x)(hm:X.mg x=none)(hv:bootBuiltins x=some (.builtin id))(ha:PA X (e::es) t)(hn:x≠"__name__":=by decide)(hdb:(x == ("__debug__":Str))=false:=by decide)
  (he:starEach (e::es) X.env=(false,eval e X.env)::starEach es X.env:=by rfl) (hpl:(backTo pos (starEach es X.env)).any (·.1)=false:=by rfl):PE X (.Call (.Name x p) (e::es) [] pos) (tCB r t):=by
 x_go;refine ja (z40 I hg hm hv ?_ hn hdb);exact PyProof.Rows.callWith_builtin1 (thn (ha pos pins s σ H _ I h) λus s1 ⟨vs,H1,I1,r1,q1⟩=>hc pins s1 σ H1 vs us Q I1 r1 q1) he hpl
def zam (hc:z1n X (.type T) r)(hg:Gl X x)(hm:X.mg x=none)(hv:bootBuiltins x=some (.type T))(ha:PA X (e::es) t)(hn:x≠"__name__":=by decide)(hdb:(x == ("__debug__":Str))=false:=by decide)
  (he:starEach (e::es) X.env=(false,eval e X.env)::starEach es X.env:=by rfl) (hpl:(backTo pos (starEach es X.env)).any (·.1)=false:=by rfl):PE X (.Call (.Name x p) (e::es) [] pos) (tCB r t):=by
 x_go;refine ja (z40 I hg hm hv ?_ hn hdb);exact uV (thn (ha pos pins s σ H _ I h) λus s1 ⟨vs,H1,I1,r1,q1⟩=>hc pins s1 σ H1 vs us Q I1 r1 q1) he hpl
end
end L2
namespace HT
open PySem PyProof.Rows
def z0j:List Int->List Int->Bool
 | [],[]=>false
 | [],_::_=>true
 | _::_,[]=>false
 | x::xs,y::ys=>if x=y then z0j xs ys else decide (x<y)
def z1e (x y:Int)(xs ys:List Int):z0j (x::xs) (y::ys)=if x=y then z0j xs ys else decide (x<y):=rfl
def z2A:z0j [] []=false:=rfl
def z37 (y:Int)(ys:List Int):z0j [] (y::ys)=true:=rfl
def z38 (x:Int)(xs:List Int):z0j (x::xs) []=false:=rfl
def z8y (A:Around)(s:Shared)(a:Int)(t:Tok)(c:Int)(u:Tok):∃e,SeqAt.EqAt A s (.int a t) (.int c u) e/\(e=true↔a=c):=
 ⟨(a == c),SeqAt.EqAt.int_int a t c u,by simp⟩
def zc0 (A:Around)(s:Shared)(a:Int)(t:Tok)(c:Int)(u:Tok)(prog:Program)(w:World)(E:WvP)(Q:WvP)(h:Q (.bool (decide (a<c))) s):
  wpAny (model prog w) A (richCompare .Lt (.int a t) (.int c u)) Q E s:=
 (PyProof.Rows.lt_int h:wpAny (model prog w) A (compareOp .Lt (.int a t) (.int c u)) Q E s)
section
open PySem.SeqAt
open PySem.AutoSeq1 (wpAny_loadPart')
open PySem.MeetsSeq PySem.MeetsSeq2 PySem.MeetsSeq3
def z5y (l b:Addr)(z02 items2:Array Value)(n n2:Nat)(dd dd2:Option Addr)(sl sl2:Array (Option Value))(ns ms:List Int)(hi:IntsAre z02.toList ns)(hj:IntsAre items2.toList ms):
  Meets (Builtin.«tuple.__lt__» ⟨[.ref l,.ref b],[]⟩)
   (λ_ R s=>s.heap.get? l=some { cls :=.type "tuple",dict:=dd,data :=.seq z02 n,slots:=sl }/\s.heap.get? b=some { cls :=.type "tuple",dict:=dd2,data :=.seq items2 n2,slots:=sl2 }/\
    R (.ok (.ret (.bool (z0j ns ms)))) s):=
 .of_wp λprog w A R s h=>by
  obtain⟨hp,g,d,tk,os⟩:=s;obtain⟨hl,hb,h⟩:=h;have f2:=AutoSeq1.sub_tuple_tuple;have z1:z02.size=ns.length:=by rw[<- hi.length];simp
  have z2:items2.size=ms.length:=by rw[<- hj.length];simp
  wp_walk using jL hl,jL hb,j4 _ (λrest b s'=>b.1=none/\s'=⟨hp,g,d,tk,os⟩/\∃(vs ws:List Value) (ns' ms':List Int),rest=vs.zip ws/\
   IntsAre vs ns'/\IntsAre ws ms'/\ns'.length+items2.size=ms'.length+z02.size/\R (.ok (.ret (.bool (z0j ns' ms')))) ⟨hp,g,d,tk,os⟩) _
  case turn=>
   rintro⟨y,x⟩ rest b s' ⟨hb',rfl,vs,ws,ns',ms',hz,hvi,hwi,hlen,hR⟩
   cases hvi with
   | nil=>rw[List.zip_nil_left] at hz;cases hz
   | cons a t hvi'=>
    cases hwi with
    | nil=>rw[List.zip_nil_right] at hz;cases hz
    | cons c u hwi'=>
     rw[jb] at hz
     injection hz with hyx hrest
     injection hyx with hy hx
     subst hy hx;rw[z1e] at hR;simp only[w5] at hlen;obtain⟨e,he,hiff⟩:=z8y A.in1 ⟨hp,g,d,tk,os⟩ a t c u;refine we (he prog w _ _ ?_)
     cases e with
     | true=>
      rw[if_pos (hiff.mp rfl)] at hR
      wp_walk
      exact⟨rfl,rfl,_,_,_,_,hrest,hvi',hwi',by lia,hR⟩
     | false=>
      rw[if_neg (λq=>absurd (hiff.mpr q) wU)] at hR;have hri:=zc0 A.in1 ⟨hp,g,d,tk,os⟩ a t c u prog w
      wp_walk using hri
      exact⟨_,rfl,by simpa using hR⟩
  case fin=>
   rintro⟨b1,b2⟩ s' ⟨hb',rfl,vs,ws,ns',ms',hz,hvi,hwi,hlen,hR⟩;simp only at hb';subst hb';have hv:z0j ns' ms'=decide (z02.size<items2.size):=by
    cases hvi with
    | nil=>
     cases hwi with
     | nil=>
      simp only[v7] at hlen;rw[z2A];exact(vG (by lia)).symm
     | cons c u hw=>
      simp only[v7,w5] at hlen;rw[z37];exact(vC (by lia)).symm
    | cons a t hv=>
     cases hwi with
     | nil=>
      simp only[v7,w5] at hlen;rw[z38];exact(vG (by lia)).symm
     | cons c u hw=>
      rw[jb] at hz
      cases hz
   rw[hv] at hR
   wp_walk
   exact⟨_,rfl,by simpa[Builtin.Tuple.tupleCompareSizes] using hR⟩
  case h=>
   exact⟨rfl,rfl,z02.toList,items2.toList,ns,ms,rfl,hi,hj,by lia,h⟩
end
section
variable {prog:Program}{w:World}{A:Around}{E:WvP}{s:Shared}
def z97 {z02 items2:Array Value}(hl:IsTup s.heap l z02)(hb:IsTup s.heap b items2)(hi:IntsAre z02.toList ns)(hj:IntsAre items2.toList ms)
  (hu:A.units<cLine) (h:Q (.bool (z0j ns ms)) s):wpAny (model prog w) A (compareOp .Lt (.ref l) (.ref b)) Q E s:=by
 obtain⟨⟨cls,dd,data,sl⟩,ho,hc,n,hd⟩:=id hl;obtain⟨⟨cls2,dd2,data2,sl2⟩,ho2,hc2,n2,hd2⟩:=id hb;simp only at hc hd hc2 hd2;subst hc hd hc2 hd2;exact richCompare_meets_room (op :=.Lt) ⟨_,ho,rfl⟩ ⟨_,ho2,rfl⟩ PySem.F.slot_tuple_lt PySem.F.entry_tuple_lt (PySem.F.args_tuple_lt_2 _ _) (z5y l b z02 items2 n n2 dd dd2 sl sl2 ns ms hi hj)
  ⟨ho,ho2,show Value.bool (z0j ns ms)≠Value.notImplemented/\Q (.bool (z0j ns ms)) s from ⟨(λx=>nomatch x),h⟩⟩ hu
def zfy {vs ws:List Value}(ht:IsTup s.heap t vs.toArray)(hb:IsTup s.heap b ws.toArray)(hv:vs≠[])
  (h1:ws=[]->Q (.ref t) s) (h2:ws≠[]->Q (.ref s.heap.objs.size) { s with heap:=s.heap.push { cls :=.type "tuple",data :=.seq (vs++ws).toArray } })
  (hsz:vs.length+ws.length<=sizeLine):wpAny (model prog w) A (binaryOp .Add (.ref t) (.ref b)) Q E s:=by
 obtain⟨⟨cls,dd,data,sl⟩,ho,hc,n,hd⟩:=id ht;obtain⟨⟨cls2,dd2,data2,sl2⟩,ho2,hc2,n2,hd2⟩:=id hb;simp only at hc hd hc2 hd2;subst hc hd hc2 hd2;have e:vs.toArray++ws.toArray=(vs++ws).toArray:=by simp
 by_cases hw:ws=[]
 .exact concat_meets ⟨_,ho,rfl⟩ ⟨_,ho2,rfl⟩ noFill_tuple_add seq_tuple_add PySem.F.slot_tuple_add PySem.F.entry_tuple_add (PySem.F.args_tuple_add_2 _ _)
   (tuple_addW1 t b vs.toArray ws.toArray n n2 dd dd2 sl sl2 (by simpa using hv) (by simp[hw])) ⟨ho,ho2,h1 hw⟩
 .refine concat_meets ⟨_,ho,rfl⟩ ⟨_,ho2,rfl⟩ noFill_tuple_add seq_tuple_add PySem.F.slot_tuple_add PySem.F.entry_tuple_add (PySem.F.args_tuple_add_2 _ _)
   (tuple_addW2 t b vs.toArray ws.toArray n n2 dd dd2 sl sl2 (by simpa using hv) (by simpa using hw) (by rw[wD,wD];exact hsz)) ⟨ho,ho2,?_⟩
  rw[e];exact h2 hw
def sIx (n d:Nat):Option Int->Nat
 | none=>d
 | some v=>if v<0 then (v+(n:Int)).toNat else min v.toNat n
def zg5 (n d:Nat)(hd:d<=n)(o:Option Int):sIx n d o<=n:=by
 cases o with
 | none=>exact hd
 | some v=>
  show (if v<0 then (v+(n:Int)).toNat else min v.toNat n)<=n
  by_cases hv:v<0
  .rw[if_pos hv];lia
  .rw[if_neg hv];exact Nat.min_le_right _ _
def zbk (v:Int)(n d:Nat):(if v<0 then max (v+(n:Int)) 0 else min v (n:Int))=((sIx n d (some v):Nat):Int):=by
 show (if v<0 then max (v+(n:Int)) 0 else min v (n:Int))=(((if v<0 then (v+(n:Int)).toNat else min v.toNat n):Nat):Int)
 by_cases hv:v<0
 .simp only[if_pos hv];lia
 .simp only[if_neg hv];lia
def z9k (lo hi:Option Int)(n:Nat):Builtin.Slice.sliceAdjust lo hi 1 (n:Int)=(((sIx n 0 lo:Nat):Int),((sIx n n hi:Nat):Int)):=by
 have h1:¬ ((1:Int)<0):=by lia
 unfold Builtin.Slice.sliceAdjust;simp only[h1,uv];refine vV ?_ ?_
 .cases lo with
  | none=>rfl
  | some v=>exact zbk v n 0
 .cases hi with
  | none=>rfl
  | some v=>exact zbk v n n
def z8Y (i j:Nat):Builtin.Slice.slicePlaces (i:Int) (j:Int) 1=j - i:=by
 unfold Builtin.Slice.slicePlaces;have h1:(1:Int) > 0:=by lia
 simp only[h1,jF,Int.ediv_one]
 split <;> lia
def z58 {v:Value}(p:IsPart v o)(h:Q o s):wpAny (model prog w) A (Builtin.Slice.slicePartIndex v) Q E s:=by
 cases p with
 | none=>exact slicePart_none h
 | int i t=>exact slicePart_int h
def z2E {sl:Addr}{lo hi:Option Int}{n:Nat}(hs:s.heap.IsSliceOf sl vl vu .none)(pl:IsPart vl lo)(pu:IsPart vu hi)
  (h:Q (((sIx n 0 lo:Nat):Int),1,sIx n n hi - sIx n 0 lo) s):wpAny (model prog w) A (Builtin.Slice.sliceApplied (.ref sl) (pure (n:Int))) Q E s:=by
 obtain⟨os,hos,hcs,hds⟩:=id hs;unfold Builtin.Slice.sliceApplied Builtin.Slice.sliceFields;refine we (we (uw hos hds (x:=vl) rfl (we (uw hos hds (x:=vu) rfl (we (uw hos hds (x :=.none) rfl (wj ?_)))))));refine we (slicePart_none ?_);show wpAny _ _ (if ((1:Int) == 0)=true then _ else _) _ _ s;rw[if_neg (by decide)];refine we (z58 pl (we (z58 pu (we (wj ?_)))));show wpAny _ _ (match Builtin.Slice.sliceAdjust lo hi 1 (n:Int) with | (lo,hi)=>pure (lo,(1:Int),Builtin.Slice.slicePlaces lo hi 1)) _ _ s;rw[z9k lo hi n];show wpAny _ _ (pure (((sIx n 0 lo:Nat):Int),(1:Int),Builtin.Slice.slicePlaces ((sIx n 0 lo:Nat):Int) ((sIx n n hi:Nat):Int) 1)) _ _ s;rw[z8Y];exact wj h
def zcl (xs:Array Value)(i k:Nat):((List.range k).filterMap λ(m:Nat)=>xs[((i:Int)+(m:Int)*1).toNat]?).toArray=((xs.toList.drop i).take k).toArray:=by
 have e:(λ(m:Nat)=>xs[((i:Int)+(m:Int)*1).toNat]?)=λm=>xs[i+m]? := by
  funext m
  have:((i:Int)+(m:Int)*1).toNat=i+m:=by lia
  rw[this]
 rw[e];have:=pick_run xs i k;rw[List.filterMap_map] at this;have e2:((λx=>xs[x]?) ∘ λx=>i+x)=λm=>xs[i+m]? := rfl;rw[e2] at this;rw[this]
def z3R {t sl:Addr}{z02:Array Value}{lo hi:Option Int}(ht:IsTup s.heap t z02)(hs:s.heap.IsSliceOf sl vl vu .none)(pl:IsPart vl lo)(pu:IsPart vu hi)
  (hw:¬ (sIx z02.size 0 lo=0/\sIx z02.size z02.size hi=z02.size))
  (h:Q (.ref s.heap.objs.size) { s with heap:=s.heap.push { cls :=.type "tuple",data :=.seq ((z02.toList.drop (sIx z02.size 0 lo)).take (sIx z02.size z02.size hi - sIx z02.size 0 lo)).toArray } })
  (hsz:z02.size<=sizeLine):wpAny (model prog w) A (getItem (.ref t) (.ref sl)) Q E s:=by
 have htake:sizeOk (.seq ((z02.toList.drop (sIx z02.size 0 lo)).take (sIx z02.size z02.size hi - sIx z02.size 0 lo)).toArray):=by
  show ((z02.toList.drop (sIx z02.size 0 lo)).take (sIx z02.size z02.size hi - sIx z02.size 0 lo)).toArray.size<=sizeLine;rw[wD,vO,jB,vA];lia
 have hj:sIx z02.size z02.size hi<=z02.size:=zg5 _ _ (wx _) hi;obtain⟨os,hos,hcs,hds⟩:=id hs;have hTs:s.TypeIs (.ref sl) "slice":=⟨os,hos,hcs⟩
 unfold getItem
 try with_reducible refine ud ?_
 first | refine we (wj ?_) | skip
 refine we (wpAny_sequenceKey ht.typeIs (by decide) ?_);refine we (vW (name:=Str.ofString "__getitem__") ht.typeIs vQ
  (v9 vQ ht.typeIs entry_tuple_getitem ?_ (args_tuple_getitem _ _)))
 show wpAny _ _ (Builtin.Tuple.tupleItemsOf (.ref t) >>= _) _ _ s;refine we (tupleItemsOf_ ht ?_);refine we (Wa hTs ?_);rw[if_pos (by decide)];refine we (z2E hs pl pu ?_);have hno:¬ ((((sIx z02.size 0 lo:Nat):Int) == 0 && (1:Int) == 1 && (sIx z02.size z02.size hi - sIx z02.size 0 lo) == z02.size)=true):=by
  intro q;rw[vE,vE] at q;have q1:((sIx z02.size 0 lo:Nat):Int)=0:=eq_of_beq q.1.1;have q2:sIx z02.size z02.size hi - sIx z02.size 0 lo=z02.size:=eq_of_beq q.2;exact hw ⟨by lia,by lia⟩
 show wpAny _ _ (if (((sIx z02.size 0 lo:Nat):Int) == 0 && (1:Int) == 1 && (sIx z02.size z02.size hi - sIx z02.size 0 lo) == z02.size)=true then _ else _) _ _ s;rw[if_neg hno,zcl]
 first
  | exact we (m:=Builtin.Tuple.tupleExact _) (vo (wj ⟨_,rfl,wj h⟩) htake)
  | exact we (m:=Builtin.Tuple.tupleExact _) (vo (we (wj (wj ⟨_,rfl,wj h⟩))) htake)
  | exact we (we (m:=Builtin.Tuple.tupleExact _) (vo (wj (wj ⟨_,rfl,wj h⟩)) htake))
  | exact we (we (m:=Builtin.Tuple.tupleExact _) (vo (wj ⟨_,rfl,wj h⟩) htake))
end
end HT
namespace L2
open PySem PySem.Spec PyProof.Rows
abbrev TO:=St->Hp->(Option Int->Hp->Prop)->Prop
def PO (X:Cx)(e:Option Expr)(t:TO):Prop:=
 ∀(pins:List (Addr × Obj)) (s:Shared) (σ:St) (H:Hp) (Q:Option Int->Hp->Prop),Inv X pins σ H s->t σ H Q->
  wpAny (model X.prog X.w) X.A (evalPart e X.env) (λu s'=>∃o H',Inv X pins σ H' s'/\IsPart u o/\Q o H') X.xe s
def z9A:TO:=λ_ H Q=>Q none H
def zfN (t:TE):TO:=λσ H Q=>t σ H λx H1=>∃i,x = .int i/\Q (some i) H1
def z30:∀{us:List Value},Vals (ns.map V.int) us->IntsAre us ns:=by
 induction ns with
 | nil=>intro us r;rw[Wk] at r;cases r;exact .nil
 | cons n ns ih=>
  intro us r;rw[ve] at r
  cases r with
  | cons r1 r2=>
   obtain⟨t,e⟩:=r1;subst e;exact .cons n t (ih r2)
section
variable {X:Cx}{e:Expr}{te:TE}{lo hi:Option Expr}{tl th:TO}{pos p2:Pos}
def zeN:PO X none z9A:=by
 x_go;rw[evalPart_none];exact wj ⟨none,H,I,.none,h⟩
def zeM (h:PE X e te):PO X (some e) (zfN te):=by
 intro pins s σ H Q I hw;rw[evalPart_some];refine thn (h pins s σ H _ I hw) λu s1 z9 =>?_;obtain⟨x,H1,I1,r1,q1⟩:=z9;obtain⟨i,rfl,q⟩:=q1;obtain⟨t,rfl⟩:=r1;exact⟨some i,H1,I1,.int i t,q⟩
def SlR (X:Cx)(r:V->Option Int->Option Int->Hp->VK->Prop):Prop:=
 ∀(pins:List (Addr × Obj)) (s:Shared) (σ:St) (H:Hp) (x:V) (v vl vu:Value) (lo hi:Option Int) (sl:Addr) (Q:VK),Inv X pins σ H s->RelV x v->s.heap.IsSliceOf sl vl vu .none->IsPart vl lo->IsPart vu hi->r x lo hi H Q->
  ∃T id,typeLookup (.type T) "__getitem__"=pure (some (.builtin id))/\s.TypeIs v T/\wpAny (model X.prog X.w) X.A (getItem v (.ref sl)) (EP X pins σ Q) X.xe s
def SlR.or (h:SlR X r)(h':SlR X r'):SlR X (λx lo hi H Q=>r x lo hi H Q\/r' x lo hi H Q):=by
 intro pins s σ H x v vl vu lo hi sl Q I rx hs pl pu q
 rcases q with q | q
 .exact h pins s σ H x v vl vu lo hi sl Q I rx hs pl pu q
 .exact h' pins s σ H x v vl vu lo hi sl Q I rx hs pl pu q
def tSl (r:V->Option Int->Option Int->Hp->VK->Prop)(te:TE)(tl th:TO):TE:=λσ H Q=>te σ H λx H1=>tl σ H1 λl H2=>th σ H2 λu H3=>r x l u H3 Q
def zcp (hr:SlR X r)(he:PE X e te)(hl:PO X lo tl)(hu:PO X hi th):PE X (.Subscript e (.Slice lo hi none p2) pos) (tSl r te tl th):=by
 x_go;refine Subscript_ (thn (he pins s σ H _ I h) λv s1 z9 =>?_);obtain⟨x,H1,I1,r1,q1⟩:=z9;refine wpAny_Slice (thn (hl pins s1 σ H1 _ I1 q1) λvl s2 ⟨l,H2,I2,pl,q2⟩=>thn (hu pins s2 σ H2 _ I2 q2) λvu s3 z9 =>?_);obtain⟨u,H3,I3,pu,q3⟩:=z9;rw[evalPart_none];refine wj ?_;have I4:Inv X pins σ H3 { s3 with heap:=s3.heap.push { cls :=.type "slice",data :=.fields #[vl,vu,.none] } }:=I3.kept (t':=s3.toks) λb ob q=>wo _ q;obtain⟨T,id,hT,ht,hg⟩:=hr pins { s3 with heap:=s3.heap.push { cls :=.type "slice",data :=.fields #[vl,vu,.none] } } σ H3 x v vl vu l u s3.heap.objs.size Q I4 r1 (Heap.IsSliceOf.new ..) pl pu q3;show wpAny (model X.prog X.w) X.A (subscriptTail e (.Slice lo hi none p2) v (.ref s3.heap.objs.size)) (EP X pins σ Q) X.xe { s3 with heap:=s3.heap.push { cls :=.type "slice",data :=.fields #[vl,vu,.none] } };exact tail_any (ops:=[.ref s3.heap.objs.size,v]) ht hT hg (by with_unfolding_all rfl)
def cutV (xs:List V)(lo hi:Option Int):List V:=(xs.drop (HT.sIx xs.length 0 lo)).take (HT.sIx xs.length xs.length hi - HT.sIx xs.length 0 lo)
def z4F (xs:List V)(lo hi:Option Int):(cutV xs lo hi).length<=xs.length:=by
 unfold cutV;rw[vO,jB];lia
def rSlT (K:W.Frag):V->Option Int->Option Int->Hp->VK->Prop:=λx lo hi H Q=>∃a xs,x = .ref a/\SqT K H a xs/\
 ¬ (HT.sIx xs.length 0 lo=0/\HT.sIx xs.length xs.length hi=xs.length)/\∀p,H p=none->Q (.ref p) (upd H p (.tup (cutV xs lo hi)))
def zfV:SlR X (rSlT X.K):=by
 intro pins s σ H x v vl vu lo hi sl Q I rx hs pl pu h;obtain⟨a,xs,rfl,hx,hw,q⟩:=h
 cases rx
 obtain⟨its,r,ht,hz⟩:=I.tuple hx;have hlen:its.toArray.size=xs.length:=by rw[wD];exact r.length.symm
 refine⟨"tuple",_,vQ.lookup,ht.typeIs,?_⟩;refine HT.z3R ht hs pl pu (by rw[hlen];exact hw) ?_ (by rw[hlen];exact hz);rw[hlen];refine⟨.ref s.heap.objs.size,_,I.laid (t':=s.toks) (o :=.tup (cutV xs lo hi)) (λb ob q=>wo _ q) (wx _) ?_,rfl,q _ (I.hok.fresh (wx _))⟩;exact⟨wO (z4F xs lo hi) hz,_,(r.drop (HT.sIx xs.length 0 lo)).take (HT.sIx xs.length xs.length hi - HT.sIx xs.length 0 lo),IsTup.new _ _,_,wA _ rfl,rfl⟩
def rLtT (K:W.Frag):R2:=λx y H Q=>∃a b ns ms,x = .ref a/\y = .ref b/\SqT K H a (ns.map V.int)/\SqT K H b (ms.map V.int)/\Q (.bl (HT.z0j ns ms)) H
def zhg (hu:X.A.units<cLine):OpR X (compareOp .Lt) (rLtT X.K):=by
 z_go;obtain⟨a,b,ns,ms,rfl,rfl,ha,hb,q⟩:=h
 cases rx
 cases ry
 obtain⟨its,r1,p1,_⟩:=I.tuple ha;obtain⟨its2,r2,p2,_⟩:=I.tuple hb;have i1:IntsAre its.toArray.toList ns:=z30 r1;have i2:IntsAre its2.toArray.toList ms:=z30 r2;exact HT.z97 p1 p2 i1 i2 hu ⟨.bl (HT.z0j ns ms),H,I,rfl,q⟩
def ziD (K:W.Frag):R2:=λx y H Q=>∃a b xs ys,x = .ref a/\y = .ref b/\SqT K H a xs/\SqT K H b ys/\xs≠[]/\xs.length+ys.length<=sizeLine/\
 (ys=[]->Q (.ref a) H)/\(ys≠[]->∀p,H p=none->Q (.ref p) (upd H p (.tup (xs++ys))))
def Vals.nil_iff (r:Vals xs us):us=[]↔xs=[]:=by
 cases r with
 | nil=>simp
 | cons _ _=>simp
def zeZ:OpR X (binaryOp .Add) (ziD X.K):=by
 z_go;obtain⟨a,b,xs,ys,rfl,rfl,ha,hb,hx,hz,q1,q2⟩:=h
 cases rx
 cases ry
 obtain⟨its,r1,p1,_⟩:=I.tuple ha;obtain⟨its2,r2,p2,_⟩:=I.tuple hb;refine HT.zfy p1 p2 (λz=>hx (r1.nil_iff.mp z)) (λz=>⟨.ref a,H,I,rfl,q1 (r2.nil_iff.mp z)⟩) (λz =>?_) (by rw[<- r1.length, <- r2.length];exact hz);refine⟨.ref s.heap.objs.size,_,I.laid (t':=s.toks) (o :=.tup (xs++ys)) (λb ob q=>wo _ q) (wx _) ?_,rfl,q2 (λw=>z (r2.nil_iff.mpr w)) _ (I.hok.fresh (wx _))⟩;exact⟨by rw[wL];exact hz,_,r1.append r2,IsTup.new _ _,_,wA _ rfl,rfl⟩
end
def ixN (n:Nat)(i:Int):Option Nat:=if 0<=i then (if i<n then some i.toNat else none) else if -(n:Int)<=i then some (i+n).toNat else none
def atI {α:Type}(xs:List α)(i:Int):Option α:=(ixN xs.length i).bind λj=>xs[j]?
def zfj (h:ixN n i=some j):seqIndex? i n=some j/\j<n /\ -(n:Int)<=i/\i<n:=by
 unfold ixN at h
 by_cases h0:0<=i
 .rw[if_pos h0] at h
  by_cases h1:i<n
  .rw[if_pos h1] at h;have e:i.toNat=j:=vk h;exact⟨by rw[seqIndex_of h0 h1,e],by lia,by lia,h1⟩
  .rw[if_neg h1] at h;cases h
 .rw[if_neg h0] at h
  by_cases h1 : -(n:Int)<=i
  .rw[if_pos h1] at h;have e:(i+n).toNat=j:=vk h;exact⟨by rw[seqIndex_neg (by lia) h1,e],by lia,h1,by lia⟩
  .rw[if_neg h1] at h;cases h
def zbv {α:Type}{xs:List α}{i:Int}{v:α}(h:atI xs i=some v):∃j,seqIndex? i xs.length=some j/\xs[j]? = some v/\j<xs.length /\ -(xs.length:Int)<=i/\i<xs.length:=by
 unfold atI at h
 cases e:ixN xs.length i with
 | none=>rw[e] at h;cases h
 | some j=>
  rw[e] at h;obtain⟨h1,h2,h3,h4⟩:=zfj e;exact⟨j,h1,h,h2,h3,h4⟩
def z7X (b:Expr):Prop:=∀o i,subscripted b false o i=operate [o,i] (getItem o i)
def IxR (X:Cx)(r:R2):Prop:=
 ∀(value slice:Expr) (pins:List (Addr × Obj)) (s:Shared) (σ:St) (H:Hp) (x y:V) (v u:Value) (Q:VK),Inv X pins σ H s->RelV x v->RelV y u->r x y H Q->
  subscripted slice false v u=operate [v,u] (getItem v u)->wpAny (model X.prog X.w) X.A (subscriptTail value slice v u) (EP X pins σ Q) X.xe s
def MtR (X:Cx)(id:String)(r:V->List V->Hp->VK->Prop):Prop:=
 ∀(pins:List (Addr × Obj)) (s:Shared) (σ:St) (H:Hp) (x:V) (xs:List V) (v:Value) (us:List Value) (Q:VK),Inv X pins σ H s->RelV x v->Vals xs us->r x xs H Q->
  wpAny (model X.prog X.w) X.A (call (.builtin id) (v::us)) (EP X pins σ Q) X.xe s
section
variable {X:Cx}{a b:Expr}{ta tb:TE}{pos:Pos}
def IxR.or (h:IxR X r)(h':IxR X r'):IxR X (λx y H Q=>r x y H Q\/r' x y H Q):=by
 intro value slice pins s σ H x y v u Q I rx ry q hs
 rcases q with q | q
 .exact h value slice pins s σ H x y v u Q I rx ry q hs
 .exact h' value slice pins s σ H x y v u Q I rx ry q hs
def zj3 (hr:IxR X r)(ha:PE X a ta)(hb:PE X b tb)(hs:z7X b):PE X (.Subscript a b pos) (tOp r ta tb):=by
 x_go;exact Subscript_ (binT ha hb I h λv u s2 x y H2 I2 rx ry q=>hr a b pins s2 σ H2 x y v u Q I2 rx ry q (hs _ _))
def rIxL (K:W.Frag):R2:=λx y H Q=>∃p xs i v,x = .ref p/\y = .int i/\SqL K H p xs/\atI xs i=some v/\Q v H
def rIxT (K:W.Frag):R2:=λx y H Q=>∃p xs i v,x = .ref p/\y = .int i/\SqT K H p xs/\atI xs i=some v/\Q v H
def zfi:IxR X (rIxL X.K):=by
 intro value slice pins s σ H x y v u Q I rx ry h hs;obtain⟨p,xs,i,z,rfl,rfl,hq,he,q⟩:=h
 cases rx
 obtain⟨t,rfl⟩:=ry;obtain⟨its,r,pl,hz⟩:=I.list hq;obtain⟨j,h1,h2,h3,h4,h5⟩:=zbv he;obtain⟨w,ew,rw'⟩:=r.get h2;have hl:=r.length;have hn:=z8o;have fin:EP X pins σ Q w s:=⟨z,H,I,rw',q⟩
 by_cases h0:0<=i
 .have hj:i.toNat=j:=by
   rw[seqIndex_of h0 h5] at h1;exact vk h1
  exact item_listR pl.isList h0 (by lia) (by rw[hj];simpa using ew) fin hs
 .have hj:(i+(its.toArray.size:Int)).toNat=j:=by
   rw[seqIndex_neg (by lia) h4] at h1;rw[wD, <- hl];exact vk h1
  exact subscriptTail_builtinR (x:=w) pl.isList.typeIs slot_list_getitem.lookup
   (wpAny_getItem_list_neg (Q:=λr s'=>r=w/\EP X pins σ Q r s') pl.isList (by lia) (by rw[wD] <;> lia) (by lia) (by rw[hj];simpa using ew) ⟨rfl,fin⟩) hs
def zhX:IxR X (rIxT X.K):=by
 intro value slice pins s σ H x y v u Q I rx ry h hs;obtain⟨p,xs,i,z,rfl,rfl,hq,he,q⟩:=h
 cases rx
 obtain⟨t,rfl⟩:=ry;obtain⟨its,r,pl,hz⟩:=I.tuple hq;obtain⟨j,h1,h2,h3,h4,h5⟩:=zbv he;obtain⟨w,ew,rw'⟩:=r.get h2;have hl:=r.length;have hn:=z8o;have fin:EP X pins σ Q w s:=⟨z,H,I,rw',q⟩
 exact subscriptTail_builtinR (x:=w) pl.typeIs slot_tuple_getitem.lookup
  (getItem_tuple (j:=j) (Q:=λr s'=>r=w/\EP X pins σ Q r s') pl (by lia) (by lia) (by rw[wD, <- hl];exact h1) (by simpa using ew) ⟨rfl,fin⟩) hs
def z6B (lo hi:Option Int)(n:Nat):(sliceBounds lo hi none n).1=((HT.sIx n 0 lo:Nat):Int)/\(sliceBounds lo hi none n).2.1=((HT.sIx n n hi:Nat):Int)/\(sliceBounds lo hi none n).2.2=1:=by
 refine⟨?_,?_,rfl⟩
 .cases lo with
  | none=>simp[sliceBounds,HT.sIx]
  | some i=>
   simp only[sliceBounds,HT.sIx,Option.getD_none,show (1:Int) > 0 by decide,jF]
   by_cases h:i<0
   .simp only[h,jF] <;> lia
   .simp only[h,uv] <;> lia
 .cases hi with
  | none=>simp[sliceBounds,HT.sIx]
  | some i=>
   simp only[sliceBounds,HT.sIx,Option.getD_none,show (1:Int) > 0 by decide,jF]
   by_cases h:i<0
   .simp only[h,jF] <;> lia
   .simp only[h,uv] <;> lia
def z5C (its:List Value)(lo hi:Option Int):slicePick its.toArray lo hi none=((its.drop (HT.sIx its.length 0 lo)).take (HT.sIx its.length its.length hi - HT.sIx its.length 0 lo)).toArray:=by
 obtain⟨h1,h2,h3⟩:=z6B lo hi its.toArray.size;unfold slicePick;rw[h1,h2,h3];simp only[sliceRange_one,pick_run,wD] <;> rfl
def rSlL (K:W.Frag):V->Option Int->Option Int->Hp->VK->Prop:=λx lo hi H Q=>∃a xs,x = .ref a/\SqL K H a xs/\∀p,H p=none->Q (.ref p) (upd H p (.lst (cutV xs lo hi)))
def zec:SlR X (rSlL X.K):=by
 intro pins s σ H x v vl vu lo hi sl Q I rx hs pl pu h;obtain⟨a,xs,rfl,hx,q⟩:=h
 cases rx
 obtain⟨its,r,ht,hz⟩:=I.list hx;have hlen:=r.length;refine⟨"list",_,slot_list_getitem.lookup,ht.isList.typeIs,?_⟩;refine wpAny_getItem_list_slice ht.isList hs pl pu .none (by simp) ?_ (by rw[wD] <;> lia);rw[z5C, <- hlen];refine⟨.ref s.heap.objs.size,_,I.laid (t':=s.toks) (o :=.lst (cutV xs lo hi)) (λb ob q=>wo _ q) (wx _) ?_,rfl,q _ (I.hok.fresh (wx _))⟩;exact⟨wO (z4F xs lo hi) hz,_,0,(r.drop (HT.sIx xs.length 0 lo)).take (HT.sIx xs.length xs.length hi - HT.sIx xs.length 0 lo),wA _ rfl⟩
def z7j:z1n X (.builtin "len") (λxs H Q=>∃p ys,xs=[.ref p]/\(SqL X.K H p ys\/SqT X.K H p ys)/\Q (.int ys.length) H):=by
 intro pins s σ H xs us Q I r h;obtain⟨p,ys,rfl,hq,q⟩:=h;obtain⟨u,rfl,rx⟩:=z3k r
 cases rx
 have hn:=z8o
 rcases hq with hq | hq
 .obtain⟨its,r',pl,hz⟩:=I.list hq;have hlen:=r'.length;exact Calls.call_len_list pl.isList (by simp only[wD] <;> lia) ⟨.int ys.length,H,I.tok _,⟨s.toks+1,by rw[wD,hlen]⟩,q⟩
 .obtain⟨its,r',pl,hz⟩:=I.tuple hq;have hlen:=r'.length;exact len_tuple pl (by simp only[wD] <;> lia) ⟨.int ys.length,H,I.tok _,⟨s.toks+1,by rw[wD,hlen]⟩,q⟩
def z7i:z1n X (.type "list") (λxs H Q=>∃p ys,xs=[.ref p]/\(SqL X.K H p ys\/SqT X.K H p ys)/\∀l,H l=none->Q (.ref l) (upd H l (.lst ys))):=by
 intro pins s σ H xs us Q I r h;obtain⟨p,ys,rfl,hq,q⟩:=h;obtain⟨u,rfl,rx⟩:=z3k r
 cases rx
 have fin:∀(its:List Value),Vals ys its->ys.length<=sizeLine->∀(h':Heap) (c':Nat),(∀b o',s.heap.get? b=some o'->h'.get? b=some o')->
   h'.get? s.heap.objs.size=some { cls :=.type "list",dict:=none,data :=.seq its.toArray c',slots := #[] }->EP X pins σ Q (.ref s.heap.objs.size) { s with heap:=h' }:=λits r' hz h' c' kp e=>
  ⟨.ref s.heap.objs.size,_,I.laid (t':=s.toks) kp (wx _) (show z1c X.prog X.w _ h' _ (.lst ys) from ⟨hz,its,c',r',e⟩),rfl,q _ (I.hok.fresh (wx _))⟩
 rcases hq with hq | hq
 .obtain⟨its,r',pl,hz⟩:=I.list hq;have hlen:=r'.length;obtain⟨o,ho,hc,n,hd⟩:=pl.isList;exact call_list_seq p (.inl rfl) ho hc hd (λh' c' kp e=>fin its r' hz h' c' kp e) (by simp only[wD] <;> lia)
 .obtain⟨its,r',pl,hz⟩:=I.tuple hq;have hlen:=r'.length;obtain⟨o,ho,hc,n,hd⟩:=pl;exact call_list_seq p (.inr rfl) ho hc hd (λh' c' kp e=>fin its r' hz h' c' kp e) (by simp only[wD] <;> lia)
def z6j:z1n X (.type "tuple") (λxs H Q=>∃p ys,xs=[.ref p]/\((SqL X.K H p ys/\∀l,H l=none->Q (.ref l) (upd H l (.tup ys)))\/(SqT X.K H p ys/\Q (.ref p) H))):=by
 intro pins s σ H xs us Q I r h;obtain⟨p,ys,rfl,h⟩:=h;obtain⟨u,rfl,rx⟩:=z3k r
 cases rx
 rcases h with ⟨hq,q⟩ | ⟨hq,q⟩
 .obtain⟨its,r',pl,hz⟩:=I.list hq;have hlen:=r'.length;refine call_tuple_list pl.isList (λh' kp =>?_) (by simp only[wD] <;> lia);have I1:Inv X pins σ H { s with heap:=h' }:=I.kept (t':=s.toks) kp;have I2:Inv X pins σ (upd H h'.objs.size (.tup ys)) { s with heap:=h'.push { cls :=.type "tuple",data :=.seq its.toArray } }:=
   I1.laid (t':=s.toks) (λb o e=>wo _ e) (wx _) (show z1c X.prog X.w _ _ _ (.tup ys) from ⟨hz,its,r',IsTup.new _ _,_,wA _ rfl,rfl⟩)
  exact⟨.ref h'.objs.size,_,I2,rfl,q _ (I1.hok.fresh (wx _))⟩
 .obtain⟨its,r',pl,hz⟩:=I.tuple hq;exact call_tuple_same pl ⟨.ref p,H,I,rfl,q⟩
def tyV (K:W.Frag)(T:String)(x:V)(H:Hp):Prop:=match x with
 | .str _=>T="str"
 | .int _=>T="int"
 | .ref p=>(T="list"/\∃xs,SqL K H p xs)\/(T="tuple"/\∃o,K.lookup p=some o/\o.cls = .type "tuple"/\o.dict=none)\/
   (T="dict"/\((∃kvs,H p=some (.dK kvs))\/∃kvs,H p=some (.dT kvs)))\/(T="set"/\∃S n,H p=some (.set S n))
 | _=>False
def zdl {v:Value}(I:Inv X pins σ H s)(r:RelV x v)(ty:tyV X.K T x H):
  s.TypeIs v T/\∀a,v = .ref a->∃ob,s.heap.get? a=some ob/\ob.dict=none:=by
 cases x with
 | str z=>
  obtain⟨t,rfl⟩:=r
  cases (show T="str" from ty)
  exact⟨typeIs_str s z t,λ_ e=>nomatch e⟩
 | int i=>
  obtain⟨t,rfl⟩:=r
  cases (show T="int" from ty)
  exact⟨typeIs_int s i t,λ_ e=>nomatch e⟩
 | ref p=>
  cases r
  rcases ty with ⟨rfl,xs,hq⟩ | ⟨rfl,o,hk,hc,hd⟩ | ⟨rfl,hk⟩ | ⟨rfl,S,n,hk⟩
  .obtain⟨its,_,pl,_⟩:=I.list hq;refine⟨pl.isList.typeIs,λa e =>?_⟩
   cases e
   obtain⟨o,n,e,c,hd,_⟩:=pl;exact⟨o,e,hd⟩
  .refine⟨⟨o,I.kIn p o hk,hc⟩,λa e =>?_⟩
   cases e
   exact⟨o,I.kIn _ o hk,hd⟩
  .have z:∃o,s.heap.get? p=some o/\o.ExactDict:=by
    rcases hk with ⟨kvs,hk⟩ | ⟨kvs,hk⟩
    .obtain⟨_,_,_,_,o,_,_,e,ex,_⟩:=I.hok p _ hk;exact⟨o,e,ex⟩
    .obtain⟨_,_,_,_,o,_,_,e,ex,_⟩:=I.hok p _ hk;exact⟨o,e,ex⟩
   obtain⟨o,e,ex⟩:=z;refine⟨⟨o,e,ex.1⟩,λa e2 =>?_⟩
   cases e2
   exact⟨o,e,ex.2.1⟩
  .obtain⟨o,_,_,_,e,ex,_⟩:=I.hok p _ hk;refine⟨⟨o,e,ex.1⟩,λa e2 =>?_⟩
   cases e2
   exact⟨o,e,ex.2.1⟩
 | _=>exact False.elim ty
def tBM0 (K:W.Frag)(T:String)(r:V->List V->Hp->VK->Prop)(to:TE):TE:=λσ H Q=>to σ H λx H1=>tyV K T x H1/\r x [] H1 Q
def tBM (K:W.Frag)(T:String)(r:V->List V->Hp->VK->Prop)(to:TE)(t:TA):TE:=λσ H Q=>to σ H λx H1=>tyV K T x H1/\t σ H1 λxs H2=>r x xs H2 Q
variable {o e:Expr}{es:List Expr}{to:TE}{t:TA}{name:Str}{apos cpos:Pos}{T id:String}{r:V->List V->Hp->VK->Prop}
def zh7 (pa:PlainAttrs T)(slot:Slot T name id)(hty:typeOf (.builtin id)=pure (.type "method_descriptor"))(hm:MtR X id r)(ho:PE X o to)
  (hbase:attributeBase o name X.env (eval o X.env)=eval o X.env:=by rfl) (hline:(apos.endLine == cpos.line)=true:=by rfl):PE X (.Call (.Attribute o name apos) [] [] cpos) (tBM0 X.K T r to):=by
 x_go;refine wpAny_Call_method0_late hbase hline (thn (ho pins s σ H _ I h) λv s1 z9 =>?_);obtain⟨x,H1,I1,r1,ty,q1⟩:=z9;obtain⟨h1,h2⟩:=zdl I1 r1 ty;exact⟨T,id,pa,slot,hty,h1,h2,Calls.callWith_builtin rfl (PySem.evalArgs_none (hm pins s1 σ H1 x [] v [] Q I1 r1 .nil q1))⟩
def zj5 (pa:PlainAttrs T)(slot:Slot T name id)(hty:typeOf (.builtin id)=pure (.type "method_descriptor"))(hm:MtR X id r)(ho:PE X o to)(ha:PA X (e::es) t)
  (hbase:attributeBase o name X.env (eval o X.env)=eval o X.env:=by rfl)
  (hfew:((backTo cpos (starEach (e::es) X.env)).all (λx => !x.1) && (backToKw cpos (keywordEach [] X.env)).all (λx=>x.1.isSome)
   && decide ((e::es).length+([]:List Keyword).length+(if ([]:List Keyword).isEmpty then 0 else 1)<30))=true:=by rfl)
  (hline:(apos.endLine == cpos.line)=true:=by rfl) (hs:starEach (e::es) X.env=(false,eval e X.env)::starEach es X.env:=by rfl) (hplain:(backTo cpos (starEach es X.env)).any (·.1)=false:=by rfl):
  PE X (.Call (.Attribute o name apos) (e::es) [] cpos) (tBM X.K T r to t):=by
 x_go;refine wpAny_Call_method_late hbase hfew hline rfl (thn (ho pins s σ H _ I h) λv s1 z9 =>?_);obtain⟨x,H1,I1,r1,ty,q1⟩:=z9;obtain⟨h1,h2⟩:=zdl I1 r1 ty;refine⟨T,id,pa,slot,hty,h1,h2,?_⟩;have hA:=ha cpos pins s1 σ H1 _ I1 q1;rw[hs] at hA ⊢;refine Calls.callWith_builtin (by show (false || (backTo cpos (starEach es X.env)).any (·.1))=false;rw[hplain] <;> rfl) (Calls.evalArgs_plain ?_);exact thn hA λus s2 ⟨vs,H2,I2,r2,q2⟩=>hm pins s2 σ H2 x vs v us Q I2 r1 r2 q2
end
def MtM (X:Cx)(id:String)(r:V->List V->Hp->VK->Prop):Prop:=
 ∀(pins:List (Addr × Obj)) (s:Shared) (σ:St) (H:Hp) (x:V) (xs:List V) (v:Value) (us:List Value) (Q:VK),Inv X pins σ H s->RelV x v->Vals xs us->r x xs H Q->
  wpAny (model X.prog X.w) X.A (call (.builtin id) (v::us)) (EP X pins σ Q) X.xe s
def Vals.one:∀{x:V}{us:List Value},Vals [x] us->∃u,us=[u]/\RelV x u
 | _,_,.cons r .nil=>⟨_,rfl,r⟩
def Vals.zero:∀{us:List Value},Vals [] us->us=[]
 | _,.nil=>rfl
theorem Vals.dropLast {xs:List V}{us:List Value}(h:Vals xs us):Vals xs.dropLast us.dropLast:=by
 induction h with
 | nil=>exact .nil
 | cons r t ih=>
  cases t with
  | nil=>exact .nil
  | cons q t'=>exact .cons r ih
theorem Vals.reverse {xs:List V}{us:List Value}(h:Vals xs us):Vals xs.reverse us.reverse:=by
 induction h with
 | nil=>exact .nil
 | cons r t ih=>rw[uC,uC];exact Vals.append ih (.cons r .nil)
def z9f {α:Type}(l:List α):l.eraseIdx (l.length - 1)=l.dropLast:=by
 induction l with
 | nil=>rfl
 | cons a r ih=>
  cases r with
  | nil=>rfl
  | cons b r=>
   have e:(a::b::r).length - 1=((b::r).length - 1)+1:=by
    have h1:(a::b::r).length=r.length+2:=rfl;have h2:(b::r).length=r.length+1:=rfl;lia
   rw[e,List.eraseIdx_cons_succ,ih]
   all_goals rfl
section
variable {X:Cx}{pins:List (Addr × Obj)}{σ:St}{H:Hp}{s:Shared}{l b:Addr}{xs ys zs:List V}
def Inv.lset {its its':List Value}{n:Nat}{f:Array Value->Array Value}{t':Nat}(I:Inv X pins σ H s)(hH:H l=some (.lst xs))
  (e:s.heap.get? l=some { cls :=.type "list",data :=.seq its.toArray n }) (hf:f its.toArray=its'.toArray) (hv:Vals ys its') (hz:ys.length<=sizeLine):
  Inv X pins σ (upd H l (.lst ys)) { s with heap:=s.heap.update l (Obj.mapSeq f),toks:=t' }:=by
 have q:=PySem.IsL.update e f;rw[hf] at q;refine I.write (x:=l) (e:=l) (by rw[hH];exact trivial) (.inl rfl) (λb' u hb hu=>(v4 s.heap (Obj.mapSeq f) (vU hb)).trans hu) ⟨_,q⟩ ?_;exact⟨hz,its',_,hv,q⟩
def Inv.lnew (I:Inv X pins σ H s)(hv:Vals ys its)(hz:ys.length<=sizeLine):
  Inv X pins σ (upd H s.heap.objs.size (.lst ys)) { s with heap:=s.heap.push { cls :=.type "list",data :=.seq its.toArray },toks:=t' }:=
 I.laid (λ_ _ q=>wo _ q) (wx _) ⟨hz,its,0,hv,wA _ rfl⟩
theorem Inv.fresh (I:Inv X pins σ H s):H s.heap.objs.size=none:=I.hok.fresh (wx _)
def Inv.lstM (I:Inv X pins σ H s)(hH:H l=some (.lst xs)):xs.length<=sizeLine/\∃(its:List Value) (n:Nat),Vals xs its/\xs.length=its.length/\s.heap.get? l=some { cls :=.type "list",data :=.seq its.toArray n }:=by
 obtain⟨z,its,n,r,e⟩:=I.hok l _ hH;exact⟨z,its,n,r,r.length,e⟩
end
section
variable {X:Cx}
def za2:V->List V->Hp->VK->Prop:=λx vs H Q=>∃l xs y,x = .ref l/\vs=[y]/\H l=some (.lst xs)/\xs.length<sizeLine/\Q .non (upd H l (.lst (xs++[y])))
def zaD:MtM X "list.append" za2:=by
 intro pins s σ H x vs v us Q I rx rv h;obtain⟨l,xs,y,rfl,rfl,hH,hz,q⟩:=h
 cases rx
 obtain⟨u,rfl,ru⟩:=rv.one;obtain⟨z,its,n,r,hl,e⟩:=I.lstM hH;refine call_meets F.slot_list_append ⟨_,e,rfl⟩ F.entry_list_append (F.args_list_append_2 _ _) (PySem.list_append l its.toArray n u (by rw[wD];lia)) ⟨e,?_⟩;refine⟨.non,_,I.lset (its':=its++[u]) hH e (by simp) (r.append (.cons ru .nil)) ?_,rfl,q⟩;rw[wL,uH];lia
def rPop:V->List V->Hp->VK->Prop:=λx vs H Q=>∃l xs y,x = .ref l/\vs=[]/\H l=some (.lst xs)/\xs[xs.length - 1]? = some y/\Q y (upd H l (.lst xs.dropLast))
def zhL:MtM X "list.pop" rPop:=by
 intro pins s σ H x vs v us Q I rx rv h;obtain⟨l,xs,y,rfl,rfl,hH,hy,q⟩:=h
 cases rx
 have hus:=rv.zero;subst hus;obtain⟨z,its,n,r,hl,e⟩:=I.lstM hH;obtain⟨u,hu,ru⟩:=r.get hy;have hy':its.toArray[its.toArray.size - 1]? = some u:=by
  show its.toArray[its.length - 1]? = some u;rw[<- uI, <- hl];exact hu
 refine call_meets F.slot_list_pop ⟨_,e,rfl⟩ F.entry_list_pop (F.args_list_pop_1 _) (MeetsSeq.list_pop_last l its.toArray n u hy' (by rw[wD];lia)) ⟨e,?_⟩;refine⟨y,_,I.lset (its':=its.dropLast) hH e ?_ r.dropLast ?_,ru,q⟩
 .show its.toArray.eraseIdxIfInBounds (its.toArray.size - 1)=its.dropLast.toArray;rw[wD,List.eraseIdxIfInBounds_toArray,z9f]
 .rw[List.length_dropLast];lia
end
end L2
namespace Att
open PySem PySem.W PySem.Calls PyProof.Rows
def z4w {P:Params}:∀(ns:List Int) (vs:List Value),WellAll P h vs (ns.map WData.int)->IntsAre vs ns:=by
 intro ns
 induction ns with
 | nil=>
  intro vs w;rw[Wk] at w
  cases w
  exact .nil
 | cons n ns ih=>
  intro vs w;rw[ve] at w
  cases w with
  | cons a b=>
   cases a
   exact .cons _ _ (ih _ b)
def z9J {l:OpenLaw}{n:Nat}(hn:l.most=some n){P:Params}{h:Heap}
  (hpre:l.row.toRowW.claim.pre args=true) (hwl:WellAll P h vals args):
  ∃a vs ns,vals=[Value.ref a]/\args=[WData.list (ns.map WData.int)]/\h.get? a=some { cls :=.type "list",data :=.seq vs.toArray }/\IntsAre vs ns/\ns.length<=n:=by
 have hsh:WShape.hasAll [] args [.list .int]=true:=(pre_splitW hpre).1;have hc:l.pre.holds [] { args:=args }=true:=(pre_splitW hpre).2;obtain⟨d,r,rfl,h1,h2⟩:=hasAllW_cons hsh;obtain rfl:=hasAllW_nil h2;obtain⟨xs,rfl,h3⟩:=hasW_list h1;obtain⟨ns,rfl⟩:=items_int h3;have hlen:ns.length<=n:=by
  unfold OpenLaw.pre at hc;have h4:(WTm.not (.lt (.lit (.int (n:Int))) (.len (.arg 0)))).holds [] { args:=[.list (ns.map .int)] }=true:=by
   have h4:=(holds_andW hc).1;rw[hn] at h4;exact h4
  have h5:=condW_of h4 (w_not (w_lt w_lit (w_len_list (w_arg rfl))));rw[wg] at h5;refine Nat.le_of_not_lt λq =>?_;have q':(n:Int)<((ns.length:Nat):Int):=by lia
  first
   | (rw[vC q'] at h5;exact absurd h5 (by decide))
   | (simp at h5;lia)
 cases hwl with
 | cons w1 w2=>
  cases w2
  cases w1 with
  | list ho hall=>exact⟨_,_,ns,rfl,rfl,ho,z4w ns _ hall,hlen⟩
def za9 (l:OpenLaw)(args:List WData):l.row.toRowW.claim.post args (.bool true) args=true:=
 postW_of (r:=l.row.toRowW) (X:=(true == true))
  (show WShape.has [] (.bool true) .bool=true by first | rfl | decide | simp[WShape.has,WShape.arms,WShape.armsAll])
  (show (WTm.eq .res (.lit (.bool true))).value [] { args:=args,res:=some (.bool true),after:=args }=some (.bool (true == true)) from w_eq_bool (w_res rfl) w_lit) rfl
def z7V {l:OpenLaw}{n:Nat}{XP:(Str->Option Value)->Heap->Prop}{YP:World->Heap->Prop}{d:DefRec}
  (hn:l.most=some n) (hdf:d.params.defaults=[])
  (call:∀(w:World) (s₀ s₁:Shared) (mg mb:WmP) (fa:Addr) (o:Obj) (pm cd doc:Value) (a:Addr) (vs:List Value) (ns:List Int),
   Ground q loose [] XP w s₀ mg mb s₁.heap->YP w s₁.heap->
   s₁.heap.get? fa=some o->o.data = .func (docDef d.name d.params d.body d.scope pm cd doc)->s₁.heap.CodeRec cd d.name->mg d.name=some (.ref fa)->
   s₁.heap.get? a=some { cls :=.type "list",data :=.seq vs.toArray }->IntsAre vs ns->ns.length<=n->s₁.gens = #[]->
   codeAny (model l.prog w) callerA (.call (.ref fa) ⟨[.ref a],[]⟩) (λr s'=>r = .ok (.ret (.bool true))/\OldK s₁.heap s'.heap/\s'.os=s₁.os/\AllBare s'.gens) s₁):
  WalkO q loose XP YP l.row.toRowW d [] (λf vs=>PySem.call f vs):=by
 intro w s₀ s₁ mg mb G Y fa o pm cd doc dV kV ho hd hcd hD hmg hg args vals as hpre hlay hrd hwl hlo;obtain rfl:dV = .none:=Dflts.none hD hdf;obtain rfl:kV = .none:=Dflts.noKw hD;obtain⟨a,vs,ns,rfl,rfl,hobj,hints,hlen⟩:=z9J hn hpre hwl;refine enter_call (codeAny_mono (call w s₀ s₁ mg mb fa o pm cd doc a vs ns G Y ho (fd_plain hd) hcd hmg hobj hints hlen hg) λr s' hq =>?_);obtain⟨rfl,h2,h3,h4⟩:=hq;exact⟨.inl ⟨.bool true,.bool true,[],rfl,λ_=>rfl,.bool true,za9 l _,λ_=>⟨List.Pairwise.nil,λ_ hm=>(nomatch hm)⟩⟩,h2,h3,h4⟩
end Att
namespace L2
open PySem PySem.Spec PyProof.Rows
theorem z6t:∀{vs:List Value}{ns:List Int},IntsAre vs ns->Vals (ns.map V.int) vs
 | _,_,.nil =>.nil
 | _,_,.cons n t h =>.cons ⟨t,rfl⟩ (z6t h)
theorem z8m {α β:Type}[BEq α][LawfulBEq α]{a:α}{b:β}:∀{l:List (α × β)},l.lookup a=some b->(a,b)∈l
 | [],h=>by cases h
 | (c,d)::r,h=>by
  rw[vP] at h
  cases e:a == c with
  | true=>rw[e] at h;cases h;rw[eq_of_beq e];exact .head _
  | false=>rw[e] at h;exact .tail _ (z8m h)
def z56 {K:W.Frag}{c P:Addr}(h:z7x K c=some P):K.lookup P=none/\∃o vs,K.lookup c=some o/\o.cls = .type "code"/\o.data = .fields vs/\vs[11]? = some (.ref P):=by
 unfold z7x at h
 split at h
 .rename_i vs _ hk
  split at h
  .rename_i P' h11
   split at h
   .rename_i hn
    cases h
    exact⟨by simpa using hn,_,vs,hk,rfl,rfl,h11⟩
   .cases h
  .cases h
 .cases h
def z6u {K:W.Frag}{P:Addr}{t:Nat × Nat × Str}(h:(tsOf K).lookup P=some t):∃c,z7x K c=some P:=by
 obtain⟨p,_,e⟩:=uK.mp (z8m h)
 split at e
 .split at e
  .rename_i c _ _
   cases q:z7x K c with
   | none=>rw[q] at e;cases e
   | some P'=>rw[q] at e;cases e;exact⟨c,q⟩
  .cases e
 .cases e
def zcJ {P:Program}{K:W.Frag}{mg mb:WmP}{k:Nat}{x:Str}{s₁:Shared}{vs:List Value}{ns:List Int}
  (KX:K.In s₁.heap) (hns:s₁.heap.Ns mainGlobals mg) (hb:s₁.heap.Ns builtinsNs mb) (hbb:∀x:Str,x≠"__name__"->mb x=bootBuiltins x) (hlim:s₁.heap.NoLimit) (hbm:BmAt mg s₁.heap) (hg:s₁.gens = #[])
  (ha:s₁.heap.get? a=some { cls :=.type "list",data :=.seq vs.toArray }) (hi:IntsAre vs ns) (hl:ns.length<=sizeLine) (hr:Room k callerA)
  (hT:∀P t,(tsOf K).lookup P=some t->s₁.heap.get? P=some { cls :=.none,data :=.fields #[] })
  (F:∀base:Heap,K.In base->base.Ns mainGlobals mg->FnOk P w K mg base CX k fa fd [x] sp) (hbind:∀(s:Shared) (u:Value),BindsTo s fd ⟨[u],[]⟩ [(x,u)])
  (hsp:∀H:Hp,SqL K H a (ns.map V.int)->sp [.ref a] H (λv _=>v = .bl true) λ_ _ _=>False)
  (hCX:∀H e s',CX [] H s₁ (λ_ _ _=>False) e s'->False):
  codeAny (model P w) callerA (.call (.ref fa) ⟨[.ref a],[]⟩) (λr s'=>r = .ok (.ret (.bool true))/\OldK s₁.heap s'.heap/\s'.os=s₁.os/\AllBare s'.gens) s₁:=by
 have rv:=z6t hi;have lenV:=hi.length;have aT:(tsOf K).lookup a=none:=by
  cases q:(tsOf K).lookup a with
  | none=>rfl
  | some t=>
   have e:=hT a t q;rw[ha] at e;cases e
 have core:∀u:Option HO,SqL K (λb=>if b=a then u else ((tsOf K).lookup b).map λt =>.tbl (encT t)) a (ns.map V.int)->((u=none)\/(K.lookup a=none/\u=some (.frz { cls :=.type "list",data :=.seq vs.toArray } (.lst (ns.map V.int)))))->
   codeAny (model P w) callerA (.call (.ref fa) ⟨[.ref a],[]⟩) (λr s'=>r = .ok (.ret (.bool true))/\OldK s₁.heap s'.heap/\s'.os=s₁.os/\AllBare s'.gens) s₁:=by
  intro u hS hu;generalize hH:(λb=>if b=a then u else ((tsOf K).lookup b).map λt=>HO.tbl (encT t):Hp)=H at hS;have at_:∀{b v},H b=some v->(b=a/\u=some v)\/(b≠a/\∃t,(tsOf K).lookup b=some t/\v = .tbl (encT t)):=λ{b v} e=>by
   rw[<- hH] at e
   by_cases hb:b=a
   .exact .inl ⟨hb,by rw[<- e];exact(if_pos hb).symm⟩
   .have e':=(if_neg hb).symm.trans e
    cases q:(tsOf K).lookup b with
    | none=>rw[q] at e';cases e'
    | some t=>rw[q] at e';cases e';exact .inr ⟨hb,t,rfl,rfl⟩
  have hok:HOk P w H s₁.heap:=λb v e=>by
   rcases at_ e with ⟨rfl,z⟩ | ⟨_,t,q,rfl⟩
   .rcases hu with hu | ⟨_,hu⟩
    .rw[hu] at z;cases z
    .rw[hu] at z
     cases z
     exact⟨ha,by rw[wg];exact hl,vs,_,rv,ha⟩
   .exact .inl (hT b t q)
  have noA:∀{b:Addr}{o:Obj}{es:Array DictEntry}{ep:Nat},s₁.heap.get? b=some o->o.data = .dict es ep->H b=none:=λ{b o es ep} e d=>by
   cases q:H b with
   | none=>rfl
   | some v=>
    rcases at_ q with ⟨rfl,_⟩ | ⟨_,t,q,_⟩
    .rw[ha] at e;cases e;have d':Data.seq vs.toArray _=Data.dict es ep:=d
     cases d'
    .have:=hT b t q;rw[e] at this;cases this;have d':Data.fields _=Data.dict es ep:=d
     cases d'
  have noP:∀{b:Addr}{o:Obj},s₁.heap.get? b=some o->o.data = .plain->H b=none:=λ{b o} e d=>by
   cases q:H b with
   | none=>rfl
   | some v=>
    rcases at_ q with ⟨rfl,_⟩ | ⟨_,t,q,_⟩
    .rw[ha] at e;cases e;have d':Data.seq vs.toArray _=Data.plain:=d
     cases d'
    .have:=hT b t q;rw[e] at this;cases this;have d':Data.fields _=Data.plain:=d
     cases d'
  have nsK:∀{b:Addr}{m:WmP},s₁.heap.Ns b m->(hidT s₁.heap H).Ns b m:=λ{b m} ⟨o,es,ep,e,d,r⟩=>⟨o,es,ep,z6a e (noA e d),d,r⟩
  have hKb:K.In (hidT s₁.heap H):=λb o e=>z6a (KX b o e) (by
   cases q:H b with
   | none=>rfl
   | some v=>
    rcases at_ q with ⟨rfl,z⟩ | ⟨_,t,q,_⟩
    .rcases hu with hu | ⟨hu,_⟩
     .rw[hu] at z;cases z
     .rw[hu] at e;cases e
    .obtain⟨c,hc⟩:=z6u q;rw[(z56 hc).1] at e;cases e)
  have hM:Mod K mg (hidT s₁.heap H):=⟨hKb,nsK hns,⟨mb,nsK hb,hbb⟩,let ⟨mc,h1,h2⟩:=hlim;⟨mc,nsK h1,h2⟩,let ⟨bm,ob,b1,b2,b3,b4,b5,b6⟩:=hbm;⟨bm,ob,b1,b2,z6a b3 (noP b3 b6),b4,b5,b6⟩⟩
  have e0:Env0 P w K mg (hidT s₁.heap H) callerA [] s₁ H:=⟨rfl,hM,λb o e=>zf2 e,Nat.le_of_eq (zaU _ _),trivial,λb hb=>absurd (show b∈([]:List Addr) from hb) (by simp),λPt t e=>⟨#[],by
   rw[<- hH];show (if Pt=a then u else ((tsOf K).lookup Pt).map λt=>HO.tbl (encT t))=_;rw[if_neg (λz=>by rw[z,aT] at e;cases e),e];simp⟩,hok,.of_eq hg⟩
  refine codeAny_mono ((F _ hKb (nsK hns)).run callerA [] s₁ H ⟨[.ref a],[]⟩ [.ref a] [.ref a] _ _ hr e0 (hbind s₁ (.ref a)) (.cons rfl .nil) (hsp H hS)) λr s' h =>?_
  cases r with
  | error e=>exact(hCX H e s' h).elim
  | ok fl=>
   cases fl with
   | next=>exact False.elim h
   | brk=>exact False.elim h
   | cont=>exact False.elim h
   | ret v0=>
    obtain⟨v,H',os,bare,un,hok',r',q⟩:=h;have q':v = .bl true:=q;subst q';obtain rfl:v0=Value.bool true:=r';refine⟨rfl,⟨λb o e =>?_,λb o e=>un.there b o e (by simp)⟩,os,bare⟩
    cases q:H b with
    | none=>exact .inl (un.keep b o e q (by intro z;exact absurd (show b∈([]:List Addr) from z) (by simp)) (by simp))
    | some v=>
     rcases at_ q with ⟨rfl,z⟩ | ⟨_,t,q2,rfl⟩
     .rcases hu with hu | ⟨_,hu⟩
      .rw[hu] at z;cases z
      .rw[hu] at z
       cases z
       obtain⟨e2,_⟩:=hok' _ _ (un.frzs _ _ _ q);rw[ha] at e
       cases e
       exact .inl e2
     .have e1:=hT b t q2;rw[e] at e1
      cases e1
      obtain⟨more,q3⟩:=un.tbls b _ q;obtain⟨c,hc⟩:=z6u q2;obtain⟨_,oc,vc,c1,c2,c3,c4⟩:=z56 hc
      rcases hok' b _ q3 with z | ⟨l,c,_,_,c',_,_,_,_,_,_,z,_⟩
      .exact .inl z
      .exact .inr (.inl ⟨⟨_,oc,vc,KX _ _ c1,c2,c3,c4⟩,rfl, #[], #[l,c,.ref c'],rfl,by rw[z];simp⟩)
 cases hk:K.lookup a with
 | some o=>
  have e:=KX a o hk;rw[ha] at e
  cases e
  exact core none (.inr ⟨_,vs.toArray,_,hk,rfl,rfl,rfl,by rw[wD,lenV];exact hl,by simpa using rv⟩) (.inl rfl)
 | none=>exact core _ (.inl (.inr ⟨_,if_pos rfl⟩)) (.inr ⟨hk,rfl⟩)
def ze1 {l:W.OpenLaw}{n k:Nat}{XP:(Str->Option Value)->Heap->Prop}{YP:World->Heap->Prop}{d:DefRec}{K:Params->W.Frag}{CX:World->CXT}{sp:World->Sp}{x:Str}
  (hn:l.most=some n) (hn2:n<=sizeLine) (hdf:d.params.defaults=[]) (hr:Room k callerA)
  (hY:∀(w:World) (h:Heap),YP w h->(K w.params).In h) (hT:∀(w:World) (h:Heap),YP w h->∀P t,(tsOf (K w.params)).lookup P=some t->h.get? P=some { cls :=.none,data :=.fields #[] })
  (F:∀(w:World) (mg:WmP) (fa:Addr) (h:Heap),(K w.params).In h->h.Ns mainGlobals mg->mg d.name=some (.ref fa)->
   ∃fd:FuncData,(∀(s:Shared) (u:Value),BindsTo s fd ⟨[u],[]⟩ [(x,u)])/\
    ∀base:Heap,(K w.params).In base->base.Ns mainGlobals mg->FnOk l.prog w (K w.params) mg base (CX w) k fa fd [x] (sp w))
  (hsp:∀(w:World) (H:Hp) (a:Addr) (ns:List Int),ns.length<=n->SqL (K w.params) H a (ns.map V.int)->sp w [.ref a] H (λv _=>v = .bl true) λ_ _ _=>False)
  (hCX:∀(w:World) (H:Hp) (s:Shared) (e:Value) (s':Shared),CX w [] H s (λ_ _ _=>False) e s'->False):
  W.WalkO q loose XP YP l.row.toRowW d [] (λf vs=>PySem.call f vs):=by
 refine Att.z7V hn hdf λw s₀ s₁ mg mb fa o pm cd doc a vs ns G Y ho hd hcd hmg hobj hints hlen hg =>?_;have KX:=hY w _ Y;obtain⟨fd,hb,hF⟩:=F w mg fa _ KX G.T.g hmg;exact zcJ KX G.T.g G.T.b G.T.builtins G.T.nolimit G.T.bmain hg hobj hints (wO hlen hn2) hr (hT w _ Y) hF hb (λH hS=>hsp w H a ns hlen hS) λH e s'=>hCX w H s₁ e s'
def z1D (s:Stmt):Arguments:=match s with
 | .FunctionDef _ a _ _ _ _ _ _ _ _=>a
 | _=>{ posonlyargs:=[],args:=[],vararg:=none,kwonlyargs:=[],kw_defaults:=[],kwarg:=none,defaults:=[] }
def z0C (s:Stmt):List Stmt:=match s with
 | .FunctionDef _ _ b _ _ _ _ _ _ _=>b
 | _=>[]
def z00 (s:Stmt):Scope:=match s with
 | .FunctionDef _ _ _ _ _ _ sc _ _ _=>sc
 | _=>{ kind :=.function,names:=[],isGenerator:=false,isCoroutine:=false }
abbrev E0:XK:=λ_ _ _=>False
structure Fun (K:W.Frag)(x qual:Str)(st:Stmt)(f:Addr)(fd:FuncData):Prop where
 ex:∃(oc:Value) (od:Option Addr) (kV doc pm:Value) (an:Option Addr) (cdv ct:Value) (osl:Array (Option Value)),
  fd=W.fnOf x qual (z1D st) (z0C st) (z00 st) .none kV doc pm an cdv ct/\K.lookup f=some ⟨oc,od,.func fd,osl⟩/\W.codeIn K cdv qual=true
 kp:W.keepIn K (.ref f)=true
section
variable {P:Program}{w:World}{K:W.Frag}{mg:WmP}{base:Heap}
def Fun.binds {st:Stmt}{ps:List Str}(F:Fun K x qual st f fd)
  (h:∀(kV doc pm:Value) (an:Option Addr) (cdv ct:Value) (us:List Value),us.length=ps.length->bindArgs (W.fnOf x qual (z1D st) (z0C st) (z00 st) .none kV doc pm an cdv ct) ⟨us,[]⟩=pure (ps.zip us)):z53 K fd ps []:=by
 obtain⟨oc,od,kV,doc,pm,an,cdv,ct,osl,rfl,lk,hcd⟩:=F.ex;exact .all (h kV doc pm an cdv ct)
def zdQ {st:Stmt}{kV doc pm cdv ct:Value}(l:K.lookup f=some ⟨oc,od,.func (W.fnOf x qual (z1D st) (z0C st) (z00 st) .none kV doc pm an cdv ct),osl⟩)
  (c:W.codeIn K cdv qual=true) (k:W.keepIn K (.ref f)=true):Fun K x qual st f (W.fnOf x qual (z1D st) (z0C st) (z00 st) .none kV doc pm an cdv ct):=⟨⟨oc,od,kV,doc,pm,an,cdv,ct,osl,rfl,l,c⟩,k⟩
end
def iteF {A B:Prop}(h:B):if false=true then A else B:=by
 rw[if_neg wU];exact h
def iteT {A B:Prop}(h:A):if true=true then A else B:=by
 rw[if_pos rfl];exact h
def Same (H H':Hp):Prop:=∀b o,H b=some o->H' b=some o
def Same.seq {K:W.Frag}{H H':Hp}{a:Addr}{xs:List V}(e:Same H H')(h:SqL K H a xs):SqL K H' a xs:=by
 rcases h with (h | ⟨o,h⟩) | h
 .exact .inl (.inl (e _ _ h))
 .exact .inl (.inr ⟨o,e _ _ h⟩)
 .exact .inr h
end L2
set_option maxHeartbeats 4000000
namespace L2
open PySem PySem.Spec PyProof.Rows
open Builtin.Int (intBits)
abbrev Bt (n:Nat)(i:Int):Prop:=intBits i<=n
def Bt.le {m n:Nat}{i:Int}(h:Bt m i)(q:m<=n:=by decide):Bt n i:=wO h q
def z08 {n:Nat}{i:Int}(h:i.natAbs<2 ^ n):Bt n i:=PySem.intBits_le_iff.mpr h
def Bt.abs (h:Bt n i):i.natAbs<2 ^ n:=PySem.intBits_le_iff.mp h
def Bt.of_abs (h:Bt n j)(q:i.natAbs<=j.natAbs):Bt n i:=PySem.intBits_le_of_natAbs q h
def Bt.add (h:Bt m i)(q:Bt n j):Bt (max m n+1) (i+j):=PySem.intBits_add_le h q
def Bt.sub {m n:Nat}{i j:Int}(h:Bt m i)(q:Bt n j):Bt (max m n+1) (i - j):=PySem.intBits_sub_le h q
def Bt.mul {m n:Nat}{i j:Int}(h:Bt m i)(q:Bt n j):Bt (m+n) (i*j):=PySem.intBits_mul_le h q
def Bt.neg {m:Nat}{i:Int}(h:Bt m i):Bt m (-i):=PySem.intBits_neg_le h
def zfB (i j:Int):Prop:=Bt 60000000 i/\Bt 60000000 j
def zir (_ j:Int):Prop:=j≠0/\Bt 9000 j
def zaJ (h0:j≠0)(h:Bt 9000 j):j.natAbs.log2<9000:=by
 have e:intBits j=j.natAbs.log2+1:=by
  unfold Builtin.Int.intBits;rw[if_neg (by simpa using h0)]
 have h':intBits j<=9000:=h;omega
section
variable {X:Cx}{a b c:Expr}{ta tb tc:TE}{pos:Pos}
def zeX:OpR X (binaryOp .Mult) (rI zfB λi j =>.int (i*j)):=opI λ_ _ _ _ _ _ _ hc q=>mul_int q (IntMulOk.of_le hc.1 hc.2 (by decide))
def zcv:OpR X (binaryOp .FloorDiv) (rI zir λi j =>.int (i.fdiv j)):=opI λ_ _ _ _ _ _ _ hc q=>floordiv_int hc.1 q (.inl (PyProof.noPylong_of_log2 (zaJ hc.1 hc.2)))
end
mutual
def Rp (K:W.Frag)(H:Hp):PyData->V->Prop
 | .none,v=>v = .non
 | .bool b,v=>v = .bl b
 | .int i,v=>v = .int i
 | .str x,v=>v = .str x
 | .list ds,v=>∃a xs,v = .ref a/\SqL K H a xs/\RpL K H ds xs
 | .tuple ds,v=>∃a xs,v = .ref a/\SqT K H a xs/\RpL K H ds xs
 | .dict _,_=>False
def RpL (K:W.Frag)(H:Hp):List PyData->List V->Prop
 | [],xs=>xs=[]
 | d::ds,xs=>∃x r,xs=x::r/\Rp K H d x/\RpL K H ds r
end
def Same.seqT {K:W.Frag}{H H':Hp}{a:Addr}{xs:List V}(e:Same H H')(h:SqT K H a xs):SqT K H' a xs:=by
 rcases h with (h | ⟨o,h⟩) | h
 .exact .inl (.inl (e _ _ h))
 .exact .inl (.inr ⟨o,e _ _ h⟩)
 .exact .inr h
mutual
theorem Rp.same {K:W.Frag}{H H':Hp}(e:Same H H'):∀(d:PyData) {v:V},Rp K H d v->Rp K H' d v
 | .none,_,h=>by simpa[Rp] using h
 | .bool _,_,h=>by simpa[Rp] using h
 | .int _,_,h=>by simpa[Rp] using h
 | .str _,_,h=>by simpa[Rp] using h
 | .list ds,_,h=>by
  rw[Rp] at h ⊢;obtain⟨a,xs,h1,h2,h3⟩:=h;exact⟨a,xs,h1,e.seq h2,RpL.same e ds h3⟩
 | .tuple ds,_,h=>by
  rw[Rp] at h ⊢;obtain⟨a,xs,h1,h2,h3⟩:=h;exact⟨a,xs,h1,e.seqT h2,RpL.same e ds h3⟩
 | .dict _,_,h=>by simp[Rp] at h
theorem RpL.same {K:W.Frag}{H H':Hp}(e:Same H H'):∀(ds:List PyData) {xs:List V},RpL K H ds xs->RpL K H' ds xs
 | [],_,h=>by simpa[RpL] using h
 | d::ds,_,h=>by
  rw[RpL] at h ⊢;obtain⟨x,r,h1,h2,h3⟩:=h;exact⟨x,r,h1,Rp.same e d h2,RpL.same e ds h3⟩
end
section
variable {X:Cx}{pins:List (Addr × Obj)}{σ:St}{H:Hp}{s:Shared}
mutual
theorem Rp.reads (I:Inv X pins σ H s):∀(d:PyData) {v:V}{u:Value},Rp X.K H d v->RelV v u->∃as,Reads s.heap u d as
 | .none,v,u,h,r=>by
  rw[Rp] at h;subst h
  cases (show u=Value.none from r);exact⟨_,.none⟩
 | .bool b,v,u,h,r=>by
  rw[Rp] at h;subst h
  cases (show u=Value.bool b from r);exact⟨_,.bool b⟩
 | .int i,v,u,h,r=>by
  rw[Rp] at h;subst h;obtain⟨t,rfl⟩:=(show ∃t,u=Value.int i t from r);exact⟨_,.int i t⟩
 | .str x,v,u,h,r=>by
  rw[Rp] at h;subst h;obtain⟨t,rfl⟩:=(show ∃t,u=Value.str x t from r);exact⟨_,.str x t⟩
 | .list ds,v,u,h,r=>by
  rw[Rp] at h;obtain⟨a,xs,rfl,h2,h3⟩:=h
  cases (show u=Value.ref a from r)
  obtain⟨its,hv,⟨o,n,e,hc,_,hd⟩,_⟩:=I.list h2;obtain⟨as,q⟩:=RpL.reads I ds h3 hv;exact⟨_,.list e hc hd (by simpa using q)⟩
 | .tuple ds,v,u,h,r=>by
  rw[Rp] at h;obtain⟨a,xs,rfl,h2,h3⟩:=h
  cases (show u=Value.ref a from r)
  obtain⟨its,hv,⟨o,e,hc,n,hd⟩,_⟩:=I.tuple h2;obtain⟨as,q⟩:=RpL.reads I ds h3 hv;exact⟨_,.tuple e hc hd (by simpa using q)⟩
 | .dict _,v,u,h,r=>by simp[Rp] at h
theorem RpL.reads (I:Inv X pins σ H s):∀(ds:List PyData) {xs:List V}{us:List Value},RpL X.K H ds xs->Vals xs us->∃as,ReadsAll s.heap us ds as
 | [],xs,us,h,r=>by
  rw[RpL] at h;subst h
  cases r;exact⟨_,.nil⟩
 | d::ds,xs,us,h,r=>by
  rw[RpL] at h;obtain⟨x,t,rfl,h2,h3⟩:=h
  cases r with
  | cons r1 r2=>
   obtain⟨as,q⟩:=Rp.reads I d h2 r1;obtain⟨bs,q'⟩:=RpL.reads I ds h3 r2;exact⟨_,.cons q q'⟩
end
end
section
variable {X:Cx}
def rEqD (K:W.Frag)(neg:Bool):R2:=λx y H Q=>∃d e,Rp K H d x/\Rp K H e y/\PySem.SeqAt.shaped d=true/\PySem.SeqAt.shaped e=true/\Q (.bl (if neg then !PyData.eqv d e else PyData.eqv d e)) H
def zhj (hu:X.A.units+64<cLine):OpR X (compareOp .Eq) (rEqD X.K false):=by
 z_go;obtain⟨d,e,h1,h2,h3,h4,q⟩:=h;obtain⟨as,r1⟩:=Rp.reads I d h1 rx;obtain⟨bs,r2⟩:=Rp.reads I e h2 ry;exact eq_dataH r1 r2 h3 h4 hu ⟨.bl (PyData.eqv d e),H,I,rfl,q⟩
def zhf (hu:X.A.units+64<cLine):OpR X (compareOp .NotEq) (rEqD X.K true):=by
 z_go;obtain⟨d,e,h1,h2,h3,h4,q⟩:=h;obtain⟨as,r1⟩:=Rp.reads I d h1 rx;obtain⟨bs,r2⟩:=Rp.reads I e h2 ry;exact ne_dataH r1 r2 h3 h4 hu ⟨.bl (!PyData.eqv d e),H,I,rfl,q⟩
end
structure Cal (P:Program)(w:World)(K:W.Frag)(mg:WmP)(base:Heap)(CX:CXT)(k:Nat)(x:Str)(ps:List Str)(sp:Sp):Prop where
 ex:∃f fd,FnOk P w K mg base CX k f fd ps sp/\mg x=some (.ref f)/\W.keepIn K (.ref f)=true/\z53 K fd ps []
section
variable {X:Cx}{CX:CXT}{k:Nat}{ps:List Str}{sp:Sp}{E:XK}{x:Str}{p pos:Pos}{e:Expr}{es:List Expr}{t:TA}
def zj4 (C:Cal X.prog X.w X.K X.mg X.base CX k x ps sp)(hr:Room k X.A)(hx:z3E CX X E)(ha:PA X (e::es) t)(hg:Gl X x:=by rfl)
  (hdb:(x == ("__debug__":Str))=false:=by decide) (he:starEach (e::es) X.env=(false,eval e X.env)::starEach es X.env:=by rfl) (hpl:(backTo pos (starEach es X.env)).any (·.1)=false:=by rfl):
  PE X (.Call (.Name x p) (e::es) [] pos) (zeb sp [] E t):=by
 obtain⟨f,fd,F,hm,hk,hb⟩:=C.ex;exact zeR F hr hg hm hk hb .nil hx ha hdb he hpl
end
end L2
namespace L2
open PySem PySem.Spec PyProof.Rows
section
variable {P:Program}{w:World}{H:Hp}{h h':Heap}{a:Addr}{o:HO}
def HOk.track (x:HOk P w H h)(hn:H a=none)(new:z1c P w (upd H a o) h a o):HOk P w (upd H a o) h:=λb u e=>by
 by_cases hb:b=a
 .subst hb;rw[z0b] at e;cases e;exact new
 .rw[z05 hb] at e;exact(x b u e).stay (λc v _ q=>q) (λc q=>by rw[z05 (z0g q hn)];exact q) λc xs q=>by rw[z05 (z0g q hn)];exact q
def HOk.other (x:HOk P w H h)(hn:H a=none)(k:∀b u,b≠a->h.get? b=some u->h'.get? b=some u):HOk P w H h':=λb u e=>by
 have nit:∀c v,H c=some v->c≠a:=λc v q z=>by rw[z,hn] at q;cases q
 refine(x b u e).stay (λc v hc q=>k c v ?_ q) (λ_ q=>q) λ_ _ q=>q
 rcases hc with z | z
 .rw[z];exact nit b u e
 .exact nit c _ z
end
end L2
namespace Mth
def z6g (h:0<b):(0:Int)<(Int.gcd t b:Int)/\t=(Int.gcd t b:Int)*(t / (Int.gcd t b:Int))/\b=(Int.gcd t b:Int)*(b / (Int.gcd t b:Int))/\1<=b / (Int.gcd t b:Int)/\Int.gcd (t / (Int.gcd t b:Int)) (b / (Int.gcd t b:Int))=1:=by
 have p:=(Int.gcd_pos_iff (a:=t) (b:=b)).mpr (.inr (by lia));have e1:t=(Int.gcd t b:Int)*(t / (Int.gcd t b:Int)):=(jk (uz t b)).symm;have e2:b=(Int.gcd t b:Int)*(b / (Int.gcd t b:Int)):=(jk (uD t b)).symm;refine⟨by lia,e1,e2,?_,?_⟩
 .rcases(show b / (Int.gcd t b:Int)<1\/1<=b / (Int.gcd t b:Int) by lia) with q | q
  .have:(Int.gcd t b:Int)*(b / (Int.gcd t b:Int))<=0:=uX (by lia) (by lia);lia
  .exact q
 .have q:=Int.gcd_mul_left (Int.gcd t b:Int) (t / (Int.gcd t b:Int)) (b / (Int.gcd t b:Int));rw[<- e1, <- e2,Wf] at q;have q':Int.gcd t b*1=Int.gcd t b*Int.gcd (t / (Int.gcd t b:Int)) (b / (Int.gcd t b:Int)):=by rw[Nat.mul_one];exact q
  exact(Nat.eq_of_mul_eq_mul_left p q').symm
def z2l {a b:Int}(hb:0<b):(a / b).natAbs<=a.natAbs:=by
 rw[<- Int.fdiv_eq_ediv_of_nonneg a (vf hb)];exact PySem.natAbs_fdiv_le a b
end Mth
namespace L2
open PySem PySem.Spec PyProof.Rows
def z6l (h1 : -(2 ^ 64)<i)(h2:i<2 ^ 64):Bt 9000 i:=wO (PySem.intBits_le_64 h1 h2) (by decide)
def bt_k (h:i.natAbs<2 ^ 640):Bt 640 i:=z08 h
def bt_n (h0:0<=i)(h:i<2 ^ 640):Bt 640 i:=z08 (by lia)
def z0i {H:Hp}{p:Addr}(h:H p=none)(o:HO):Same H (upd H p o):=λb u q=>by rw[z05 (z0g q h)];exact q
def PE.imp {X:Cx}{e:Expr}{t t':TE}(h:PE X e t)(i:∀σ H Q,t' σ H Q->t σ H Q):PE X e t':=λpins s σ H Q I q=>h pins s σ H Q I (i σ H Q q)
def OpR.imp {X:Cx}{f:Value->Value->Sem Value}{r r':R2}(h:OpR X f r)(i:∀x y H Q,r' x y H Q->r x y H Q):OpR X f r':=λpins s σ H x y v u Q I rx ry q=>h pins s σ H x y v u Q I rx ry (i x y H Q q)
section
variable {X:Cx}{es:List Expr}{t:TA}{pos:Pos}
def SlR.imp {r r':V->Option Int->Option Int->Hp->VK->Prop}(h:SlR X r)(i:∀x lo hi H Q,r' x lo hi H Q->r x lo hi H Q):SlR X r':=by
 unfold SlR at h ⊢
 intros
 apply h
 all_goals first | assumption | (apply i;assumption)
end
structure QE (X:Cx)(e:Expr)(t:TE):Prop where
 p:PE X e t
structure QT (X:Cx)(e:Expr)(t:TT):Prop where
 p:PT X e t
structure QW (X:Cx)(e:Expr)(t:TT):Prop where
 p:PW X e t
structure QA (X:Cx)(es:List Expr)(t:TA):Prop where
 p:PA X es t
structure QS (X:Cx)(st:Stmt)(t:TS):Prop where
 p:PS X st t
structure QSs (X:Cx)(st:List Stmt)(t:TS):Prop where
 p:PSs X st t
structure QG (X:Cx)(e:Expr)(t:TG):Prop where
 p:PG X e t
structure QGs (X:Cx)(es:List Expr)(t:TGs):Prop where
 p:PGs X es t
structure QI (X:Cx)(tg e:Expr)(t:TI):Prop where
 p:PI X tg e t
structure QO (X:Cx)(e:Option Expr)(t:TO):Prop where
 p:PO X e t
section
variable {X:Cx}{a b c e f o:Expr}{ta tb tc te:TE}{pos pos2 p2:Pos}{tA tB':TT}{rest:List Expr}{es:List Expr}{aa:TA}
def zgO {i j pos}:QE X (.Constant (.int i) j pos) (tC (.int i)):=⟨zh6⟩
def ziX {i j pos}:QE X (.Constant (.bool i) j pos) (tC (.bl i)):=⟨zj6⟩
def zgL {j pos}:QE X (.Constant .none j pos) (tC .non):=⟨zh3⟩
def qv (i:Nat)(hN:X.N[i]? = some x:=by rfl)(hv:Vis X.env.scope x:=by first | exact Or.inl rfl | exact Or.inr (Or.inl rfl) | exact Or.inr (Or.inr rfl))(hd:(x == ("__debug__":Str))=false:=by decide)
  (hcd:(x == ("__classdict__":Str))=false:=by decide):QE X (.Name x pos) (tVar i):=⟨zdB hN hv hd hcd⟩
def ziT {op:Operator}(ho:OpR X (binaryOp op) r)(ha:QE X a ta)(hb:QE X b tb):QE X (.BinOp a op b pos) (tOp r ta tb):=⟨zj2 ho ha.p hb.p⟩
def ziR {op:UnaryOp}(ho:UnR X (unaryOp op) r)(ha:QE X a ta):QE X (.UnaryOp op a pos) (tUn r ta):=⟨zj0 ho ha.p⟩
def zgK (ha:QE X a ta):QE X (.UnaryOp .Not a pos) (zfO ta):=⟨zh2 ha.p⟩
def zgJ {op}(h:QE X a t):QE X (.BoolOp op [a] pos) t:=⟨zh1 h.p⟩
def zgQ (ha:QE X a ta)(hb:QE X (.BoolOp .And (b::rest) pos) tb):QE X (.BoolOp .And (a::b::rest) pos) (zfS ta tb):=⟨zh8 ha.p hb.p⟩
def ziS (ha:QE X a ta)(hb:QE X (.BoolOp .Or (b::rest) pos) tb):QE X (.BoolOp .Or (a::b::rest) pos) (tOrV ta tb):=⟨zj1 ha.p hb.p⟩
def zeF {op:CmpOp}(ho:OpR X (compareOp op) r)(ha:QE X a ta)(hb:QE X b tb)(hm:behindInMarks op b=false):QE X (.Compare a [op] [b] pos) (tOp r ta tb):=⟨zeQ ho ha.p hb.p hm⟩
def zew {op:CmpOp}(ho:OpR X (compareOp op) r)(ha:QE X a ta)(hb:QE X b tb)(hm:behindInMarks op b=false):QT X (.Compare a [op] [b] pos) (zea (tOp r ta tb)):=⟨zeI ho ha.p hb.p hm⟩
def zgz (h:QE X e t)(he:∀whole,isTrue e X.env whole=(do let v <- whole;standAt e.pos;holding [v] (truthy v)):=by intro _;rfl):QT X e (tB t):=⟨zgT h.p he⟩
def zgA (ha:QT X a tA):QT X (.UnaryOp .Not a pos) (tNot tA):=⟨zgU ha.p⟩
def zet (ha:QT X a tA):QW X (.BoolOp .And [a] pos) tA:=⟨zeH ha.p⟩
def zgx (ha:QT X a tA):QW X (.BoolOp .Or [a] pos) tA:=⟨zgR ha.p⟩
def zgy (ha:QT X a tA)(hb:QW X (.BoolOp .And (b::rest) pos) tB'):QW X (.BoolOp .And (a::b::rest) pos) (tAnd tA tB'):=⟨zgS ha.p hb.p⟩
def ziP (ha:QT X a tA)(hb:QW X (.BoolOp .Or (b::rest) pos) tB'):QW X (.BoolOp .Or (a::b::rest) pos) (tOr tA tB'):=⟨ziY ha.p hb.p⟩
theorem QW.pt (h:QW X e t):QT X e t:=⟨h.p.pt⟩
def zeG {v:V}(hg:Gl X x)(hm:X.mg x=none)(hv:bootBuiltins x=some u)(r:RelV v u)(hn:x≠"__name__":=by decide)(hd:(x == ("__debug__":Str))=false:=by decide):QE X (.Name x pos) (tC v):=⟨zeS hg hm hv r hn hd⟩
def z8d:QA X [] tNil:=⟨zao⟩
def z4p (ha:QE X e te)(hr:QA X es aa)(hs:starEach (e::es) X.env=(false,eval e X.env)::starEach es X.env:=by rfl):QA X (e::es) (z6w te aa):=⟨z7E ha.p hr.p hs⟩
def ziV {k:Nat}{ps:List Str}(C:Cal X.prog X.w X.K X.mg X.base CX k x ps sp)(hr:Room k X.A)(hx:z3E CX X E)(ha:QA X (e::es) aa)(hg:Gl X x:=by rfl)
  (hdb:(x == ("__debug__":Str))=false:=by decide) (he:starEach (e::es) X.env=(false,eval e X.env)::starEach es X.env:=by rfl) (hpl:(backTo pos (starEach es X.env)).any (·.1)=false:=by rfl):QE X (.Call (.Name x pp) (e::es) [] pos) (zeb sp [] E aa):=⟨zj4 C hr hx ha.p hg hdb he hpl⟩
def z5I {x:Str}{pp:Pos}{id:String}{r:List V->Hp->VK->Prop}(hc:z1n X (.builtin id) r)(hg:Gl X x)(hm:X.mg x=none)(hv:bootBuiltins x=some (.builtin id))(ha:QA X (e::es) aa)(hn:x≠"__name__":=by decide)(hdb:(x == ("__debug__":Str))=false:=by decide)
  (he:starEach (e::es) X.env=(false,eval e X.env)::starEach es X.env:=by rfl) (hpl:(backTo pos (starEach es X.env)).any (·.1)=false:=by rfl):QE X (.Call (.Name x pp) (e::es) [] pos) (tCB r aa):=⟨zcr hc hg hm hv ha.p hn hdb he hpl⟩
def z2O {x:Str}{pp:Pos}{id:String}{r:List V->Hp->VK->Prop}(hc:z1n X (.type id) r)(hg:Gl X x)(hm:X.mg x=none)(hv:bootBuiltins x=some (.type id))(ha:QA X (e::es) aa)(hn:x≠"__name__":=by decide)(hdb:(x == ("__debug__":Str))=false:=by decide)
  (he:starEach (e::es) X.env=(false,eval e X.env)::starEach es X.env:=by rfl) (hpl:(backTo pos (starEach es X.env)).any (·.1)=false:=by rfl):QE X (.Call (.Name x pp) (e::es) [] pos) (tCB r aa):=⟨zam hc hg hm hv ha.p hn hdb he hpl⟩
def ziU (hr:IxR X r)(ha:QE X a ta)(hb:QE X b tb)(hs:z7X b):QE X (.Subscript a b pos) (tOp r ta tb):=⟨zj3 hr ha.p hb.p hs⟩
def zeC:QO X none z9A:=⟨zeN⟩
def zeB (h:QE X e te):QO X (some e) (zfN te):=⟨zeM h.p⟩
def zch {lo hi:Option Expr}(hr:SlR X r)(he:QE X e te)(hl:QO X lo tl)(hu:QO X hi th):QE X (.Subscript e (.Slice lo hi none p2) pos) (tSl r te tl th):=⟨zcp hr he.p hl.p hu.p⟩
def zgP {T id:String}{name:Str}{apos cpos:Pos}{r:V->List V->Hp->VK->Prop}(pa:PlainAttrs T)(slot:Slot T name id)(hty:typeOf (.builtin id)=pure (.type "method_descriptor"))(hm:MtR X id r)(ho:QE X o te)
  (hbase:attributeBase o name X.env (eval o X.env)=eval o X.env:=by rfl) (hline:(apos.endLine == cpos.line)=true:=by rfl):QE X (.Call (.Attribute o name apos) [] [] cpos) (tBM0 X.K T r te):=⟨zh7 pa slot hty hm ho.p hbase hline⟩
def ziW {T id:String}{name:Str}(pa:PlainAttrs T)(slot:Slot T name id)(hty:typeOf (.builtin id)=pure (.type "method_descriptor"))(hm:MtR X id r)(ho:QE X o te)(ha:QA X (e::es) aa)
  (hbase:attributeBase o name X.env (eval o X.env)=eval o X.env:=by rfl)
  (hfew:((backTo cpos (starEach (e::es) X.env)).all (λx => !x.1) && (backToKw cpos (keywordEach [] X.env)).all (λx=>x.1.isSome)
   && decide ((e::es).length+([]:List Keyword).length+(if ([]:List Keyword).isEmpty then 0 else 1)<30))=true:=by rfl)
  (hline:(apos.endLine == cpos.line)=true:=by rfl) (hs:starEach (e::es) X.env=(false,eval e X.env)::starEach es X.env:=by rfl) (hplain:(backTo cpos (starEach es X.env)).any (·.1)=false:=by rfl):
  QE X (.Call (.Attribute o name apos) (e::es) [] cpos) (tBM X.K T r te aa):=⟨zj5 pa slot hty hm ho.p ha.p hbase hfew hline hs hplain⟩
end
section
variable {X:Cx}{st:Stmt}{rest body a b:List Stmt}{t u tb:TS}{e tg c iter:Expr}{te:TE}{tc:TT}{pos:Pos}{g:TG}{wi:TI}{aa:TA}
def zey:QSs X [] zfP:=⟨zeK⟩
def zca (h1:QS X st t)(h2:QSs X rest u):QSs X (st::rest) (tSeq t u):=⟨zci h1.p h2.p⟩
def zex (h1:QS X st t):QSs X [st] t:=⟨zeJ h1.p⟩
def zcc:QS X st zdn:=⟨zck⟩
def zgC (he:QE X e te):QS X (.Return (some e) pos) (tRet te):=⟨zgW he.p⟩
def za5 (he:QE X e te)(hs:swapsWith e none pos.line X.env=pure false:=by rfl):QS X (.Expr e pos) (zfQ te):=⟨zeL he.p hs⟩
def ziQ (hc:QT X c tc)(ha:QSs X a t)(hb:QSs X b u):QS X (.If c a b pos) (tIfS tc t u):=⟨ziZ hc.p ha.p hb.p⟩
def zcb (hp:PassesOwn (model X.prog X.w) X.A X.env X.xe)(hc:QT X c tc)(hb:QSs X body tb):QS X (.While c body [] pos) (zdm tc tb):=⟨zcj hp hc.p hb.p⟩
def zdx (hp:PassesOwn (model X.prog X.w) X.A X.env X.xe)(hc:X.calm=true)(hi:QI X tg iter wi)(hg:QG X tg g)(hb:QSs X body tb)
  (hs:∀x,foldedSetIterable iter X.env x=pure x:=by intro _;rfl):QS X (.For tg iter body [] pos) (tFor wi g tb):=⟨zgX hp hc hi.p hg.p hb.p hs⟩
def zeD:QGs X [] gNil:=⟨zeO⟩
def zce {es:List Expr}{t:TG}{u:TGs}(h1:QG X e t)(h2:QGs X es u)
  (hs:(assignEach (e::es) X.env).map (·.2)=assign e X.env::(assignEach es X.env).map (·.2):=by rfl):QGs X (e::es) (zcY t u):=⟨zcm h1.p h2.p hs⟩
def zgE {es:List Expr}{k:Nat}{t:TGs}{n:Nat}(hc:X.calm=true)(h:QGs X es t)
  (hn:(assignEach es X.env).length=n:=by rfl) (hst:(assignEach es X.env).findIdx? (·.1)=none:=by rfl):QG X (.Tuple es k pos) (gTup X.K n t):=⟨zgZ hc h.p hn hst⟩
def za7 {a:Expr}{p:Pos}(hg:Gl X "range")(hm:X.mg "range"=none)(ha:QA X [a] aa)(hs:starEach [a] X.env=[(false,eval a X.env)]:=by rfl):QI X tg (.Call (.Name "range" p) [a] [] pos) (zi2 aa):=⟨zaj hg hm ha.p hs⟩
def za6 {a b:Expr}{p:Pos}(hg:Gl X "range")(hm:X.mg "range"=none)(ha:QA X [a,b] aa)(hs:starEach [a,b] X.env=[(false,eval a X.env),(false,eval b X.env)]:=by rfl)(hs2:starEach [b] X.env=[(false,eval b X.env)]:=by rfl):
  QI X tg (.Call (.Name "range" p) [a,b] [] pos) (zi1 aa):=⟨zai hg hm ha.p hs hs2⟩
end
def eqv2 {a b c d:Int}:PyData.eqv (.tuple [.int a,.int b]) (.tuple [.int c,.int d])=decide (a=c/\b=d):=by
 simp[PyData.eqv,PyData.eqvAll]
 by_cases h1:a=c <;> by_cases h2:b=d <;> simp[h1,h2]
end L2
namespace Mth
def g3 (x y b:Int):Int:=((Int.gcd ((Int.gcd b x:Nat):Int) y:Nat):Int)
def z6d (x y b:Int):g3 x y b ∣ b:=Int.dvd_trans (uz _ _) (uz b x)
def zd0 (x y b:Int):g3 x y b ∣ x:=Int.dvd_trans (uz _ _) (uD b x)
def zcZ (x y b:Int):g3 x y b ∣ y:=uD _ _
def zb3 {x y b:Int}(h:0<b):0<g3 x y b:=by
 have p:=(Int.gcd_pos_iff (a:=b) (b:=x)).mpr (.inl (by lia));have p2:=(Int.gcd_pos_iff (a:=((Int.gcd b x:Nat):Int)) (b:=y)).mpr (.inl (by lia));unfold g3;lia
structure Plc (x y b u v t:Int):Prop where
 pos:1<=t
 cop:Int.gcd ((Int.gcd u v:Nat):Int) t=1
 cx:u*b=x*t
 cy:v*b=y*t
 lu:u.natAbs<=x.natAbs
 lv:v.natAbs<=y.natAbs
 lt:t.natAbs<=b.natAbs
def z8u (a b c:Int):Int.gcd ((Int.gcd a b:Nat):Int) c=Nat.gcd (Nat.gcd a.natAbs b.natAbs) c.natAbs:=rfl
def zdy (h:0<b):Plc x y b (x / g3 x y b) (y / g3 x y b) (b / g3 x y b):=by
 have hg:=zb3 (x:=x) (y:=y) h;have ex:x=g3 x y b*(x / g3 x y b):=(jk (zd0 x y b)).symm;have ey:y=g3 x y b*(y / g3 x y b):=(jk (zcZ x y b)).symm;have eb:b=g3 x y b*(b / g3 x y b):=(jk (z6d x y b)).symm;have ee:g3 x y b=((Nat.gcd (Nat.gcd b.natAbs x.natAbs) y.natAbs:Nat):Int):=rfl;refine⟨?_,?_,?_,?_,z2l hg,z2l hg,z2l hg⟩
 .generalize b / g3 x y b=t at eb
  rcases(show t<1\/1<=t by lia) with q | q
  .have:g3 x y b*t<=0:=uX (by lia) (by lia);lia
  .exact q
 .rw[z8u];generalize hu:x / g3 x y b=u at ex;generalize hv:y / g3 x y b=v at ey;generalize ht:b / g3 x y b=t at eb;have nx:=congrArg Int.natAbs ex;have ny:=congrArg Int.natAbs ey;have nb:=congrArg Int.natAbs eb;rw[vz] at nx ny nb;have ng:(g3 x y b).natAbs=Nat.gcd (Nat.gcd b.natAbs x.natAbs) y.natAbs:=by rw[ee,Wf]
  generalize hG:(g3 x y b).natAbs=G at nx ny nb ng;have hGp:0<G:=by lia
  rw[nx,ny,nb,Nat.gcd_mul_left,Nat.gcd_mul_left] at ng;have e1:G*1=G*Nat.gcd (Nat.gcd t.natAbs u.natAbs) v.natAbs:=by rw[Nat.mul_one];exact ng
  have e2:=Nat.eq_of_mul_eq_mul_left hGp e1;rw[Wc (Nat.gcd u.natAbs v.natAbs), <- Nat.gcd_assoc];exact e2.symm
 .have:x / g3 x y b*b=x / g3 x y b*(g3 x y b*(b / g3 x y b)):=congrArg _ eb;rw[this,Int.mul_left_comm, <- Int.mul_assoc, <- ex]
 .have:y / g3 x y b*b=y / g3 x y b*(g3 x y b*(b / g3 x y b)):=congrArg _ eb;rw[this,Int.mul_left_comm, <- Int.mul_assoc, <- ey]
end Mth
namespace L2
open PySem PySem.Spec PyProof.Rows
structure Fly (P:Program)(w:World)(outer:List Env)(H:Hp)(h0:Heap)(Cv:Value)(H':Hp)(ea t:Addr)(B h:Heap):Prop where
 fl:Heap.FlyingW B outer ea Cv (.ref t) h
 un:Un (frs outer) [] H H' h0 h
 hok:HOk P w H' h
 trk:∀b o,H' b=some o->∃ob,B.get? b=some ob
 kep:∀b o,h0.get? b=some o->b ∉ frs outer->∃ob,B.get? b=some ob
def CXe (P:Program)(w:World):CXT:=λouter H s E e s'=>∃(ea t:Addr) (Cv:Value) (H':Hp) (B:Heap),e = .ref ea/\Fly P w outer H s.heap Cv H' ea t B s'.heap/\AllBare s'.gens/\s'.os=s.os/\E Cv none H'
section
variable {P:Program}{w:World}{outer:List Env}{H H':Hp}{h0 h h2:Heap}{Cv:Value}{ea t:Addr}{B:Heap}
def z1c.there {a:Addr}{o:HO}(x:z1c P w H h a o):∃ob,h.get? a=some ob:=by
 cases o with
 | lst xs=>obtain⟨_,_,_,_,e⟩:=x;exact⟨_,e⟩
 | tup xs=>obtain⟨_,_,_,⟨ob,e,_⟩,_⟩:=x;exact⟨_,e⟩
 | dK kvs=>obtain⟨_,_,_,_,o,_,_,e,_⟩:=x;exact⟨_,e⟩
 | dT kvs=>obtain⟨_,_,_,_,o,_,_,e,_⟩:=x;exact⟨_,e⟩
 | set S n=>obtain⟨o,_,_,_,e,_⟩:=x;exact⟨_,e⟩
 | ins C dx fs=>obtain⟨_,_,_,e,_⟩:=x;exact⟨_,e⟩
 | own y=>obtain⟨_,e⟩:=x;exact⟨_,e⟩
 | xd fs=>obtain⟨_,⟨_,_,_,e,_⟩,_⟩:=x;exact⟨_,e⟩
 | rng lo hi=>obtain⟨_,_,_,e⟩:=x;exact⟨_,e⟩
 | frz ob u=>obtain⟨e,_⟩:=x;exact⟨_,e⟩
 | tbl ps=>rcases x with e | ⟨_,_,_,_,_,_,_,_,_,_,_,e,_⟩ <;> exact⟨_,e⟩
 | met f y=>exact⟨_,(show h.get? a=some _ from x)⟩
 | ext φ=>obtain⟨_,⟨_,e⟩,_⟩:=x;exact⟨_,e⟩
end
section
variable {P:Program}{w:World}{K:W.Frag}{mg:WmP}{base:Heap}{N:List Str}{qual:Str}{sc:Scope}{f:Addr}{cdv:Value}{A:Around}{outer:List Env}{s:Shared}{H:Hp}{E:XK}
def Fun.okN {st:Stmt}{ps:List Str}{k:Nat}(F:Fun K x qual st f fd)(S:z3h N ps (z00 st))(len:∀vs H Q E,sp vs H Q E->vs.length=ps.length)
  (hbody:∀(cdv:Value) (A:Around) (outer:List Env) (s:Shared) (H:Hp) (vs:List V) (Q:VK) (E:XK),Room k (A.deeper (envOfC qual (z00 st) s.heap.objs.size f cdv))->sp vs H Q E->
   ∃t,QSs ((cxOf (CXe P w) P w K mg base N qual (z00 st) f cdv A outer s H E).wish λ_ _=>False) (z0C st) t/\t { nx:=λ_ H'=>Q .non H',rt:=Q } (start N vs) H):FnOk P w K mg base (CXe P w) (k+1) f fd ps sp:=by
 obtain⟨oc,od,kV,doc,pm,an,cdv,ct,osl,rfl,lk,hcd⟩:=F.ex;refine zi4 lk hcd S len λA outer s H vs Q E hr hsp =>?_;obtain⟨t,h,q⟩:=hbody cdv A outer s H vs Q E hr hsp;exact⟨t,h.p.nox,q⟩
def zh9:z3E (CXe P w) X E0:=λ_ _ _ _ _ _ _ ⟨_,_,_,_,_,_,_,_,_,q⟩=>q.elim
end
def zjY (a C:Addr)(h:Heap):Prop:=∃o,h.get? a=some o/\o.cls = .ref C/\∃vs,o.data = .fields vs
open Builtin.Str
section
variable {X:Cx}
def rAll (K:W.Frag):List V->Hp->VK->Prop:=λxs H Q=>∃(a:Addr) (bs:List Bool),xs=[.ref a]/\SqL K H a (bs.map V.bl)/\Q (.bl (bs.all id)) H
theorem z7Z:∀(bs:List Bool) {us:List Value},Vals (bs.map V.bl) us->us=bs.map Value.bool
 | [],_,r=>by cases r;rfl
 | b::bs,_,r=>by
  cases r with
  | cons r1 r2=>
   rw[z7Z bs r2]
   cases (show _=Value.bool b from r1)
   rfl
def zbx (bs:List Bool):(List.range bs.length).all (λi=>bs[i]?.getD true)=bs.all id:=by
 apply jo.mpr;simp only[jC,vI,id]
 w_up
 .intro h b hb;obtain⟨i,hi,e⟩:=vw.mp hb;have:=h i hi;rw[wp hi] at this;simpa[e] using this
 .intro h i hi;rw[wp hi];exact h _ (ua hi)
def zbq (hc:X.calm=true):z1n X (.builtin "all") (rAll X.K):=by
 intro pins s σ H xs us Q I r h;obtain⟨a,bs,rfl,hs,q⟩:=h;obtain⟨u,rfl,ru⟩:=z3k r
 cases (show u=Value.ref a from ru)
 obtain⟨its,hv,pl,_⟩:=I.list hs
 cases z7Z bs hv
 have hl:=pl.isList;refine call_all_walk (wpAny_pyIter_list hl ?_);have hne:a≠s.heap.objs.size:=by
  obtain⟨o,n,e,_⟩:=pl;exact wV (wE e)
 refine⟨s.heap.objs.size,_,_,_,_,_,λi=>bs[i]?.getD true,rfl,Walks.list (A:=X.A.in1) (I.ok.hd hc) s.heap.objs.size a hne (bs.map Value.bool).toArray,⟨⟨_,wA _ rfl,rfl,rfl⟩,(pl.keeps λb o e=>wo _ e).isList⟩,?_,λh' tk hk =>?_⟩
 .intro i v s' Q' E' hP hQ;have hP':(bs.map Value.bool)[i]? = some v:=by simpa using hP
  rw[wB] at hP';obtain⟨b,hb,rfl⟩:=vL.mp hP';have hQ':Q' (bs[i]?.getD true) s':=hQ;rw[hb] at hQ';exact wj hQ'
 .have e:(List.range (bs.map Value.bool).toArray.size).all (λi=>bs[i]?.getD true)=bs.all id:=by
   rw[wD,wg];exact zbx bs
  rw[e];refine⟨.bl _,H,I.kept (t':=tk) λb o eb=>hk b o ?_ (wo _ eb),rfl,q⟩;intro z;rw[wq.mp z] at eb;exact absurd (wE eb) (uj _)
variable {tg:Expr}
def zgM (h:QA X es aa):QE X (.List es pos) (tLst aa):=⟨zh4 h.p⟩
def z4Z:MtR X "list.append" za2:=zaD
end
end L2
namespace Tx
open PySem PySem.NumText PyProof.Rows L2
abbrev st (l:List Nat):Str:=⟨l.toArray⟩
end Tx
namespace L2
open PySem PySem.Spec PyProof.Rows
section
variable {prog:Program}{w:World}{A:Around}{R:Result->Shared->Prop}{s:Shared}
def zfA (M:Model)(A:Around)(ct:Option Expr)(env:Env)(Q:Bool->Shared->Prop)(E:WvP)(s:Shared):Prop:=
 match ct with
 | none=>Q true s
 | some c=>wpAny M A (isTrue c env (eval c env)) Q E s
def z7e (I:Nat->Shared->Prop)
  (turn:∀n s,I n s->wpAny (model prog w) A (pyNext it) (λr s1=>match r with
   | none=>R (.ok .next) s1
   | some v=>wpAny (model prog w) A (letOwnedTupleGo target it v) (λ_ s5=>wpAny (model prog w) A (assign target env v) (λ_ s2=>zfA (model prog w) A ct env (λok s3=>if ok=true then wpAny (model prog w) A (eval elt env) (λx s4=>
     wpAny (model prog w) A (call (.builtin "list.append") [acc,x]) (λ_ s6=>∃m,m<n/\I m s6) (notedBy (model prog w) A env λe s'=>R (.error e) s') s4)
     (notedBy (model prog w) A env λe s'=>R (.error e) s') s3 else ∃m,m<n/\I m s3) (notedBy (model prog w) A env λe s'=>R (.error e) s') s2) (notedBy (model prog w) A env λe s'=>R (.error e) s') s5) (notedBy (model prog w) A env λe s'=>R (.error e) s') s1) (notedBy (model prog w) A env λe s'=>R (.error e) s') s)
  (n:Nat) (h:I n s):
  codeAny (model prog w) A (.compLoop (.ListComp elt [⟨target,iter,ct.toList,0⟩] scope pos) 0 it acc env) R s:=by
 refine codeAny_loop rfl I (λn s hI =>?_) n h;show wpAny _ _ ((compTurn (.ListComp elt [⟨target,iter,ct.toList,0⟩] scope pos) 0 it acc env).onRaise (λx=>do noteFrame x env;theTreesLotGoes x)) _ _ s;refine wpAny_noted ?_;rw[compTurn_list];refine we (wpAny_standAt (we (vK (turn n s hI) (λr s1 h1 =>?_) λ_ _ h'=>h')))
 cases r with
 | none=>exact wj h1
 | some v=>
  refine we (vK h1 (λ_ s5 h5 =>?_) λ_ _ h'=>h');refine we (vK h5 (λ_ s2 h2 =>?_) λ_ _ h'=>h')
  cases ct with
  | none=>
   refine we (vK (wpAny_tests_nil (Q:=λok s3=>ok=true/\s3=s2) ⟨rfl,rfl⟩) (λok s3 h3 =>?_) λ_ _ h'=>h');obtain⟨rfl,rfl⟩:=h3;have h2':=h2;simp only[zfA,jF] at h2';exact we (we (vK h2' (λx s4 h4=>we (vK h4 (λ_ s6 h6=>wj (wj ⟨rfl,h6⟩)) λ_ _ h'=>h')) λ_ _ h'=>h'))
  | some c=>
   refine we (wpAny_tests_one (vK (show wpAny (model prog w) A (isTrue c env (eval c env)) _ _ _ from h2) (λokb s3 h3 =>?_) λ_ _ h'=>h'))
   cases okb with
   | false=>exact wj ⟨rfl,by simpa using h3⟩
   | true=>
    have h3':=h3;simp only[jF] at h3';exact we (we (vK h3' (λx s4 h4=>we (vK h4 (λ_ s6 h6=>wj (wj ⟨rfl,h6⟩)) λ_ _ h'=>h')) λ_ _ h'=>h'))
end
def z1Q (env:Env)(names:List (Str × NameKind))(acc:List (Str × Addr)):List (Str × Addr):=names.foldl (λc x=>if x.2 == .free then (x.1,(env.cells.lookup x.1).getD 0)::c else c) acc
theorem z5r {α β:Type}{f:α->β->Sem (ForInStep β)}{g:α->β->β}:∀(l:List α) (b:β),(∀x∈l,∀c,f x c=pure (.yield (g x c)))->forIn l b f=(pure (l.foldl (λc x=>g x c) b):Sem β)
 | [],b,_=>rfl
 | x::l,b,h=>by
  rw[List.forIn_cons,h x wJ,pure_bind];exact z5r l (g x b) λy hy=>h y (wm _ hy)
def z3A {scope:Scope}{env:Env}(h:∀x∈scope.names,x.2 = .free->∃c,env.cells.lookup x.1=some c):closureFor scope env=pure (z1Q env scope.names []):=by
 simp only[closureFor];rw[z5r (g:=λx c=>if x.2 == .free then (x.1,(env.cells.lookup x.1).getD 0)::c else c) scope.names [] (λx hx c=>by
  obtain⟨n,kind⟩:=x
  by_cases hk:kind = .free
  .subst hk;obtain⟨a,ha⟩:=h _ hx rfl;have e:cellOf env n=pure a:=by unfold cellOf;rw[ha]
   simp[e,ha]
  .have:(kind == NameKind.free)=false:=by simpa using hk
   simp[this])]
 rfl
theorem z7N {c:Addr}:∀{names:List (Str × NameKind)}{acc:List (Str × Addr)},(y,c)∈z1Q env names acc↔(y,c)∈acc\/((y,NameKind.free)∈names/\c=(env.cells.lookup y).getD 0)
 | [],acc=>by simp[z1Q]
 | (n,k)::r,acc=>by
  show (y,c)∈z1Q env r (if k == .free then (n,(env.cells.lookup n).getD 0)::acc else acc)↔_;rw[z7N]
  by_cases hk:k = .free
  .subst hk;simp only[beq_self_eq_true,jF,ww,Prod.mk.injEq]
   w_up
   .rintro((⟨rfl,rfl⟩ | h) | ⟨h1,h2⟩)
    .exact .inr ⟨.inl (by simp),rfl⟩
    .exact .inl h
    .exact .inr ⟨.inr h1,h2⟩
   .rintro(h | ⟨⟨rfl,_⟩ | h1,h2⟩)
    .exact .inl (.inr h)
    .exact .inl (.inl ⟨rfl,h2⟩)
    .exact .inr ⟨h1,h2⟩
  .have:(k == NameKind.free)=false:=by simpa using hk
   simp only[this,wZ,uv,ww,Prod.mk.injEq]
   w_up
   .rintro(h | ⟨h1,h2⟩)
    .exact .inl h
    .exact .inr ⟨.inr h1,h2⟩
   .rintro(h | ⟨⟨_,h⟩ | h1,h2⟩)
    .exact .inl h
    .exact absurd h.symm hk
    .exact .inr ⟨h1,h2⟩
theorem z0z {β:Type}{c:β}:∀{l:List (Str × β)},l.lookup y=some c->(y,c)∈l
 | [],h=>by simp at h
 | (n,j)::r,h=>by
  rw[vP] at h
  by_cases e:y=n
  .subst e;simp at h;subst h;exact wJ
  .have:(y == n)=false:=by simpa using e
   rw[this] at h;exact wm _ (z0z h)
theorem z2P {β:Type}{c:β}:∀{l:List (Str × β)},(y,c)∈l->∃d,l.lookup y=some d
 | (n,j)::r,h=>by
  rw[vP]
  by_cases e:y=n
  .subst e;simp
  .have:(y == n)=false:=by simpa using e
   rw[this]
   rcases ww.mp h with h | h
   .exact absurd (congrArg Prod.fst h) e
   .exact z2P h
theorem z2m {env:Env}:∀{names:List (Str × NameKind)}{x:Str}{k:NameKind},(names.map λ(n,k)=>if (k == NameKind.free && env.scope.kind == .function && env.kindOf n == some .cell) then (n,NameKind.cell) else (n,k)).lookup x=some k->
  names.lookup x=some k\/(k = .cell/\names.lookup x=some .free)
 | [],_,_,h=>by simp at h
 | (n,j)::r,x,k,h=>by
  have ih := @z2m env r x k;have h':List.lookup x ((if (j == NameKind.free && env.scope.kind == .function && env.kindOf n == some .cell)=true then (n,NameKind.cell) else (n,j))::(r.map λ(n,k)=>if (k == NameKind.free && env.scope.kind == .function && env.kindOf n == some .cell) then (n,NameKind.cell) else (n,k)))=some k:=h
  by_cases hc:(j == NameKind.free && env.scope.kind == .function && env.kindOf n == some .cell)=true
  .rw[if_pos hc] at h';have hj:j = .free:=by
    have:=hc;simp only[vE,beq_iff_eq] at this;exact this.1.1
   cases hx:x == n with
   | true=>
    simp only[vP,hx] at h' ⊢;exact .inr ⟨(vk h').symm,by rw[hj]⟩
   | false=>
    simp only[vP,hx] at h' ⊢;exact ih h'
  .rw[if_neg hc] at h'
   cases hx:x == n with
   | true=>
    simp only[vP,hx] at h' ⊢;exact .inl h'
   | false=>
    simp only[vP,hx] at h' ⊢;exact ih h'
theorem z20 {env:Env}:∀{names:List (Str × NameKind)}{x:Str},names.lookup x=some .free->
  (names.map λ(n,k)=>if (k == NameKind.free && env.scope.kind == .function && env.kindOf n == some .cell) then (n,NameKind.cell) else (n,k)).lookup x=some .cell\/
  (names.map λ(n,k)=>if (k == NameKind.free && env.scope.kind == .function && env.kindOf n == some .cell) then (n,NameKind.cell) else (n,k)).lookup x=some .free
 | [],_,h=>by simp at h
 | (n,j)::r,x,h=>by
  have ih := @z20 env r x;show List.lookup x ((if (j == NameKind.free && env.scope.kind == .function && env.kindOf n == some .cell)=true then (n,NameKind.cell) else (n,j))::_)=_\/List.lookup x ((if (j == NameKind.free && env.scope.kind == .function && env.kindOf n == some .cell)=true then (n,NameKind.cell) else (n,j))::_)=_
  cases hx:x == n with
  | true=>
   simp only[vP,hx] at h
   cases h
   by_cases hc:(NameKind.free == NameKind.free && env.scope.kind == .function && env.kindOf n == some .cell)=true
   .rw[if_pos hc];simp[vP,hx]
   .rw[if_neg hc];simp[vP,hx]
  | false=>
   simp only[vP,hx] at h
   by_cases hc:(j == NameKind.free && env.scope.kind == .function && env.kindOf n == some .cell)=true
   .rw[if_pos hc];simp only[vP,hx];exact ih h
   .rw[if_neg hc];simp only[vP,hx];exact ih h
@[reducible] def Cx.compG (X:Cx)(scope:Scope)(N':List Str)(C:Addr)(s:Shared)(H:Hp)(fp:List Addr):Cx:=
 { X with N:=N',s₀:=s,H₀:=H,env:=compEnvC scope (z1Q X.env scope.names []) C X.env,outer:=X.stack,stack:=X.stack,ex:=fp,pn:=[],fn:=λy=>((z1Q X.env scope.names []).lookup y).isNone,xe:=λ_ _=>False }
def z6v:TT:=λ_ H Q=>Q true H
def LcG (J:It)(g:TG)(tc:TT)(te:TE)(Q:VK)(σ0:St)(H1:Hp):Prop:=∃W:Nat->Nat->List V->St->Hp->Prop,(∃m,W 0 m [] σ0 H1)/\∀i m ys σ H,W i m ys σ H->
 ys.length<sizeLine/\((J.stop i H/\∀p,H p=none->Q (.ref p) (upd H p (.lst ys)))\/(J.go i H/\∀x H',J.yld i H x H'->g x σ H' λσ1 H1=>tc σ1 H1 λb H2=>if b=true then te σ1 H2 λy H3=>∃m',m'<m/\W (i+1) m' (ys++[y]) σ1 H3 else ∃m',m'<m/\W (i+1) m' ys σ1 H2))
def tLcG (wi:TI)(g:TG)(tc:TT)(te:TE)(nt:Nat)(js:List Nat):TE:=λσ H Q=>wi σ H λJ H1=>LcG J g tc te Q (List.replicate nt none++js.map λj=>(σ[j]?).getD none) H1
def z7U (N' xn:List Str)(nt:Nat)(js:List Nat)(names onames:List (Str × NameKind)):Bool:=
 N'.length == nt+js.length && (js.zipIdx.all λp=>match N'[nt+p.2]? with
  | some y=>xn[p.1]? == some y && names.lookup y == some .free
  | none=>false) && names.all (λx=>x.2 != .cell && (x.2 != .local || names.lookup x.1 == some .local) && (x.2 != .free || ((onames.lookup x.1 == some .cell || onames.lookup x.1 == some .free))))
section
variable {X:Cx}{pins:List (Addr × Obj)}{σ:St}{H:Hp}{s:Shared}
structure z2S (X:Cx)(N':List Str)(nt:Nat)(js:List Nat)(scope:Scope):Prop where
 len:N'.length=nt+js.length
 cap:∀k j,js[k]? = some j->∃y,N'[nt+k]? = some y/\X.N[j]? = some y/\scope.names.lookup y=some .free
 nocell:∀y∈scope.names,y.2 ≠ .cell
 loc:∀y∈scope.names,y.2 = .local->scope.names.lookup y.1=some .local
 free:∀y∈scope.names,y.2 = .free->X.env.kindOf y.1=some .cell\/X.env.kindOf y.1=some .free
def z7U.ok {N' xn:List Str}{nt:Nat}{js:List Nat}{scope osc:Scope}(hxn:X.N=xn)(hosc:X.env.scope=osc)(h:z7U N' xn nt js scope.names osc.names=true):z2S X N' nt js scope:=by
 unfold z7U at h;simp only[vE,beq_iff_eq] at h;obtain⟨⟨h1,h2⟩,h3⟩:=h;rw[jC] at h2 h3;have h3':∀y∈scope.names,y.2 ≠ .cell/\(y.2 = .local->scope.names.lookup y.1=some .local)/\(y.2 = .free->osc.names.lookup y.1=some .cell\/osc.names.lookup y.1=some .free):=λy hy=>by
  have:=h3 y hy;simp only[vE,Bool.or_eq_true,bne_iff_ne,beq_iff_eq] at this;refine⟨this.1.1,λz =>?_,λz =>?_⟩
  .rcases this.1.2 with q | q
   .exact absurd z q
   .exact q
  .rcases this.2 with q | q
   .exact absurd z q
   .exact q
 refine⟨h1,λk j hk =>?_,λy hy=>(h3' y hy).1,λy hy=>(h3' y hy).2.1,λy hy z =>?_⟩
 .have hm:(j,k)∈js.zipIdx:=by
   rw[List.mem_zipIdx_iff_getElem?];exact hk
  have:=h2 (j,k) hm
  cases e:N'[nt+k]? with
  | none=>simp only[e] at this;cases this
  | some y=>
   simp only[e,vE,beq_iff_eq] at this;exact⟨y,rfl,by rw[hxn];exact this.1,this.2⟩
 .show X.env.scope.names.lookup y.1=some .cell\/X.env.scope.names.lookup y.1=some .free;rw[hosc];exact(h3' y hy).2.2 z
theorem z2S.cells (c:z2S X N' nt js scope)(I:Inv X pins σ H s):∀x∈scope.names,x.2 = .free->∃a,X.env.cells.lookup x.1=some a:=λx hx hf=>I.ok.has x.1 (c.free x hx hf)
def z2S.clo (c:z2S X N' nt js scope)(I:Inv X pins σ H s)(h:(z1Q X.env scope.names []).lookup y=some a):X.env.cells.lookup y=some a/\(y,NameKind.free)∈scope.names:=by
 rcases z7N.mp (z0z h) with z | ⟨z1,z2⟩
 .simp at z
 .obtain⟨b,hb⟩:=c.cells I (y,.free) z1 rfl;have hb':X.env.cells.lookup y=some b:=hb;rw[hb'] at z2;exact⟨by rw[hb',z2];rfl,z1⟩
def z2S.has {N':List Str}{nt:Nat}{js:List Nat}{scope:Scope}(c:z2S X N' nt js scope)(I:Inv X pins σ H s){y:Str}(h:(y,NameKind.free)∈scope.names):∃a,(z1Q X.env scope.names []).lookup y=some a:=
 z2P (c:=(X.env.cells.lookup y).getD 0) (z7N.mpr (.inr ⟨h,rfl⟩))
theorem Inv.compG (I:Inv X pins σ H s)(hk:scope.kind = .function)(c:z2S X N' nt js scope)
  (hC:s.heap.objs.size<=C) (hfp:∀b∈fp,FpOk X pins H b) (hfo:∀b∈fp,b<s.heap.objs.size) (keep:∀b o,s.heap.get? b=some o->h1.get? b=some o) (hns:∃m,h1.Ns C m) (hc:X.calm=true):
  Inv (X.compG scope N' C s H fp) [] (List.replicate nt none++js.map λj=>(σ[j]?).getD none) H { s with heap:=h1,toks:=t1 }:=by
 have nofs:∀b∈fp,b ∉ frs X.stack:=λb hb z=>by
  rcases ww.mp (I.stkSub b z) with q | q
  .exact(hfp b hb).2.1 q
  .exact(hfp b hb).2.2.1 q
 have nobase:∀b o,X.base.get? b=some o->b ∉ fp:=λb o e hb=>by
  have e2:=(I.ok.bs b o e).1
  rcases(hfp b hb).2.2.2.1 with z | z
  .exact I.ok.noex b o e z
  .exact absurd (wT (wE e2) z) (uj _)
 have kd:∀{y:Str},((compEnvC scope (z1Q X.env scope.names []) C X.env).kindOf y=some .cell\/(compEnvC scope (z1Q X.env scope.names []) C X.env).kindOf y=some .free)->(y,NameKind.free)∈scope.names:=λ{y} q=>by
  rcases q with q | q
  .rcases z2m (env:=X.env) q with z | ⟨_,z⟩
   .exact absurd rfl (c.nocell _ (z0z z))
   .exact z0z z
  .rcases z2m (env:=X.env) q with z | ⟨z,_⟩
   .exact z0z z
   .cases z
 have cell:∀{a:Addr}{v:Option Value},s.heap.IsCell a v->h1.IsCell a v:=λ⟨o,ho,hd⟩=>⟨o,keep _ _ ho,hd⟩
 obtain⟨m1,hm1⟩:=hns;refine⟨⟨I.ok.mod,hk,I.ok.glob,I.ok.blt,hC,(λy z a e1 e2=>I.ok.inj y z a (c.clo I e1).1 (c.clo I e2).1),(λy q=>c.has I (kd q)),(λy a hf e =>?_),(λ_=>I.ok.hd hc),I.ok.frames,.inl rfl,(λb hb=>⟨wV (wT (hfo b hb) hC),(λy a e=>(hfp b hb).2.2.2.2.1 y a (c.clo I e).1)⟩),(λb o e=>⟨I.bk b o e,(I.bs b o e).2⟩),wO I.ok.bsz I.sz,nobase,nofs,I.stack,I.stkFree,I.tbs⟩,
  rfl,I.bare,Un.kept keep,⟨m1,hm1,(λi y v e1 e2 hv =>?_)⟩,(λy a e =>?_),I.hok.fresh hC,(λy a e=>I.freeC y a (c.clo I e).1),(λp hp=>by simp at hp),I.hok.kept keep,?_⟩
 .have hf':((z1Q X.env scope.names []).lookup y).isNone=true:=hf;have e':(z1Q X.env scope.names []).lookup y=some a:=e;rw[e'] at hf'
  cases hf'
 .rcases vD i nt with hi | hi
  .rw[wN (by simpa using hi),jy] at e2;rw[if_pos hi] at e2
   cases e2
  .rw[w9 (by simpa using hi),uo,wB] at e2
   cases ej:js[i - nt]? with
   | none=>rw[ej] at e2;cases e2
   | some j=>
    rw[ej] at e2;obtain⟨y',q1,q2,q3⟩:=c.cap _ _ ej;have hi':nt+(i - nt)=i:=by lia
    rw[hi'] at q1;have e1':N'[i]? = some y:=e1;rw[q1] at e1'
    cases e1'
    have e2:some ((σ[j]?).getD none)=some (some v):=e2;have hσ:σ[j]? = some (some v):=by
     cases ez:σ[j]? with
     | none=>rw[ez] at e2;cases e2
     | some z=>rw[ez] at e2;exact congrArg some (vk e2)
    have hkX:=c.free _ (z0z q3) rfl;obtain⟨m,hn,hl⟩:=I.loc;obtain⟨u,r,l⟩:=hl j y v q2 hσ (.inr hkX);refine⟨u,r,.inr ⟨z20 (env:=X.env) q3,?_⟩⟩
    rcases l with ⟨l,_⟩ | ⟨_,a,ha,hcell⟩
    .have l':X.env.kindOf y=some .local:=l
     rcases hkX with z | z
     .rw[l'] at z;cases z
     .rw[l'] at z;cases z
    .obtain⟨b,hb⟩:=c.has I (z0z q3);have:=(c.clo I hb).1;rw[ha] at this
     cases this
     exact⟨a,hb,cell hcell⟩
 .obtain⟨v,z⟩:=I.cell y a (c.clo I e).1;exact⟨v,cell z⟩
 .show (List.replicate nt none++js.map λj=>(σ[j]?).getD none).length=N'.length;rw[wL,uo,wg,c.len]
def zh5 (hc:X.calm=true)(hi:PI X target iter wi)(hk:scope.kind = .function)(cp:z2S X N' nt js scope)
  (hg:∀(C:Addr) (s:Shared) (H:Hp) (fp:List Addr),PG (X.compG scope N' C s H fp) target g)
  (ht:match ct with
   | none=>tc=z6v
   | some c=>∀(C:Addr) (s:Shared) (H:Hp) (fp:List Addr),PT (X.compG scope N' C s H fp) c tc)
  (he:∀(C:Addr) (s:Shared) (H:Hp) (fp:List Addr),PE (X.compG scope N' C s H fp) elt te) (hs:∀x,foldedSetIterable iter X.env x=pure x:=by intro _;rfl):PE X (.ListComp elt [⟨target,iter,ct.toList,0⟩] scope pos) (tLcG wi g tc te nt js):=by
 x_go;rw[eval_ListComp];refine wpAny_comprehension_free (use:=none) rfl hs (z3A (cp.cells I)) hk cp.loc (thn (hi pins s σ H _ I h) λv s1 h1=>thn h1 λitv s2 h2 =>?_);obtain⟨it,fp,tn,J,H2,e,I2,T,st2,f2,W,⟨m0,w0⟩,turn⟩:=h2;subst e;have hfo:∀b∈fp,b<s2.heap.objs.size:=λb hb=>by
  obtain⟨o,e,_⟩:=T.obj _ _ st2 b hb;exact wE e
 refine vo (wpAny_newFunctionEnv cp.nocell (by intro y hy;simp at hy) (λg1 hns1 hsb1 =>?_) hk);dsimp only at hns1 hsb1 ⊢;generalize hG2:s2.heap.push { cls :=.type "list",dict:=none,data :=.seq ([]:List Value).toArray }=G2 at hns1 hsb1 ⊢;have hC:G2.objs.size=s2.heap.objs.size+1:=by rw[<- hG2,uF]
 have hDC:s2.heap.objs.size≠G2.objs.size:=by rw[hC];exact wV (j5 _)
 have below:∀b,b<s2.heap.objs.size->b≠G2.objs.size/\b≠s2.heap.objs.size:=λb hb=>⟨by rw[hC];exact wV (uq hb),wV hb⟩
 have old:∀b o,s2.heap.get? b=some o->g1.get? b=some o:=λb o e=>hsb1.extBut b o (below b (wE e)).1 (wo _ (hG2 ▸ wo _ e));have hacc:g1.get? s2.heap.objs.size=some { cls :=.type "list",data :=.seq ([]:List Value).toArray 0 }:=hsb1.extBut _ _ hDC (wo _ (hG2 ▸ wA _ rfl));have hCge:s2.heap.objs.size<=G2.objs.size:=by rw[hC];exact Nat.le_succ _
 have cellD:∀y a,X.env.cells.lookup y=some a->a<s2.heap.objs.size:=λy a e=>by
  obtain⟨v,o,ho,_⟩:=I2.cell y a e;exact wE ho
 generalize hCC:G2.objs.size=C at*;generalize hDD:s2.heap.objs.size=D at*
 let Y:Cx:=X.compG scope N' C s2 H2 fp
 have IY:Inv Y [] (List.replicate nt none++js.map λj=>(σ[j]?).getD none) H2 { s2 with heap:=g1,toks:=s2.toks+([]:List (Str × Value)).length }:=I2.compG hk cp (by rw[hDD];exact hCge) f2 (by rw[hDD];exact hfo) old ⟨_,hns1⟩ hc;have fpD:∀b∈fp,b≠D:=λb hb=>(below b (hfo b hb)).2;have fpC:∀b∈fp,b≠C:=λb hb=>(below b (hfo b hb)).1;have H2D:H2 D=none:=I2.hok.fresh (by rw[hDD];exact wx _);have Dnf:D ∉ frs X.stack:=λz=>by
  obtain⟨_,o,e,_⟩:=I2.stack.mem z;exact absurd (wE e) (by rw[hDD];exact uj _)
 have stat:∀{H':Hp}{pl:List (Addr × Obj)},(∀b∈fp,H' b=none)->(∀p∈pl,p.1=D)->∀b∈fp,FpOk Y pl H' b:=λhn hp b hb=>⟨hn b hb,fpC b hb,(λz=>IY.ok.exfs b hb z),.inl hb,(λy a e=>(f2 b hb).2.2.2.2.1 y a (cp.clo I2 e).1),λp hp' z=>fpD b hb (z.symm.trans (hp p (by simpa[Y] using hp')))⟩
 have loop:∀s3:Shared,s3={ s2 with heap:=g1,toks:=s2.toks+([]:List (Str × Value)).length }->
   codeAny (model X.prog X.w) X.A (.compLoop (.ListComp elt [⟨target,iter,ct.toList,0⟩] scope pos) 0 (.ref it) (.ref D) (compEnvC scope (z1Q X.env scope.names []) C X.env)) (compPost (model X.prog X.w) X.A X.xe none (EP X pins σ Q) (.ref D) C) s3:=by
  intro s3 e3;refine z7e (λn s'=>∃i ys its σ' H',Inv Y [] σ' H' s'/\s'.heap.get? D=some { cls :=.type "list",data :=.seq (its:List Value).toArray its.length }/\Vals ys its/\H' D=none/\tn i s'.heap/\(∀b∈fp,H' b=none)/\W i n ys σ' H') ?_ m0 ⟨0,[],[],_,H2,e3 ▸ IY,?_,.nil,H2D,?_,λb hb=>(f2 b hb).1,w0⟩
  .rintro n s4 ⟨i,ys,its,σ4,H4,I4,hD4,hv4,hn4,st4,fr4,w4⟩;obtain⟨hsz,step⟩:=turn i n ys σ4 H4 w4;have hl4:ys.length=its.length:=hv4.length;have I4p:Inv Y [(D,{ cls :=.type "list",data :=.seq its.toArray its.length })] σ4 H4 s4:=I4.pins_of λp hp=>by
    rw[wq.mp hp];exact⟨hD4,hn4,hDC,Dnf,λv z=>by cases z⟩
   have one:∀p∈[((D:Addr),({ cls :=.type "list",data :=.seq its.toArray its.length }:Obj))],p.1=D:=λp hp=>by rw[wq.mp hp]
   rcases step with ⟨stop,qn⟩ | ⟨go,step⟩
   .refine vK (T.done Y rfl rfl rfl hc i _ s4 σ4 H4 (λ_ _=>False) I4p (stat fr4 one) st4 stop) (λr s5 hr =>?_) λ_ _ z=>z.elim;obtain⟨rfl,I5⟩:=hr;have hD5:s5.heap.get? D=some { cls :=.type "list",data :=.seq its.toArray its.length }:=(I5.pin (D,_) (by simp)).1;obtain⟨m5,hm5,_⟩:=I5.loc;refine⟨m5,hm5,λh' sb =>?_⟩;have U:Un (frs X.stack) fp H2 H4 s2.heap s5.heap:=I5.base;have nC:∀b o,s2.heap.get? b=some o->b≠C:=λb o e=>(below b (hDD ▸ wE e)).1;have nD:∀b o,s2.heap.get? b=some o->b≠D:=λb o e=>(below b (hDD ▸ wE e)).2;have ex:∀b o,b≠C->s5.heap.get? b=some o->h'.get? b=some o:=λb o n e=>sb.extBut b o n e;have U':Un (frs X.stack) fp H2 (upd H4 D (.lst ys)) s2.heap h':=⟨λb o e n hb hx'=>ex b o (nC b o e) (U.keep b o e n hb hx'),λb o e n hb hx'=>by
      obtain⟨sl,q⟩:=U.slot b o e n hb hx';exact⟨sl,ex b _ (nC b o e) q⟩,λb o e n hx'=>by rw[z05 (nD b o e)];exact U.free b o e n hx',λb o e hx'=>by
      obtain⟨o',q⟩:=U.there b o e hx';exact⟨o',ex b _ (nC b o e) q⟩,λb xs e=>by rw[z05 (z0g (U.tups b xs e) hn4)];exact U.tups b xs e,λb o xs e=>by rw[z05 (z0g (U.frzs b o xs e) hn4)];exact U.frzs b o xs e,λb ps e=>by
      obtain⟨more,q⟩:=U.tbls b ps e;exact⟨more,by rw[z05 (z0g q hn4)];exact q⟩⟩
    have ok1:HOk X.prog X.w H4 h':=HOk.other I5.hok I5.free λb u n e=>ex b u n e;have ok2:HOk X.prog X.w (upd H4 D (.lst ys)) h':=ok1.track hn4 ⟨um hsz,its,_,hv4,ex D _ hDC hD5⟩;exact⟨.ref D,upd H4 D (.lst ys),I2.call' (s':={ s5 with heap:=h' }) I5.os U' ok2 I5.bare (λb hb=>⟨(f2 b hb).2.2.2.1,(f2 b hb).2.1,(f2 b hb).2.2.2.2.1,(f2 b hb).2.2.2.2.2⟩),rfl,qn D hn4⟩
   .refine vK (T.item Y rfl rfl rfl hc i _ s4 σ4 H4 (λ_ _=>False) I4p (stat fr4 one) st4 go) (λr s5 hr =>?_) λ_ _ z=>z.elim;obtain⟨u,rfl,h5⟩:=hr;refine vK h5 (λ_ s6 h6 =>?_) λ_ _ z=>z.elim;obtain⟨xv,H6,I6,r6,y6,st6,fr6⟩:=h6;have I6p:=I6.pinned (stat fr6 one) (T.obj _ _ st6);have after:∀{σ8:St}{H8:Hp}{s8:Shared},Inv Y _ σ8 H8 s8->_:=λ{σ8 H8 s8} (I8:Inv Y ([(D,{ cls :=.type "list",data :=.seq its.toArray its.length })]++z5h fp s6.heap) σ8 H8 s8)=>
     (show (s8.heap.get? D=some { cls :=.type "list",data :=.seq its.toArray its.length }/\H8 D=none)/\tn (i+1) s8.heap/\(∀b∈fp,H8 b=none)/\Inv Y [] σ8 H8 s8 from by
      have pD:=I8.pin (D,{ cls :=.type "list",data :=.seq its.toArray its.length }) (by simp);refine⟨⟨pD.1,pD.2.1⟩,T.keep _ _ _ st6 λb hb o e=>(I8.pin (b,o) (wF _ (wF _ (z2Z hb e)))).1,λb hb =>?_,I8.pins_of (pins':=[]) λp hp=>by simp at hp⟩;obtain⟨o,e,d⟩:=T.obj _ _ st6 b hb;exact(I8.pin (b,o) (wF _ (wF _ (z2Z hb e)))).2.1)
    refine vK (hg C s2 H2 fp _ s6 σ4 H6 xv u _ I6p r6 (step xv H6 y6)) (λ_ s7 h7 =>?_) λ_ _ z=>z.elim;obtain⟨σ7,H7,I7,q7⟩:=h7;have yes:∀s7' H7',Inv Y _ σ7 H7' s7'->(te σ7 H7' λy H3=>∃m',m'<n/\W (i+1) m' (ys++[y]) σ7 H3)->_:=λs7' H7' (I7':Inv Y ([(D,{ cls :=.type "list",data :=.seq its.toArray its.length })]++z5h fp s6.heap) σ7 H7' s7') qe=>
     vK (Q':=λyv s8=>wpAny (model X.prog X.w) X.A (call (.builtin "list.append") [.ref D,yv]) (λ_ s6=>∃m,m<n/\∃i ys its σ' H',Inv Y [] σ' H' s6/\s6.heap.get? D=some { cls :=.type "list",data :=.seq (its:List Value).toArray its.length }/\Vals ys its/\H' D=none/\tn i s6.heap/\(∀b∈fp,H' b=none)/\W i m ys σ' H') (notedBy (model X.prog X.w) X.A (compEnvC scope (z1Q X.env scope.names []) C X.env) λe s'=>compPost (model X.prog X.w) X.A X.xe none (EP X pins σ Q) (.ref D) C (.error e) s') s8) (he C s2 H2 fp _ s7' σ7 H7' _ I7' qe) (λyv s8 h8=>by
      obtain⟨y,H8,I8,r8,m',hm',w8⟩:=h8;obtain⟨⟨pD1,pD2⟩,st8,fr8,I8u⟩:=after I8;refine append_at (hsz:=by rw[wD, <- hl4];exact um hsz) pD1 λh9 sb9 hD9 =>?_;refine⟨m',hm',i+1,ys++[y],its++[yv],σ7,H8,I8u.turned (it:=D) (t':=s8.toks) (λb o n e=>sb9.extBut b o n e) pD2 hDC (.inr (by rw[hDD];exact wx _)) (λy a e z=>by
        have:=cellD y a (cp.clo I2 e).1;rw[z] at this;exact uj _ this) (λp hp=>by simp[Y] at hp),?_,Vals.append hv4 (.cons r8 .nil),pD2,T.keep _ _ _ st8 λb hb o e=>sb9.extBut b o (fpD b hb) e,fr8,w8⟩
      show h9.get? D=_;rw[hD9];simp) (E':=notedBy (model X.prog X.w) X.A (compEnvC scope (z1Q X.env scope.names []) C X.env) λe s'=>compPost (model X.prog X.w) X.A X.xe none (EP X pins σ Q) (.ref D) C (.error e) s') (λ_ _ z=>z.elim)
    cases ct with
    | none=>
     have ht':tc=z6v:=ht;subst ht';simp only[zfA,jF];have q7':if true=true then te σ7 H7 λy H3=>∃m',m'<n/\W (i+1) m' (ys++[y]) σ7 H3 else ∃m',m'<n/\W (i+1) m' ys σ7 H7:=q7
     rw[if_pos rfl] at q7';exact yes s7 H7 I7 q7'
    | some c=>
     refine vK (ht C s2 H2 fp _ s7 σ7 H7 _ I7 q7) (λb s8 h8 =>?_) λ_ _ z=>z.elim;obtain⟨H8,I8,q8⟩:=h8
     cases b with
     | true=>
      rw[if_pos rfl] at q8 ⊢;exact yes s8 H8 I8 q8
     | false=>
      rw[if_neg wU] at q8 ⊢;obtain⟨m',hm',w8⟩:=q8;obtain⟨⟨pD1,pD2⟩,st8,fr8,I8u⟩:=after I8;exact⟨m',hm',i+1,ys,its,σ7,H8,I8u,pD1,hv4,pD2,st8,fr8,w8⟩
  .rw[e3];exact hacc
  .rw[e3];exact T.keep _ _ _ st2 λb _ o e=>old b o e
 exact codeAny_compStart_list (loop _ rfl) (T.self _ 0 _ _ _ (T.keep _ _ _ st2 λb _ o e=>old b o e) (loop _ rfl))
def zgN (hc:X.calm=true)(hi:QI X target iter wi)(hk:scope.kind = .function)(cp:z2S X N' nt js scope)
  (hg:∀(C:Addr) (s:Shared) (H:Hp) (fp:List Addr),QG (X.compG scope N' C s H fp) target g)
  (ht:match ct with
   | none=>tc=z6v
   | some c=>∀(C:Addr) (s:Shared) (H:Hp) (fp:List Addr),QT (X.compG scope N' C s H fp) c tc)
  (he:∀(C:Addr) (s:Shared) (H:Hp) (fp:List Addr),QE (X.compG scope N' C s H fp) elt te) (hs:∀x,foldedSetIterable iter X.env x=pure x:=by intro _;rfl):QE X (.ListComp elt [⟨target,iter,ct.toList,0⟩] scope pos) (tLcG wi g tc te nt js):=by
 refine⟨zh5 hc hi.p hk cp (λC s H fp=>(hg C s H fp).p) ?_ (λC s H fp=>(he C s H fp).p) hs⟩
 cases ct with
 | none=>exact ht
 | some c=>exact λC s H fp=>(ht C s H fp).p
def zgG (hN:X.N.Nodup)(hi:X.N[i]? = some x)(hx:X.env.scope.names.lookup x=some .local):QG X (.Name x pos) (z47 i):=⟨zak hN hi (.inl hx) (.inr hx)⟩
end
theorem z7w:∀(ns:List Int) {us:List Value},Vals (ns.map V.int) us->∃l:List (Int × Tok),us=l.map (λp=>Value.int p.1 p.2)/\l.map (·.1)=ns
 | [],_,r=>by cases r;exact⟨[],rfl,rfl⟩
 | n::ns,_,r=>by
  cases r with
  | cons r1 r2=>
   obtain⟨t,rfl⟩:=(show ∃t,_=Value.int n t from r1)
   obtain⟨l,rfl,hl⟩:=z7w ns r2;exact⟨(n,t)::l,rfl,by rw[ve,hl]⟩
theorem z3V (bt:Nat->Nat->Bool):∀k,argBest bt k<=k
 | 0=>wx _
 | k+1=>by
  rw[argBest]
  split
  .exact wx _
  .exact jS (z3V bt k)
theorem z3g (f:Nat->Int):∀k j,j<=k->f j<=f (argBest (λi j=>decide (f i > f j)) k)
 | 0,j,h=>by
  have:j=0:=by lia
  subst this;exact ul _
 | k+1,j,h=>by
  have ih:=z3g f k;rw[argBest]
  by_cases hb:f (k+1) > f (argBest (λi j=>decide (f i > f j)) k)
  .rw[if_pos (vC hb)]
   rcases vD j (k+1) with hj | hj
   .have:=ih j (by lia);lia
   .have:j=k+1:=by lia
    subst this;exact ul _
  .rw[if_neg (by rw[vG hb];exact wU)]
   rcases vD j (k+1) with hj | hj
   .exact ih j (by lia)
   .have:j=k+1:=by lia
    subst this;lia
section
variable {X:Cx}
def ziB (K:W.Frag):List V->Hp->VK->Prop:=λxs H Q=>∃(a:Addr) (ns:List Int),xs=[.ref a]/\SqL K H a (ns.map V.int)/\ns≠[]/\∀m,m∈ns->(∀x∈ns,x<=m)->Q (.int m) H
def zbo (hc:X.calm=true):z1n X (.builtin "max") (ziB X.K):=by
 intro pins s σ H xs us Q I r h;obtain⟨a,ns,rfl,hs,hne,q⟩:=h;obtain⟨u,rfl,ru⟩:=z3k r
 cases (show u=Value.ref a from ru)
 obtain⟨its,hv,pl,_⟩:=I.list hs;obtain⟨l,rfl,hl⟩:=z7w ns hv;have hll:l.length=ns.length:=by rw[<- hl,wg]
 have hpos:0<l.length:=by
  cases ns with
  | nil=>exact absurd rfl hne
  | cons _ _=>rw[hll];exact Nat.succ_pos _
 have num:∀i,numAt l.toArray i=(ns[i]?).getD 0:=λi=>by
  unfold numAt;rw[<- hl,wB];simp
 refine max_intList (xs:=l.toArray) (I.ok.hd hc) (by have:=pl.isList;simpa[intItems] using this) (by simpa using hpos) λv h' tk e hk =>?_;obtain⟨t,rfl⟩:=intItems_at e;generalize hk0:argBest (λi j=>decide (numAt l.toArray i > numAt l.toArray j)) (l.toArray.size - 1)=k at*;have hkle:k<=l.length - 1:=by
  have:=z3V (λi j=>decide (numAt l.toArray i > numAt l.toArray j)) (l.toArray.size - 1);rw[hk0] at this;o_rec
 have hkn:k<ns.length:=by lia
 refine⟨.int _,H,I.kept (t':=tk) hk,⟨t,rfl⟩,q _ ?_ λx hx =>?_⟩
 .rw[num,wp hkn];exact ua hkn
 .obtain⟨j,hj,rfl⟩:=vw.mp hx;have hsz:l.toArray.size=l.length:=by simp
  have:=z3g (numAt l.toArray) (l.toArray.size - 1) j (by lia);rw[hk0] at this;rw[num j,wp hj] at this;exact this
def z1n.imp {f:Value}{r r':List V->Hp->VK->Prop}(h:z1n X f r)(i:∀xs H Q,r' xs H Q->r xs H Q):z1n X f r':=λpins s σ H xs us Q I rv q=>h pins s σ H xs us Q I rv (i xs H Q q)
end
end L2
namespace Pu
open PySem PySem.Spec PyProof.Rows L2
inductive D where
 | non | bl (b:Bool) | int (i:Int) | str (x:Str) | tup (l:List D) | lst (l:List D) | dct (ks vs:List D) | fn (n:Nat) | exc (x:Str)
instance:Inhabited D:=⟨.non⟩
def z7a:Nat->Str
 | 0=>"turn_by" | 1=>"turn_among" | 2=>"step_of" | 3=>"step_among" | _=>""
def kD:Key->D
 | .inl i =>.int i
 | .inr x =>.str x
section
variable (K:W.Frag)(mg:WmP)
mutual
/-- the value v stands for d,in the heap G -/
def RD (G:Hp):D->V->Prop
 | .non,v=>v = .non
 | .bl b,v=>v = .bl b
 | .int i,v=>v = .int i
 | .str x,v=>v = .str x
 | .tup ds,v=>∃a xs,v = .ref a/\SqT K G a xs/\RDs G ds xs
 | .lst ds,v=>∃a xs,v = .ref a/\SqL K G a xs/\RDs G ds xs
 | .dct ks vs,v=>∃a xs,v = .ref a/\RDs G vs xs/\((∃kvs:List (Key × V),G a=some (.dK kvs)/\ks=kvs.map (λp=>kD p.1)/\xs=kvs.map (·.2))\/∃kvs:List (List Key × V),G a=some (.dT kvs)/\ks=kvs.map (λp =>.tup (p.1.map kD))/\xs=kvs.map (·.2))
 | .fn n,v=>∃f,v = .ref f/\mg (z7a n)=some (.ref f)
 | .exc x,v=>∃ea C,v = .ref ea/\G ea=some (.ext (zjY ea C))/\mg x=some (.ref C)
def RDs (G:Hp):List D->List V->Prop
 | [],xs=>xs=[]
 | d::ds,xs=>∃x r,xs=x::r/\RD G d x/\RDs G ds r
end
end
section
variable {K:W.Frag}{mg:WmP}{G G' H H':Hp}
def Same.refl':Same H H:=λ_ _ h=>h
def z01 {A B C:Hp}(h:Same A B)(h':Same B C):Same A C:=λa o e=>h' a o (h a o e)
def z13 {a:Addr}{xs:List V}(e:Same G G')(h:SqL K G a xs):SqL K G' a xs:=by
 rcases h with (h | ⟨o,h⟩) | h
 .exact .inl (.inl (e _ _ h))
 .exact .inl (.inr ⟨o,e _ _ h⟩)
 .exact .inr h
def z0F {a:Addr}{xs:List V}(e:Same G G')(h:SqT K G a xs):SqT K G' a xs:=by
 rcases h with (h | ⟨o,h⟩) | h
 .exact .inl (.inl (e _ _ h))
 .exact .inl (.inr ⟨o,e _ _ h⟩)
 .exact .inr h
mutual
theorem RD.same (e:Same G G'):∀(d:D) {v:V},RD K mg G d v->RD K mg G' d v
 | .non,_,h=>by simpa[RD] using h
 | .bl _,_,h=>by simpa[RD] using h
 | .int _,_,h=>by simpa[RD] using h
 | .str _,_,h=>by simpa[RD] using h
 | .fn _,_,h=>by rw[RD] at h ⊢;exact h
 | .exc _,_,h=>by
  rw[RD] at h ⊢;obtain⟨ea,C,h1,h2,h3⟩:=h;exact⟨ea,C,h1,e _ _ h2,h3⟩
 | .tup ds,_,h=>by
  rw[RD] at h ⊢;obtain⟨a,xs,h1,h2,h3⟩:=h;exact⟨a,xs,h1,z0F e h2,RDs.same e ds h3⟩
 | .lst ds,_,h=>by
  rw[RD] at h ⊢;obtain⟨a,xs,h1,h2,h3⟩:=h;exact⟨a,xs,h1,z13 e h2,RDs.same e ds h3⟩
 | .dct ks vs,_,h=>by
  rw[RD] at h ⊢;obtain⟨a,xs,h1,h3,h4⟩:=h;refine⟨a,xs,h1,RDs.same e vs h3,?_⟩
  rcases h4 with ⟨kvs,q,r⟩ | ⟨kvs,q,r⟩
  .exact .inl ⟨kvs,e _ _ q,r⟩
  .exact .inr ⟨kvs,e _ _ q,r⟩
theorem RDs.same (e:Same G G'):∀(ds:List D) {xs:List V},RDs K mg G ds xs->RDs K mg G' ds xs
 | [],_,h=>by simpa[RDs] using h
 | d::ds,_,h=>by
  rw[RDs] at h ⊢;obtain⟨x,r,h1,h2,h3⟩:=h;exact⟨x,r,h1,RD.same e d h2,RDs.same e ds h3⟩
end
def RDs.nil:RDs K mg G [] []:=by rw[RDs]
def RDs.cons {d:D}{v:V}{ds:List D}{vs:List V}(h:RD K mg G d v)(t:RDs K mg G ds vs):RDs K mg G (d::ds) (v::vs):=by rw[RDs];exact⟨v,vs,rfl,h,t⟩
theorem RDs.len:∀{ds:List D}{vs:List V},RDs K mg G ds vs->vs.length=ds.length
 | [],_,h=>by rw[RDs] at h;subst h;rfl
 | _::_,_,h=>by
  rw[RDs] at h;obtain⟨x,r,rfl,_,h3⟩:=h;simp[RDs.len h3]
theorem RDs.app:∀{ds es:List D}{vs us:List V},RDs K mg G ds vs->RDs K mg G es us->RDs K mg G (ds++es) (vs++us)
 | [],_,_,_,h,k=>by rw[RDs] at h;subst h;exact k
 | _::_,_,_,_,h,k=>by
  rw[RDs] at h;obtain⟨x,r,rfl,h2,h3⟩:=h;exact RDs.cons h2 (RDs.app h3 k)
theorem RDs.get:∀{ds:List D}{vs:List V}{i:Nat}{d:D},RDs K mg G ds vs->ds[i]? = some d->∃v,vs[i]? = some v/\RD K mg G d v
 | [],_,_,_,_,e=>by simp at e
 | _::_,_,0,_,h,e=>by
  rw[RDs] at h;obtain⟨x,r,rfl,h2,h3⟩:=h;simp at e;subst e;exact⟨x,rfl,h2⟩
 | _::_,_,i+1,_,h,e=>by
  rw[RDs] at h;obtain⟨x,r,rfl,h2,h3⟩:=h;obtain⟨v,e1,e2⟩:=RDs.get (i:=i) h3 (by simpa using e);exact⟨v,by simpa using e1,e2⟩
theorem RDs.getV:∀{ds:List D}{vs:List V}{i:Nat}{v:V},RDs K mg G ds vs->vs[i]? = some v->∃d,ds[i]? = some d/\RD K mg G d v
 | [],_,_,_,h,e=>by rw[RDs] at h;subst h;simp at e
 | _::_,_,0,_,h,e=>by
  rw[RDs] at h;obtain⟨x,r,rfl,h2,h3⟩:=h;simp at e;subst e;exact⟨_,rfl,h2⟩
 | _::_,_,i+1,_,h,e=>by
  rw[RDs] at h;obtain⟨x,r,rfl,h2,h3⟩:=h;obtain⟨v,e1,e2⟩:=RDs.getV (i:=i) h3 (by simpa using e);exact⟨v,by simpa using e1,e2⟩
theorem RDs.take:∀{ds:List D}{vs:List V}(n:Nat),RDs K mg G ds vs->RDs K mg G (ds.take n) (vs.take n)
 | _,_,0,_=>by simp;exact RDs.nil
 | [],_,_+1,h=>by rw[RDs] at h;subst h;exact RDs.nil
 | _::_,_,n+1,h=>by
  rw[RDs] at h;obtain⟨x,r,rfl,h2,h3⟩:=h;exact RDs.cons h2 (RDs.take n h3)
theorem RDs.drop:∀{ds:List D}{vs:List V}(n:Nat),RDs K mg G ds vs->RDs K mg G (ds.drop n) (vs.drop n)
 | _,_,0,h=>by simpa using h
 | [],_,_+1,h=>by rw[RDs] at h;subst h;exact RDs.nil
 | _::_,_,n+1,h=>by
  rw[RDs] at h;obtain⟨x,r,rfl,h2,h3⟩:=h;exact RDs.drop n h3
def RDs.rev {vs:List V}(h:RDs K mg G ds vs):RDs K mg G ds.reverse vs.reverse:=by
 induction ds generalizing vs with
 | nil=>rw[RDs] at h;subst h;exact RDs.nil
 | cons d ds ih=>
  rw[RDs] at h;obtain⟨x,r,rfl,h2,h3⟩:=h;rw[uC,uC];exact RDs.app (ih h3) (RDs.cons h2 RDs.nil)
theorem RDs.at {ds:List D}{vs:List V}{i:Int}{d:D}(h:RDs K mg G ds vs)(e:atI ds i=some d):∃v,atI vs i=some v/\RD K mg G d v:=by
 unfold atI at e ⊢;rw[h.len]
 cases q:ixN ds.length i with
 | none=>rw[q] at e;cases e
 | some j=>
  rw[q] at e;exact h.get e
def RDs.cut {ds:List D}{vs:List V}(lo hi:Option Int)(h:RDs K mg G ds vs):RDs K mg G ((ds.drop (HT.sIx ds.length 0 lo)).take (HT.sIx ds.length ds.length hi - HT.sIx ds.length 0 lo)) (cutV vs lo hi):=by
 unfold cutV;rw[h.len];exact(h.drop _).take _
end
inductive B where
 | n | s (d:D) | o (d:D)
abbrev Env:=List B
def B.get:B->Option D
 | .n=>none
 | .s d=>some d
 | .o d=>some d
def Env.get (ρ:Env)(i:Nat):Option D:=match ρ,i with
 | [],_=>none
 | b::_,0=>b.get
 | _::r,i+1=>Env.get r i
theorem Env.get_eq:∀(ρ:Env) (i:Nat),Env.get ρ i=(ρ[i]?).bind B.get
 | [],i=>by simp[Env.get]
 | b::r,0=>by simp[Env.get]
 | b::r,i+1=>by simp[Env.get,Env.get_eq r i]
abbrev DK:=D->Prop
abbrev XP:=Str->Prop
structure Fn where
 run:List D->DK->XP->Prop
 mono:∀ds (Q Q':DK) (X X':XP),(∀d,Q d->Q' d)->(∀x,X x->X' x)->run ds Q X->run ds Q' X'
structure Ex where
 run:Env->DK->XP->Prop
 mono:∀ρ (Q Q':DK) (X X':XP),(∀d,Q d->Q' d)->(∀x,X x->X' x)->run ρ Q X->run ρ Q' X'
structure Sm where
 run:Env->(Env->Prop)->DK->XP->Prop
 mono:∀ρ (N N':Env->Prop) (Q Q':DK) (X X':XP),(∀ρ,N ρ->N' ρ)->(∀d,Q d->Q' d)->(∀x,X x->X' x)->run ρ N Q X->run ρ N' Q' X'
def onV (o:Option D)(Q:DK):Prop:=match o with
 | some d=>Q d
 | none=>False
def Ex.c (d:D):Ex:=⟨λ_ Q _=>Q d,λ_ _ _ _ _ m _ q=>m _ q⟩
def Ex.v (i:Nat):Ex:=⟨λρ Q _=>onV (ρ.get i) Q,λρ Q Q' _ _ m _ q=>by
 show onV (ρ.get i) Q';have q':onV (ρ.get i) Q:=q
 cases e:ρ.get i with
 | none=>rw[e] at q';exact q'
 | some d=>rw[e] at q';exact m _ q'⟩
def runs:List Ex->Env->(List D->Prop)->XP->Prop
 | [],_,Q,_=>Q []
 | e::es,ρ,Q,X=>e.run ρ (λd=>runs es ρ (λds=>Q (d::ds)) X) X
theorem z2N:∀(es:List Ex) (ρ:Env) (Q Q':List D->Prop) (X X':XP),(∀d,Q d->Q' d)->(∀x,X x->X' x)->runs es ρ Q X->runs es ρ Q' X'
 | [],_,_,_,_,_,m,_,q=>m _ q
 | e::es,ρ,Q,Q',X,X',m,mx,q=>e.mono ρ _ _ X X' (λd q1=>z2N es ρ _ _ X X' (λds q2=>m _ q2) mx q1) mx q
def Ex.op (f:Fn)(es:List Ex):Ex:=⟨λρ Q X=>runs es ρ (λds=>f.run ds Q X) X,λρ Q Q' X X' m mx q=>z2N es ρ _ _ X X' (λds q1=>f.mono ds Q Q' X X' m mx q1) mx q⟩
def tst (d:D)(A B:Prop):Prop:=match d with
 | .bl b=>(b=true->A)/\(b=false->B)
 | _=>False
def z2T {A A' B B':Prop}(ha:A->A')(hb:B->B')(h:tst d A B):tst d A' B':=by
 cases d with
 | bl b=>exact⟨λe=>ha (h.1 e),λe=>hb (h.2 e)⟩
 | _=>exact h.elim
def z55 {A B:Prop}(h:tst d A B):∃b,d = .bl b/\(b=true->A)/\(b=false->B):=by
 cases d with
 | bl b=>exact⟨b,rfl,h⟩
 | _=>exact h.elim
def Ex.and (a b:Ex):Ex:=⟨λρ Q X=>a.run ρ (λd=>tst d (b.run ρ Q X) (Q (.bl false))) X,λρ Q Q' X X' m mx q=>a.mono ρ _ _ X X' (λd q1=>z2T (b.mono ρ Q Q' X X' m mx) (m _) q1) mx q⟩
def Ex.or (a b:Ex):Ex:=⟨λρ Q X=>a.run ρ (λd=>tst d (Q (.bl true)) (b.run ρ Q X)) X,λρ Q Q' X X' m mx q=>a.mono ρ _ _ X X' (λd q1=>z2T (m _) (b.mono ρ Q Q' X X' m mx) q1) mx q⟩
def Ex.not (a:Ex):Ex:=⟨λρ Q X=>a.run ρ (λd=>match d with | .bl b=>Q (.bl (!b)) | _=>False) X,λρ Q Q' X X' m mx q=>a.mono ρ _ _ X X' (λd q1=>by
 cases d with
 | bl b=>exact m _ q1
 | _=>exact q1.elim) mx q⟩
inductive Tg where
 | nm (i:Nat) | tp (is:List Nat)
def z1E:List Nat->List D->Env->Env
 | i::is,d::ds,ρ=>z1E is ds (ρ.set i (.s d))
 | _,_,ρ=>ρ
def Tg.put (t:Tg)(d:D)(ρ:Env)(K:Env->Prop):Prop:=match t,d with
 | .nm i,d=>K (ρ.set i (.s d))
 | .tp is,.tup ds=>is.length=ds.length/\K (z1E is ds ρ)
 | _,_=>False
def Tg.put_mono {t:Tg}{d:D}{ρ:Env}{K K':Env->Prop}(m:∀ρ,K ρ->K' ρ)(h:t.put d ρ K):t.put d ρ K':=by
 cases t with
 | nm i=>exact m _ h
 | tp is=>
  cases d with
  | tup ds=>exact⟨h.1,m _ h.2⟩
  | _=>exact h.elim
def z02:D->Option (List D)
 | .lst l=>some l
 | .tup l=>some l
 | _=>none
def onL (o:Option (List D))(Q:List D->Prop):Prop:=match o with
 | some l=>Q l
 | none=>False
def z5N (m:∀l,Q l->Q' l)(h:onL o Q):onL o Q':=by
 cases o with
 | none=>exact h
 | some l=>exact m _ h
def z2R (f:D->(Option D->Prop)->Prop):List D->(List D->Prop)->Prop
 | [],N=>N []
 | x::xs,N=>f x λo=>z2R f xs λr=>N (o.toList++r)
theorem z1T (hf:∀x K K',(∀o,K o->K' o)->f x K->f' x K'):∀(xs:List D) (N N':List D->Prop),(∀l,N l->N' l)->z2R f xs N->z2R f' xs N'
 | [],_,_,m,q=>m _ q
 | x::xs,N,N',m,q=>hf x _ _ (λo q1=>z1T hf xs _ _ (λr q2=>m _ q2) q1) q
def z0s (nt:Nat)(js:List Nat)(ρ:Env):Env:=List.replicate nt .n++js.map λj=>(ρ[j]?).getD .n
def z2G (t:Tg)(c:Option Ex)(elt:Ex)(ρ:Env)(x:D)(K:Option D->Prop):Prop:=
 t.put x ρ λρ'=>match c with
  | none=>elt.run ρ' (λd=>K (some d)) (λ_=>False)
  | some c=>c.run ρ' (λb=>tst b (elt.run ρ' (λd=>K (some d)) (λ_=>False)) (K none)) (λ_=>False)
def z2r {c:Option Ex}(x:D)(K K':Option D->Prop)(m:∀o,K o->K' o)(h:z2G t c elt ρ x K):z2G t c elt ρ x K':=by
 refine Tg.put_mono (λρ' q =>?_) h
 cases c with
 | none=>exact elt.mono ρ' _ _ _ _ (λd q1=>m _ q1) (λ_ z=>z) q
 | some c=>exact c.mono ρ' _ _ _ _ (λb q1=>z2T (elt.mono ρ' _ _ _ _ (λd q2=>m _ q2) (λ_ z=>z)) (m _) q1) (λ_ z=>z) q
def Ex.comp (nt:Nat)(js:List Nat)(t:Tg)(src:Ex)(c:Option Ex)(elt:Ex):Ex:=
 ⟨λρ Q X=>src.run ρ (λd=>onL (z02 d) λl=>l.length<sizeLine/\z2R (z2G t c elt (z0s nt js ρ)) l λr=>Q (.lst r)) X,λρ Q Q' X X' m mx q=>
  src.mono ρ _ _ X X' (λd q1=>z5N (λl q2=>⟨q2.1,z1T z2r l _ _ (λr q3=>m _ q3) q2.2⟩) q1) mx q⟩
def Sm.skip:Sm:=⟨λρ N _ _=>N ρ,λ_ _ _ _ _ _ _ m _ _ q=>m _ q⟩
def Sm.seq (a b:Sm):Sm:=⟨λρ N Q X=>a.run ρ (λρ'=>b.run ρ' N Q X) Q X,λρ N N' Q Q' X X' mn m mx q=>a.mono ρ _ _ Q Q' X X' (λρ' q1=>b.mono ρ' N N' Q Q' X X' mn m mx q1) m mx q⟩
mutual
def noL:D->Bool
 | .lst _=>false
 | .tup l=>noLs l
 | .dct ks vs=>noLs vs
 | _=>true
def noLs:List D->Bool
 | []=>true
 | d::ds=>noL d && noLs ds
end
mutual
def noD:D->Bool
 | .dct _ _=>false
 | .tup l=>noDs l
 | .lst l=>noDs l
 | _=>true
def noDs:List D->Bool
 | []=>true
 | d::ds=>noD d && noDs ds
end
def zfX (d:D):B->Prop
 | .o (.lst _)=>noL d=true
 | .o (.dct _ _)=>noD d=true
 | _=>True
def Safe (d:D):Env->Prop
 | []=>True
 | b::r=>zfX d b/\Safe d r
def zdk (d:D)(ρ:Env):Prop:=match d with
 | .lst l=>∀x∈l,Safe x ρ
 | .dct _ vs=>∀x∈vs,Safe x ρ
 | _=>False
def Sm.set (i:Nat)(e:Ex):Sm:=⟨λρ N _ X=>e.run ρ (λd=>Safe d (ρ.set i .n)/\N (ρ.set i (.s d))) X,λρ N N' Q Q' X X' mn m mx q=>e.mono ρ _ _ X X' (λd q1=>⟨q1.1,mn _ q1.2⟩) mx q⟩
def Sm.own (i:Nat)(e:Ex):Sm:=⟨λρ N _ X=>e.run ρ (λd=>zdk d (ρ.set i .n)/\N (ρ.set i (.o d))) X,λρ N N' Q Q' X X' mn m mx q=>e.mono ρ _ _ X X' (λd q1=>⟨q1.1,mn _ q1.2⟩) mx q⟩
def demB:B->B
 | .o d =>.s d
 | b=>b
def dem:List Nat->Env->Env
 | [],ρ=>ρ
 | j::js,ρ=>dem js (ρ.set j (demB ((ρ[j]?).getD .n)))
def visB:B->B
 | .o _ =>.n
 | b=>b
def vis (ρ:Env):Env:=ρ.map visB
def Sm.ifs (c:Ex)(a b:Sm):Sm:=⟨λρ N Q X=>c.run ρ (λd=>tst d (a.run ρ N Q X) (b.run ρ N Q X)) X,λρ N N' Q Q' X X' mn m mx q=>c.mono ρ _ _ X X' (λd q1=>z2T (a.mono ρ N N' Q Q' X X' mn m mx) (b.mono ρ N N' Q Q' X X' mn m mx) q1) mx q⟩
def Sm.ret (e:Ex):Sm:=⟨λρ _ Q X=>e.run ρ Q X,λρ N N' Q Q' X X' mn m mx q=>e.mono ρ _ _ X X' m mx q⟩
def Sm.ex (e:Ex):Sm:=⟨λρ N _ X=>e.run ρ (λ_=>N ρ) X,λρ N N' Q Q' X X' mn m mx q=>e.mono ρ _ _ X X' (λ_ q1=>mn _ q1) mx q⟩
def wh (c:Ex)(b:Sm)(N:Env->Prop)(Q:DK)(X:XP):Nat->Env->Prop
 | 0,_=>False
 | n+1,ρ=>c.run ρ (λd=>tst d (b.run ρ (wh c b N Q X n) Q X) (N ρ)) X
theorem z9q {c:Ex}(mn:∀ρ,N ρ->N' ρ)(m:∀d,Q d->Q' d)(mx:∀x,X x->X' x):∀(n:Nat) (ρ:Env),wh c b N Q X n ρ->wh c b N' Q' X' n ρ
 | 0,_,q=>q
 | n+1,ρ,q=>c.mono ρ _ _ X X' (λd q1=>z2T (b.mono ρ _ _ Q Q' X X' (λρ' q2=>z9q mn m mx n ρ' q2) m mx) (mn ρ) q1) mx q
def Sm.wh (c:Ex)(b:Sm):Sm:=⟨λρ N Q X=>∃n,Pu.wh c b N Q X n ρ,λρ N N' Q Q' X X' mn m mx ⟨n,q⟩=>⟨n,z9q mn m mx n ρ q⟩⟩
def forL (t:Tg)(b:Sm)(N:Env->Prop)(Q:DK)(X:XP):List D->Env->Prop
 | [],ρ=>N ρ
 | x::xs,ρ=>t.put x ρ λρ'=>b.run ρ' (forL t b N Q X xs) Q X
theorem z4z {t:Tg}{b:Sm}{N N':Env->Prop}{Q Q':DK}{X X':XP}(mn:∀ρ,N ρ->N' ρ)(m:∀d,Q d->Q' d)(mx:∀x,X x->X' x):∀(l:List D) (ρ:Env),forL t b N Q X l ρ->forL t b N' Q' X' l ρ
 | [],_,q=>mn _ q
 | x::xs,ρ,q=>Tg.put_mono (λρ' q1=>b.mono ρ' _ _ Q Q' X X' (λρ2 q2=>z4z mn m mx xs ρ2 q2) m mx q1) q
def Sm.for_ (js:List Nat)(t:Tg)(src:Ex)(b:Sm):Sm:=⟨λρ N Q X=>src.run (vis (dem js ρ)) (λd=>onL (z02 d) λl=>forL t b N Q X l (dem js ρ)) X,λρ N N' Q Q' X X' mn m mx q=>src.mono _ _ _ X X' (λd q1=>z5N (λl q2=>z4z mn m mx l _ q2) q1) mx q⟩
def onR (ds:List D)(K:List D->Prop):Prop:=match ds with
 | [.int j]=>(-(2 ^ 62)<=j/\j<2 ^ 62)/\K ((List.range j.toNat).map λ(k:Nat) =>.int (k:Int))
 | [.int i,.int j]=>((-(2 ^ 62)<=i/\i<2 ^ 62) /\ -(2 ^ 62)<=j/\j<2 ^ 62)/\K ((List.range (j - i).toNat).map λ(k:Nat) =>.int (i+(k:Int)))
 | _=>False
def zcy {ds:List D}{K K':List D->Prop}(m:∀l,K l->K' l)(h:onR ds K):onR ds K':=by
 unfold onR at h ⊢
 split at h
 .exact⟨h.1,m _ h.2⟩
 .exact⟨h.1,m _ h.2⟩
 .exact h.elim
def Sm.forr (es:List Ex)(t:Tg)(b:Sm):Sm:=⟨λρ N Q X=>runs es ρ (λds=>onR ds λl=>forL t b N Q X l ρ) X,λρ N N' Q Q' X X' mn m mx q=>z2N es ρ _ _ X X' (λd q1=>zcy (λl q2=>z4z mn m mx l _ q2) q1) mx q⟩
def ownL (ρ:Env)(i:Nat)(K:List D->Prop):Prop:=match ρ[i]? with
 | some (.o (.lst l))=>K l
 | _=>False
def z6O {ρ:Env}{i:Nat}{K K':List D->Prop}(m:∀l,K l->K' l)(h:ownL ρ i K):ownL ρ i K':=by
 unfold ownL at h ⊢
 split <;> rename_i e
 .rw[e] at h;exact m _ h
 .split at h
  .rename_i l e';exact(e l e').elim
  .exact h
def Sm.app (i:Nat)(e:Ex):Sm:=⟨λρ N _ X=>ownL ρ i λl=>e.run ρ (λd=>l.length<sizeLine/\Safe d ρ/\N (ρ.set i (.o (.lst (l++[d]))))) X,λρ N N' Q Q' X X' mn m mx q=>z6O (λl q1=>e.mono ρ _ _ X X' (λd q2=>⟨q2.1,q2.2.1,mn _ q2.2.2⟩) mx q1) q⟩
def popL (l:List D)(K:List D->D->Prop):Prop:=match l[l.length - 1]? with
 | some d=>K l.dropLast d
 | none=>False
def zad {K K':List D->D->Prop}(m:∀l d,K l d->K' l d)(h:popL l K):popL l K':=by
 unfold popL at h ⊢
 split <;> rename_i e
 .rw[e] at h;exact m _ _ h
 .rw[e] at h;exact h
def Sm.pop (i:Nat):Sm:=⟨λρ N _ _=>ownL ρ i λl=>popL l λl' _=>N (ρ.set i (.o (.lst l'))),λρ N N' Q Q' X X' mn m mx q=>z6O (λl q1=>zad (λ_ _ q2=>mn _ q2) q1) q⟩
def isLs (d:D)(K:List D->Prop):Prop:=match d with
 | .lst l=>K l
 | _=>False
def zaP {d:D}{K K':List D->Prop}(m:∀j,K j->K' j)(h:isLs d K):isLs d K':=by
 cases d with
 | lst l=>exact m _ h
 | _=>exact h.elim
def isI (d:D)(K:Int->Prop):Prop:=match d with
 | .int i=>K i
 | _=>False
def zcR {d:D}{K K':Int->Prop}(m:∀j,K j->K' j)(h:isI d K):isI d K':=by
 cases d with
 | int i=>exact m _ h
 | _=>exact h.elim
def Fn.mk' (np nn:Nat)(b:Sm):Fn:=⟨λds Q X=>ds.length=np/\b.run (ds.map B.s++List.replicate (nn - np) .n) (λ_=>Q .non) Q X,λds Q Q' X X' m mx q=>⟨q.1,b.mono _ _ _ Q Q' X X' (λ_ q1=>m _ q1) m mx q.2⟩⟩
def Fn.mkN (np nn:Nat)(b:Sm):Fn:=⟨λds Q _=>ds.length=np/\b.run (ds.map B.s++List.replicate (nn - np) .n) (λ_=>Q .non) Q (λ_=>False),λds Q Q' X X' m mx q=>⟨q.1,b.mono _ _ _ Q Q' _ _ (λ_ q1=>m _ q1) m (λ_ z=>z) q.2⟩⟩
def Sm.calm (b:Sm):Sm:=⟨λρ N Q _=>b.run ρ N Q (λ_=>False),λρ N N' Q Q' X X' mn m mx q=>b.mono ρ N N' Q Q' _ _ mn m (λ_ z=>z) q⟩
def AbE (K:W.Frag)(mg:WmP)(G:Hp)(ρ:Pu.Env)(σ:L2.St):Prop:=∀i d,ρ.get i=some d->∃v,σ[i]? = some (some v)/\RD K mg G d v
def Gr (G H G':Hp):Prop:=Same G G'/\∀a o,G' a=some o->(∃u,G a=some u)\/H a=none
def Gr.refl {G H:Hp}:Gr G H G:=⟨Same.refl',λa o e =>.inl ⟨o,e⟩⟩
def Gr.trans {G H G1 H1 G2:Hp}(h:Gr G H G1)(k:Same H H1)(h':Gr G1 H1 G2):Gr G H G2:=⟨z01 h.1 h'.1,λa o e=>by
 rcases h'.2 a o e with ⟨u,q⟩ | q
 .exact h.2 a u q
 .refine .inr ?_
  cases z:H a with
  | none=>rfl
  | some w=>rw[k a w z] at q;cases q⟩
def Gr.new {G H:Hp}{p:Addr}{o:HO}(g:Same G H)(hp:H p=none):Gr G H (upd G p o):=by
 have gp:G p=none:=by
  cases e:G p with
  | none=>rfl
  | some u=>rw[g p u e] at hp;cases hp
 refine⟨z0i gp o,λa u e =>?_⟩
 by_cases ha:a=p
 .subst ha;exact .inr hp
 .rw[z05 ha] at e;exact .inl ⟨u,e⟩
def Kt (K:W.Frag)(mg:WmP)(G H:Hp)(Q0:DK)(Q:VK):Prop:=∀d v G' H',Q0 d->Gr G H G'->Same G' H'->Same H H'->RD K mg G' d v->Q v H'
def Kts (K:W.Frag)(mg:WmP)(G H:Hp)(Q0:List D->Prop)(Q:List V->Hp->Prop):Prop:=∀ds vs G' H',Q0 ds->Gr G H G'->Same G' H'->Same H H'->RDs K mg G' ds vs->Q vs H'
def Kx (mg:WmP)(H:Hp)(X0:XP)(E:XK):Prop:=∀x C H',X0 x->mg x=some (.ref C)->Same H H'->E (.ref C) none H'
def tx (K:W.Frag)(mg:WmP)(E:XK)(e:Ex):TE:=λσ H Q=>∃G ρ Q0 X0,Same G H/\AbE K mg G ρ σ/\e.run ρ Q0 X0/\Kt K mg G H Q0 Q/\Kx mg H X0 E
def txa (K:W.Frag)(mg:WmP)(E:XK)(es:List Ex):TA:=λσ H Q=>∃G ρ Q0 X0,Same G H/\AbE K mg G ρ σ/\runs es ρ Q0 X0/\Kts K mg G H Q0 Q/\Kx mg H X0 E
def tt (K:W.Frag)(mg:WmP)(E:XK)(e:Ex):TT:=λσ H Q=>∃G ρ Q0 X0,Same G H/\AbE K mg G ρ σ/\e.run ρ Q0 X0/\(∀d G' H',Q0 d->Gr G H G'->Same G' H'->Same H H'->∃b,d = .bl b/\Q b H')/\Kx mg H X0 E
section
variable {K:W.Frag}{mg:WmP}{G G' H H':Hp}{ρ:Pu.Env}{σ:L2.St}{Q0:DK}{Q:VK}{X0:XP}{E:XK}
theorem AbE.same (h:AbE K mg G ρ σ)(g:Same G G'):AbE K mg G' ρ σ:=λi d e=>by
 obtain⟨v,h1,h2⟩:=h i d e;exact⟨v,h1,h2.same g⟩
def Kt.same (h:Kt K mg G H Q0 Q)(g:Gr G H G')(k:Same H H'):Kt K mg G' H' Q0 Q:=λd v G1 H1 q a b c r=>h d v G1 H1 q (g.trans k a) b (z01 k c) r
def Kx.same (h:Kx mg H X0 E)(k:Same H H'):Kx mg H' X0 E:=λx C H1 q m c=>h x C H1 q m (z01 k c)
def Kx.no:Kx mg H (λ_=>False) E:=λ_ _ _ z=>z.elim
def Kt.now {d:D}{v:V}(h:Kt K mg G H Q0 Q)(g:Same G H)(q:Q0 d)(r:RD K mg G d v):Q v H:=h d v G H q Gr.refl g Same.refl' r
theorem Kt.new {d:D}{p:Addr}{o:HO}{v:V}(h:Kt K mg G H Q0 Q)(g:Same G H)(hp:H p=none)(q:Q0 d)(r:RD K mg (upd G p o) d v):Q v (upd H p o):=by
 have gp:G p=none:=by
  cases e:G p with
  | none=>rfl
  | some u=>rw[g p u e] at hp;cases hp
 refine h d v (upd G p o) (upd H p o) q (Gr.new g hp) (λb u e =>?_) (z0i hp o) r
 by_cases hb:b=p
 .subst hb;rw[z0b] at e ⊢;exact e
 .rw[z05 hb] at e ⊢;exact g b u e
def z0Y (g:Same G H){p:Addr}(hp:H p=none):G p=none:=by
 cases e:G p with
 | none=>rfl
 | some u=>rw[g p u e] at hp;cases hp
end
def Lk2 (K:W.Frag)(mg:WmP)(F:Fn)(r:R2):Prop:=∀(G H:Hp) (d1 d2:D) (v1 v2:V) (Q0:DK) (X0:XP) (Q:VK),Same G H->RD K mg G d1 v1->RD K mg G d2 v2->F.run [d1,d2] Q0 X0->Kt K mg G H Q0 Q->r v1 v2 H Q
def Lk1 (K:W.Frag)(mg:WmP)(F:Fn)(r:V->Hp->VK->Prop):Prop:=∀(G H:Hp) (d:D) (v:V) (Q0:DK) (X0:XP) (Q:VK),Same G H->RD K mg G d v->F.run [d] Q0 X0->Kt K mg G H Q0 Q->r v H Q
def LkN (K:W.Frag)(mg:WmP)(F:Fn)(r:List V->Hp->VK->Prop):Prop:=∀(G H:Hp) (ds:List D) (vs:List V) (Q0:DK) (X0:XP) (Q:VK),Same G H->RDs K mg G ds vs->F.run ds Q0 X0->Kt K mg G H Q0 Q->r vs H Q
section
variable {K:W.Frag}{mg:WmP}{E:XK}{σ:L2.St}{H:Hp}{Q:VK}{a b c:Ex}{F:Fn}{es:List Ex}
def tx2 (lk:Lk2 K mg F r)(h:tx K mg E (.op F [a,b]) σ H Q):tOp r (tx K mg E a) (tx K mg E b) σ H Q:=by
 k_all;refine⟨G,ρ,λd=>b.run ρ (λd'=>F.run [d,d'] Q0 X0) X0,X0,hs,ab,hr,?_,hx⟩;intro d v G1 H1 hb g1 g2 g3 rd;refine⟨G1,ρ,λd'=>F.run [d,d'] Q0 X0,X0,g2,ab.same g1.1,hb,?_,hx.same g3⟩;intro d' v' G2 H2 hF k1 k2 k3 rd';exact lk G2 H2 d d' v v' Q0 X0 Q k2 (rd.same k1.1) rd' hF (hk.same (g1.trans g3 k1) (z01 g3 k3))
def tx1 (lk:Lk1 K mg F r)(h:tx K mg E (.op F [a]) σ H Q):tUn r (tx K mg E a) σ H Q:=by
 k_all;refine⟨G,ρ,λd=>F.run [d] Q0 X0,X0,hs,ab,hr,?_,hx⟩;intro d v G1 H1 hF g1 g2 g3 rd;exact lk G1 H1 d v Q0 X0 Q g2 rd hF (hk.same g1 g3)
def txN (lk:LkN K mg F r)(h:tx K mg E (.op F es) σ H Q):tCB r (txa K mg E es) σ H Q:=by
 k_all;refine⟨G,ρ,λds=>F.run ds Q0 X0,X0,hs,ab,hr,?_,hx⟩;intro ds vs G1 H1 hF g1 g2 g3 rd;exact lk G1 H1 ds vs Q0 X0 Q g2 rd hF (hk.same g1 g3)
end
theorem QE.imp {X:Cx}{e:Expr}{t t':TE}(h:QE X e t)(i:∀σ H Q,t' σ H Q->t σ H Q):QE X e t':=⟨h.p.imp i⟩
def QT.imp {X:Cx}{e:Expr}{t t':TT}(h:QT X e t)(i:∀σ H Q,t' σ H Q->t σ H Q):QT X e t':=⟨λpins s σ H Q I q=>h.p pins s σ H Q I (i σ H Q q)⟩
def QA.imp {X:Cx}{e:List Expr}{t t':TA}(h:QA X e t)(i:∀σ H Q,t' σ H Q->t σ H Q):QA X e t':=⟨λpos pins s σ H Q I q=>h.p pos pins s σ H Q I (i σ H Q q)⟩
def QW.imp {X:Cx}{e:Expr}{t t':TT}(h:QW X e t)(i:∀σ H Q,t' σ H Q->t σ H Q):QW X e t':=⟨λw pins s σ H Q I q=>h.p w pins s σ H Q I (i σ H Q q)⟩
def QS.imp {X:Cx}{e:Stmt}{t t':TS}(h:QS X e t)(i:∀D σ H,t' D σ H->t D σ H):QS X e t':=⟨λpins s σ H D I q=>h.p pins s σ H D I (i D σ H q)⟩
def QSs.imp {X:Cx}{e:List Stmt}{t t':TS}(h:QSs X e t)(i:∀D σ H,t' D σ H->t D σ H):QSs X e t':=⟨λpins s σ H D I q=>h.p pins s σ H D I (i D σ H q)⟩
def QI.imp {X:Cx}{tg e:Expr}{t t':TI}(h:QI X tg e t)(i:∀σ H R,t' σ H R->t σ H R):QI X tg e t':=⟨λpins s σ H R I q=>h.p pins s σ H R I (i σ H R q)⟩
abbrev QX (X:Cx)(E:XK)(e:Expr)(x:Ex):Prop:=QE X e (tx X.K X.mg E x)
abbrev QXT (X:Cx)(E:XK)(e:Expr)(x:Ex):Prop:=QT X e (tt X.K X.mg E x)
abbrev QXW (X:Cx)(E:XK)(e:Expr)(x:Ex):Prop:=QW X e (tt X.K X.mg E x)
abbrev QXA (X:Cx)(E:XK)(es:List Expr)(x:List Ex):Prop:=QA X es (txa X.K X.mg E x)
section
variable {X:Cx}{E:XK}{e a b c:Expr}{x y z:Ex}{pos:Pos}{es:List Expr}{xs:List Ex}{rest:List Expr}
def qx_c {v:V}(h:QE X e (tC v))(r:∀G,RD X.K X.mg G d v):QX X E e (.c d):=QE.imp h <| by rintro σ H Q ⟨G,ρ,Q0,X0,hs,ab,hr,hk,hx⟩;exact hk.now hs hr (r G)
def qx_v (h:QE X e (tVar i)):QX X E e (.v i):=QE.imp h <| by
 kt_k;have hr':onV (ρ.get i) Q0:=hr
 cases q:ρ.get i with
 | none=>rw[q] at hr';exact hr'.elim
 | some d=>
  rw[q] at hr';obtain⟨v,h1,h2⟩:=ab i d q;exact⟨v,h1,hk.now hs hr' h2⟩
def zgq:QX X E (.Constant (.int i) j pos) (.c (.int i)):=qx_c zgO λ_=>by rw[RD]
def ziN:QX X E (.Constant (.bool i) j pos) (.c (.bl i)):=qx_c ziX λ_=>by rw[RD]
def zgo:QX X E (.Constant .none j pos) (.c .non):=qx_c zgL λ_=>by rw[RD]
def zgu {op:Operator}(ho:OpR X (binaryOp op) r)(lk:Lk2 X.K X.mg F r)(ha:QX X E a x)(hb:QX X E b y):QX X E (.BinOp a op b pos) (.op F [x,y]):=QE.imp (ziT ho ha hb) λ_ _ _ h=>tx2 lk h
def ziG {op:UnaryOp}(ho:UnR X (unaryOp op) r)(lk:Lk1 X.K X.mg F r)(ha:QX X E a x):QX X E (.UnaryOp op a pos) (.op F [x]):=QE.imp (ziR ho ha) λ_ _ _ h=>tx1 lk h
def zgt {op:CmpOp}(ho:OpR X (compareOp op) r)(lk:Lk2 X.K X.mg F r)(ha:QX X E a x)(hb:QX X E b y)(hm:behindInMarks op b=false):QX X E (.Compare a [op] [b] pos) (.op F [x,y]):=QE.imp (zeF ho ha hb hm) λ_ _ _ h=>tx2 lk h
def ze4 (m:∀Q,tx X.K X.mg E x σ H Q->t σ H Q)(h:tt X.K X.mg E x σ H Q):zea t σ H Q:=by
 k_all;refine m _ ⟨G,ρ,Q0,X0,hs,ab,hr,λd v G' H' q g1 g2 g3 rd =>?_,hx⟩;obtain⟨b,rfl,q'⟩:=hk d G' H' q g1 g2 g3;rw[RD] at rd;exact⟨b,rd,q'⟩
def zgB {op:CmpOp}(ho:OpR X (compareOp op) r)(lk:Lk2 X.K X.mg F r)(ha:QX X E a x)(hb:QX X E b y)(hm:behindInMarks op b=false):QXT X E (.Compare a [op] [b] pos) (.op F [x,y]):=QT.imp (zew ho ha hb hm) λσ H Q h=>ze4 (λ_ h=>tx2 lk h) h
def zev (h:QX X E e x)(he:∀whole,isTrue e X.env whole=(do let v <- whole;standAt e.pos;holding [v] (truthy v)):=by intro _;rfl):QXT X E e x:=QT.imp (zgz h he) λσ H Q h=>by
 k_all;refine⟨G,ρ,Q0,X0,hs,ab,hr,λd v G' H' q g1 g2 g3 rd =>?_,hx⟩;obtain⟨b,rfl,q'⟩:=hk d G' H' q g1 g2 g3;rw[RD] at rd;exact⟨b,rd,q'⟩
def zgn (ha:QX X E a x):QX X E (.UnaryOp .Not a pos) (.not x):=QE.imp (zgK ha) <| by
 kt_k;refine⟨G,ρ,_,X0,hs,ab,hr,λd v G' H' q g1 g2 g3 rd =>?_,hx⟩
 cases d with
 | bl b=>
  rw[RD] at rd;exact⟨b,rd,hk (.bl !b) (.bl !b) G' H' q g1 g2 g3 (by rw[RD])⟩
 | _=>exact q.elim
def zeu (ha:QXT X E a x):QXT X E (.UnaryOp .Not a pos) (.not x):=QT.imp (zgA ha) <| by
 kt_k;refine⟨G,ρ,_,X0,hs,ab,hr,λd G' H' q g1 g2 g3 =>?_,hx⟩
 cases d with
 | bl b=>
  obtain⟨b',e,q'⟩:=hk (.bl !b) G' H' q g1 g2 g3
  cases e
  exact⟨b,rfl,q'⟩
 | _=>exact q.elim
def zgm {op}(h:QX X E a x):QX X E (.BoolOp op [a] pos) x:=zgJ h
def zgv (ha:QX X E a x)(hb:QX X E (.BoolOp .And (b::rest) pos) y):QX X E (.BoolOp .And (a::b::rest) pos) (.and x y):=QE.imp (zgQ ha hb) <| by
 kt_k;refine⟨G,ρ,_,X0,hs,ab,hr,λd v G' H' q g1 g2 g3 rd =>?_,hx⟩;obtain⟨k,rfl,q1,q2⟩:=z55 q;rw[RD] at rd;refine⟨k,rd,?_⟩
 cases k with
 | true=>exact iteT ⟨G',ρ,Q0,X0,g2,ab.same g1.1,q1 rfl,hk.same g1 g3,hx.same g3⟩
 | false=>exact iteF (hk (.bl false) (.bl false) G' H' (q2 rfl) g1 g2 g3 (by rw[RD]))
def ziI (ha:QX X E a x)(hb:QX X E (.BoolOp .Or (b::rest) pos) y):QX X E (.BoolOp .Or (a::b::rest) pos) (.or x y):=QE.imp (ziS ha hb) <| by
 kt_k;refine⟨G,ρ,_,X0,hs,ab,hr,λd v G' H' q g1 g2 g3 rd =>?_,hx⟩;obtain⟨k,rfl,q1,q2⟩:=z55 q;rw[RD] at rd;refine⟨k,rd,?_⟩
 cases k with
 | true=>exact iteT (hk (.bl true) (.bl true) G' H' (q1 rfl) g1 g2 g3 (by rw[RD]))
 | false=>exact iteF ⟨G',ρ,Q0,X0,g2,ab.same g1.1,q2 rfl,hk.same g1 g3,hx.same g3⟩
def zc9 (ha:QXT X E a x):QXW X E (.BoolOp .And [a] pos) x:=zet ha
def zer (ha:QXT X E a x):QXW X E (.BoolOp .Or [a] pos) x:=zgx ha
def zes (ha:QXT X E a x)(hb:QXW X E (.BoolOp .And (b::rest) pos) y):QXW X E (.BoolOp .And (a::b::rest) pos) (.and x y):=QW.imp (zgy ha hb) <| by
 kt_k;refine⟨G,ρ,_,X0,hs,ab,hr,λd G' H' q g1 g2 g3 =>?_,hx⟩;obtain⟨k,rfl,q1,q2⟩:=z55 q;refine⟨k,rfl,?_⟩
 cases k with
 | true=>exact iteT ⟨G',ρ,Q0,X0,g2,ab.same g1.1,q1 rfl,λd G2 H2 q k1 k2 k3=>hk d G2 H2 q (g1.trans g3 k1) k2 (z01 g3 k3),hx.same g3⟩
 | false=>
  obtain⟨b',e,q'⟩:=hk (.bl false) G' H' (q2 rfl) g1 g2 g3
  cases e
  exact iteF q'
def zgw (ha:QXT X E a x)(hb:QXW X E (.BoolOp .Or (b::rest) pos) y):QXW X E (.BoolOp .Or (a::b::rest) pos) (.or x y):=QW.imp (ziP ha hb) <| by
 kt_k;refine⟨G,ρ,_,X0,hs,ab,hr,λd G' H' q g1 g2 g3 =>?_,hx⟩;obtain⟨k,rfl,q1,q2⟩:=z55 q;refine⟨k,rfl,?_⟩
 cases k with
 | false=>exact iteF ⟨G',ρ,Q0,X0,g2,ab.same g1.1,q2 rfl,λd G2 H2 q k1 k2 k3=>hk d G2 H2 q (g1.trans g3 k1) k2 (z01 g3 k3),hx.same g3⟩
 | true=>
  obtain⟨b',e,q'⟩:=hk (.bl true) G' H' (q1 rfl) g1 g2 g3
  cases e
  exact iteT q'
def zep:QXA X E [] []:=QA.imp z8d <| by rintro σ H Q ⟨G,ρ,Q0,X0,hs,ab,hr,hk,hx⟩;exact hk [] [] G H hr Gr.refl hs Same.refl' RDs.nil
def zc7 (ha:QX X E e x)(hr:QXA X E es xs)(hs:starEach (e::es) X.env=(false,eval e X.env)::starEach es X.env:=by rfl):QXA X E (e::es) (x::xs):=QA.imp (z4p ha hr hs) <| by
 kt_k;refine⟨G,ρ,_,X0,hs,ab,hr,λd v G' H' q g1 g2 g3 rd =>?_,hx⟩;refine⟨G',ρ,_,X0,g2,ab.same g1.1,q,λds vs G2 H2 q' k1 k2 k3 rds =>?_,hx.same g3⟩;exact hk (d::ds) (v::vs) G2 H2 q' (g1.trans g3 k1) k2 (z01 g3 k3) (RDs.cons (rd.same k1.1) rds)
def spP (K:W.Frag)(mg:WmP)(F:Fn):Sp:=λvs H Q E=>∃G ds Q0 X0,Same G H/\RDs K mg G ds vs/\F.run ds Q0 X0/\Kt K mg G H Q0 Q/\Kx mg H X0 E
def ziK {k:Nat}{ps:List Str}(C:Cal X.prog X.w X.K X.mg X.base CX k f ps (spP X.K X.mg F))(hr:Room k X.A)(hx:z3E CX X E)(ha:QXA X E (e::es) xs)(hg:Gl X f:=by rfl)
  (hdb:(f == ("__debug__":Str))=false:=by decide) (he:starEach (e::es) X.env=(false,eval e X.env)::starEach es X.env:=by rfl) (hpl:(backTo pos (starEach es X.env)).any (·.1)=false:=by rfl):QX X E (.Call (.Name f pp) (e::es) [] pos) (.op F xs):=
 QE.imp (ziV C hr hx ha hg hdb he hpl) <| by
  kt_k;refine⟨G,ρ,_,X0,hs,ab,hr,λds vs G' H' q g1 g2 g3 rds =>?_,hx⟩;show spP X.K X.mg F (vs++[]) H' Q E;rw[v6];exact⟨G',ds,Q0,X0,g2,rds,q,hk.same g1 g3,hx.same g3⟩
def ziL {f:Str}{id:String}(hc:z1n X (.builtin id) r)(lk:LkN X.K X.mg F r)(hg:Gl X f)(hm:X.mg f=none)(hv:bootBuiltins f=some (.builtin id))(ha:QXA X E (e::es) xs)(hn:f≠"__name__":=by decide)(hdb:(f == ("__debug__":Str))=false:=by decide)
  (he:starEach (e::es) X.env=(false,eval e X.env)::starEach es X.env:=by rfl) (hpl:(backTo pos (starEach es X.env)).any (·.1)=false:=by rfl):QX X E (.Call (.Name f pp) (e::es) [] pos) (.op F xs):=
 QE.imp (z5I hc hg hm hv ha hn hdb he hpl) λ_ _ _ h=>txN lk h
def zgs {f:Str}{id:String}(hc:z1n X (.type id) r)(lk:LkN X.K X.mg F r)(hg:Gl X f)(hm:X.mg f=none)(hv:bootBuiltins f=some (.type id))(ha:QXA X E (e::es) xs)(hn:f≠"__name__":=by decide)(hdb:(f == ("__debug__":Str))=false:=by decide)
  (he:starEach (e::es) X.env=(false,eval e X.env)::starEach es X.env:=by rfl) (hpl:(backTo pos (starEach es X.env)).any (·.1)=false:=by rfl):QX X E (.Call (.Name f pp) (e::es) [] pos) (.op F xs):=
 QE.imp (z2O hc hg hm hv ha hn hdb he hpl) λ_ _ _ h=>txN lk h
end
def z4J (K:W.Frag)(mg:WmP)(G H:Hp)(a:Addr):D->Prop
 | .lst ds=>∃xs,H a=some (.lst xs)/\RDs K mg G ds xs
 | .dct ks vs=>∃xs,RDs K mg G vs xs/\((∃kvs:List (Key × V),H a=some (.dK kvs)/\ks=kvs.map (λp=>kD p.1)/\xs=kvs.map (·.2))\/∃kvs:List (List Key × V),H a=some (.dT kvs)/\ks=kvs.map (λp =>.tup (p.1.map kD))/\xs=kvs.map (·.2))
 | _=>False
structure AbS (K:W.Frag)(mg:WmP)(H0 G0 G:Hp)(ρ:Pu.Env)(σ:L2.St)(H:Hp):Prop where
 len:σ.length=ρ.length
 s0:Same H0 H
 g0:Same G0 G
 g:Same G H
 nw:∀a o,G a=some o->(∃u,G0 a=some u)\/H0 a=none
 sh:∀(i:Nat) (d:D),ρ[i]? = some (B.s d)->∃v,σ[i]? = some (some v)/\RD K mg G d v
 ow:∀(i:Nat) (d:D),ρ[i]? = some (B.o d)->∃a,σ[i]? = some (some (V.ref a))/\G a=none/\H0 a=none/\z4J K mg G H a d
 ne:∀(i j:Nat) (d d':D) (a:Addr),i≠j->ρ[i]? = some (B.o d)->ρ[j]? = some (B.o d')->σ[i]? = some (some (V.ref a))->σ[j]? = some (some (V.ref a))->False
open Classical in
def plus (G H:Hp)(O:Addr->Prop):Hp:=λa=>if O a then H a else G a
open Classical in
def minus (G:Hp)(O:Addr->Prop):Hp:=λa=>if O a then none else G a
section
variable {K:W.Frag}{mg:WmP}{H0 G0 G G' H H' H1:Hp}{ρ:Pu.Env}{σ:L2.St}{O:Addr->Prop}
def z3J (g:Same G H):Same (plus G H O) H:=λa o e=>by
 unfold plus at e
 split at e
 .exact e
 .exact g a o e
def z2B (h:∀a,O a->G a=none):Same G (plus G H O):=λa o e=>by
 unfold plus
 split
 .rename_i z;rw[h a z] at e;cases e
 .exact e
def zae (h:O a):plus G H O a=H a:=by unfold plus;rw[if_pos h]
def z2g:Same (minus G O) G:=λa o e=>by
 unfold minus at e
 split at e
 .cases e
 .exact e
def z4e (h:O a):minus G O a=none:=by unfold minus;rw[if_pos h]
def z71 (h:¬ O a):minus G O a=G a:=by unfold minus;rw[if_neg h]
def z3t (g:Same G G')(h:∀a,O a->G a=none):Same G (minus G' O):=λa o e=>by
 by_cases z:O a
 .rw[h a z] at e;cases e
 .rw[z71 z];exact g a o e
theorem z4J.same (h:z4J K mg G H a d)(g:Same G G')(k:∀o,H a=some o->H1 a=some o):z4J K mg G' H1 a d:=by
 cases d with
 | lst ds=>
  obtain⟨xs,h1,h2⟩:=h;exact⟨xs,k _ h1,h2.same g⟩
 | dct ks vs=>
  obtain⟨xs,h1,h2⟩:=h;refine⟨xs,h1.same g,?_⟩
  rcases h2 with ⟨kvs,q,r⟩ | ⟨kvs,q,r⟩
  .exact .inl ⟨kvs,k _ q,r⟩
  .exact .inr ⟨kvs,k _ q,r⟩
 | _=>exact h.elim
theorem z4J.some {a:Addr}{d:D}(h:z4J K mg G H a d):∃o,H a=some o:=by
 cases d with
 | lst ds=>obtain⟨xs,h1,h2⟩:=h;exact⟨_,h1⟩
 | dct ks vs=>
  obtain⟨xs,h1,h2⟩:=h
  rcases h2 with ⟨kvs,q,r⟩ | ⟨kvs,q,r⟩ <;> exact⟨_,q⟩
 | _=>exact h.elim
def z4J.rd {a:Addr}{d:D}(h:z4J K mg G H a d)(g:Same G G')(e:G' a=H a):RD K mg G' d (.ref a):=by
 cases d with
 | lst ds=>
  obtain⟨xs,h1,h2⟩:=h;rw[RD];exact⟨a,xs,rfl,SqL.of (e.trans h1),h2.same g⟩
 | dct ks vs=>
  obtain⟨xs,h1,h2⟩:=h;rw[RD];refine⟨a,xs,rfl,h1.same g,?_⟩
  rcases h2 with ⟨kvs,q,r⟩ | ⟨kvs,q,r⟩
  .exact .inl ⟨kvs,e.trans q,r⟩
  .exact .inr ⟨kvs,e.trans q,r⟩
 | _=>exact h.elim
def OK1 (G:Hp)(O:Addr->Prop)(bL bD:Prop):Prop:=∀a,O a->G a=none\/((∃xs,G a=some (.lst xs))/\bL)\/(((∃kvs,G a=some (.dK kvs))\/∃kvs,G a=some (.dT kvs))/\bD)
def z2z {o u:HO}(hO:OK1 G O bL bD)(h:G a=some o)(h1:∀xs,o = .lst xs->¬ bL)(h2:∀k,o = .dK k->¬ bD)(h3:∀k,o = .dT k->¬ bD):minus G O a=some o:=by
 by_cases z:O a
 .rcases hO a z with q | ⟨⟨xs,q⟩,b⟩ | ⟨⟨k,q⟩ | ⟨k,q⟩,b⟩
  .rw[q] at h;cases h
  .rw[q] at h;cases h;exact(h1 _ rfl b).elim
  .rw[q] at h;cases h;exact(h2 _ rfl b).elim
  .rw[q] at h;cases h;exact(h3 _ rfl b).elim
 .rw[z71 z];exact h
mutual
theorem RD.minus {bL bD:Prop}(hO:OK1 G O bL bD):∀(d:D) {v:V},(bL->noL d=true)->(bD->noD d=true)->RD K mg G d v->RD K mg (Pu.minus G O) d v
 | .non,_,_,_,h=>by simpa[RD] using h
 | .bl _,_,_,_,h=>by simpa[RD] using h
 | .int _,_,_,_,h=>by simpa[RD] using h
 | .str _,_,_,_,h=>by simpa[RD] using h
 | .fn _,_,_,_,h=>by rw[RD] at h ⊢;exact h
 | .exc _,_,_,_,h=>by
  rw[RD] at h ⊢;obtain⟨ea,C,h1,h2,h3⟩:=h;exact⟨ea,C,h1,z2z (u :=.lst []) hO h2 (λ_ z=>by cases z) (λ_ z=>by cases z) (λ_ z=>by cases z),h3⟩
 | .tup ds,_,nl,nd,h=>by
  rw[RD] at h ⊢;obtain⟨a,xs,h1,h2,h3⟩:=h;refine⟨a,xs,h1,?_,RDs.minus hO ds (λb=>by have:=nl b;rwa [noL] at this) (λb=>by have:=nd b;rwa [noD] at this) h3⟩
  rcases h2 with (h2 | ⟨o,h2⟩) | h2
  .exact .inl (.inl (z2z (u :=.lst []) hO h2 (λ_ z=>by cases z) (λ_ z=>by cases z) (λ_ z=>by cases z)))
  .exact .inl (.inr ⟨o,z2z (u :=.lst []) hO h2 (λ_ z=>by cases z) (λ_ z=>by cases z) (λ_ z=>by cases z)⟩)
  .exact .inr h2
 | .lst ds,_,nl,nd,h=>by
  rw[RD] at h ⊢;obtain⟨a,xs,h1,h2,h3⟩:=h;have nb:¬ bL:=λb=>by have:=nl b;rw[noL] at this;cases this
  refine⟨a,xs,h1,?_,RDs.minus hO ds (λb=>(nb b).elim) (λb=>by have:=nd b;rwa [noD] at this) h3⟩
  rcases h2 with (h2 | ⟨o,h2⟩) | h2
  .exact .inl (.inl (z2z (u :=.lst []) hO h2 (λ_ _=>nb) (λ_ z=>by cases z) (λ_ z=>by cases z)))
  .exact .inl (.inr ⟨o,z2z (u :=.lst []) hO h2 (λ_ z=>by cases z) (λ_ z=>by cases z) (λ_ z=>by cases z)⟩)
  .exact .inr h2
 | .dct ks vs,_,nl,nd,h=>by
  rw[RD] at h ⊢;obtain⟨a,xs,h1,h3,h4⟩:=h;have nb:¬ bD:=λb=>by have:=nd b;rw[noD] at this;cases this
  refine⟨a,xs,h1,RDs.minus hO vs (λb=>by have:=nl b;rwa [noL] at this) (λb=>(nb b).elim) h3,?_⟩
  rcases h4 with ⟨kvs,q,r⟩ | ⟨kvs,q,r⟩
  .exact .inl ⟨kvs,z2z (u :=.lst []) hO q (λ_ z=>by cases z) (λ_ _=>nb) (λ_ _=>nb),r⟩
  .exact .inr ⟨kvs,z2z (u :=.lst []) hO q (λ_ z=>by cases z) (λ_ _=>nb) (λ_ _=>nb),r⟩
theorem RDs.minus {bL bD:Prop}(hO:OK1 G O bL bD):∀(ds:List D) {xs:List V},(bL->noLs ds=true)->(bD->noDs ds=true)->RDs K mg G ds xs->RDs K mg (Pu.minus G O) ds xs
 | [],_,_,_,h=>by simpa[RDs] using h
 | d::ds,_,nl,nd,h=>by
  rw[RDs] at h ⊢;obtain⟨x,r,h1,h2,h3⟩:=h;exact⟨x,r,h1,RD.minus hO d (λb=>by have:=nl b;rw[noLs,vE] at this;exact this.1) (λb=>by have:=nd b;rw[noDs,vE] at this;exact this.1) h2,
   RDs.minus hO ds (λb=>by have:=nl b;rw[noLs,vE] at this;exact this.2) (λb=>by have:=nd b;rw[noDs,vE] at this;exact this.2) h3⟩
end
def z25 (ρ:Pu.Env)(σ:L2.St)(a:Addr):Prop:=∃(j:Nat) (d:D),ρ[j]? = some (B.o d)/\σ[j]? = some (some (V.ref a))
def AbS.free (h:AbS K mg H0 G0 G ρ σ H):∀a,z25 ρ σ a->G a=none:=by
 rintro a ⟨j,d,e,q⟩;obtain⟨b,q',hb,_⟩:=h.ow j d e;rw[q] at q';cases q';exact hb
def AbS.owned0 (h:AbS K mg H0 G0 G ρ σ H):∀a,z25 ρ σ a->H0 a=none:=by
 rintro a ⟨j,d,e,q⟩;obtain⟨b,q',hb,h0,_⟩:=h.ow j d e;rw[q] at q';cases q';exact h0
def AbS.nw1 (h:AbS K mg H0 G0 G ρ σ H)(g:Gr (plus G H (z25 ρ σ)) H G1):∀a o,G1 a=some o->(∃u,G0 a=some u)\/H0 a=none:=λa o e=>by
 rcases g.2 a o e with ⟨u,q⟩ | q
 .by_cases z:z25 ρ σ a
  .exact .inr (h.owned0 a z)
  .unfold plus at q;rw[if_neg z] at q;exact h.nw a u q
 .refine .inr ?_
  cases z:H0 a with
  | none=>rfl
  | some w=>rw[h.s0 a w z] at q;cases q
def AbS.nw2 (h:AbS K mg H0 G0 G ρ σ H)(g:Gr G H G1):∀a o,G1 a=some o->(∃u,G0 a=some u)\/H0 a=none:=λa o e=>by
 rcases g.2 a o e with ⟨u,q⟩ | q
 .exact h.nw a u q
 .refine .inr ?_
  cases z:H0 a with
  | none=>rfl
  | some w=>rw[h.s0 a w z] at q;cases q
def AbS.abe (h:AbS K mg H0 G0 G ρ σ H):AbE K mg (plus G H (z25 ρ σ)) ρ σ:=λi d e=>by
 rw[Env.get_eq] at e
 cases q:ρ[i]? with
 | none=>rw[q] at e;cases e
 | some b=>
  rw[q] at e
  cases b with
  | n=>cases e
  | s d'=>
   cases e
   obtain⟨v,h1,h2⟩:=h.sh i d q;exact⟨v,h1,h2.same (z2B h.free)⟩
  | o d'=>
   cases e
   obtain⟨a,h1,h2,h3,h4⟩:=h.ow i d q;exact⟨.ref a,h1,h4.rd (z2B h.free) (zae ⟨i,d,q,h1⟩)⟩
theorem AbS.vis (h:AbS K mg H0 G0 G ρ σ H):AbE K mg G (vis ρ) σ:=λi d e=>by
 rw[Env.get_eq] at e;unfold Pu.vis at e;rw[wB] at e
 cases q:ρ[i]? with
 | none=>rw[q] at e;cases e
 | some b=>
  rw[q] at e
  cases b with
  | n=>cases e
  | s d'=>
   cases e
   exact h.sh i d q
  | o d'=>cases e
theorem Safe.get {d:D}:∀{ρ:Pu.Env}{j:Nat}{b:B},Safe d ρ->ρ[j]? = some b->zfX d b
 | [],_,_,_,e=>by simp at e
 | c::r,0,b,h,e=>by simp at e;subst e;exact h.1
 | c::r,j+1,b,h,e=>Safe.get (j:=j) h.2 (by simpa using e)
def zdC {d:D}{I:Nat->Prop}(h:AbS K mg H0 G0 G ρ σ H)(g2:Same G1 H1)(g3:Same H H1):
  OK1 G1 (λa=>∃(j:Nat) (d:D),I j/\ρ[j]? = some (B.o d)/\σ[j]? = some (some (V.ref a))) (∃(j:Nat) (l:List D),I j/\ρ[j]? = some (B.o (.lst l))) (∃(j:Nat) (k v:List D),I j/\ρ[j]? = some (B.o (.dct k v))):=by
 rintro a ⟨j,d',hI,e,q⟩;obtain⟨b,q',hb,h0,hw⟩:=h.ow j d' e;rw[q] at q';cases q'
 cases e1:G1 a with
 | none=>exact .inl rfl
 | some o=>
  have e2:=g2 a o e1
  cases d' with
  | lst ds=>
   obtain⟨xs,h1,h2⟩:=hw;rw[g3 a _ h1] at e2
   cases e2
   exact .inr (.inl ⟨⟨xs,rfl⟩,j,ds,hI,e⟩)
  | dct ks vs=>
   obtain⟨xs,h1,h2⟩:=hw
   rcases h2 with ⟨kvs,z,r⟩ | ⟨kvs,z,r⟩
   .rw[g3 a _ z] at e2
    cases e2
    exact .inr (.inr ⟨.inl ⟨kvs,rfl⟩,j,ks,vs,hI,e⟩)
   .rw[g3 a _ z] at e2
    cases e2
    exact .inr (.inr ⟨.inr ⟨kvs,rfl⟩,j,ks,vs,hI,e⟩)
  | _=>exact hw.elim
def z5b {d:D}{v:V}{i:Nat}(h:AbS K mg H0 G0 G ρ σ H)(g2:Same G1 H1)(g3:Same H H1)(sf:Safe d (ρ.set i .n))(rd:RD K mg G1 d v):
  RD K mg (Pu.minus G1 (λa=>∃(j:Nat) (d:D),j≠i/\ρ[j]? = some (B.o d)/\σ[j]? = some (some (V.ref a)))) d v:=by
 refine RD.minus (zdC (d:=d) (I:=λj=>j≠i) h g2 g3) d (λ⟨j,l,hj,e⟩ =>?_) (λ⟨j,k,v,hj,e⟩ =>?_) rd
 .exact Safe.get sf (j:=j) (b :=.o (.lst l)) (by rw[wI (vU hj)];exact e)
 .exact Safe.get sf (j:=j) (b :=.o (.dct k v)) (by rw[wI (vU hj)];exact e)
def z7B {d:D}{v:V}(h:AbS K mg H0 G0 G ρ σ H)(g2:Same G1 H1)(g3:Same H H1)(sf:Safe d ρ)(rd:RD K mg G1 d v):
  RD K mg (Pu.minus G1 (λa=>∃(j:Nat) (d:D),True/\ρ[j]? = some (B.o d)/\σ[j]? = some (some (V.ref a)))) d v:=by
 refine RD.minus (zdC (d:=d) (I:=λ_=>True) h g2 g3) d (λ⟨j,l,hj,e⟩ =>?_) (λ⟨j,k,v,hj,e⟩ =>?_) rd
 .exact Safe.get sf (j:=j) (b :=.o (.lst l)) e
 .exact Safe.get sf (j:=j) (b :=.o (.dct k v)) e
def AbS.put {G1:Hp}{i:Nat}{d:D}{v:V}(h:AbS K mg H0 G0 G ρ σ H)(nw:∀a o,G1 a=some o->(∃u,G0 a=some u)\/H0 a=none)(g1:Same G G1)(g2:Same G1 H1)(g3:Same H H1)(hO:∀(j:Nat) (d':D) (a:Addr),j≠i->ρ[j]? = some (B.o d')->σ[j]? = some (some (V.ref a))->G1 a=none)(rd:RD K mg G1 d v):
  AbS K mg H0 G0 G1 (ρ.set i (.s d)) (σ.set i (some v)) H1 where
 len:=by simp[h.len]
 s0:=z01 h.s0 g3
 g0:=z01 h.g0 g1
 g:=g2
 nw:=nw
 sh:=λj e q=>by
  by_cases hj:j=i
  .subst hj;have hl:j < ρ.length:=by
    have:=(wu.mp q).1;o_rec
   rw[wW hl] at q
   cases q
   exact⟨v,by rw[wW (by rw[h.len];exact hl)],rd⟩
  .rw[wI (vU hj)] at q;obtain⟨w,h1,h2⟩:=h.sh j e q;exact⟨w,by rw[wI (vU hj)];exact h1,h2.same g1⟩
 ow:=λj e q=>by
  by_cases hj:j=i
  .subst hj;have hl:j < ρ.length:=by
    have:=(wu.mp q).1;o_rec
   rw[wW hl] at q
   cases q
  .rw[wI (vU hj)] at q;obtain⟨a,h1,h2,h3,h4⟩:=h.ow j e q;exact⟨a,by rw[wI (vU hj)];exact h1,hO j e a hj q h1,h3,h4.same g1 (g3 a)⟩
 ne:=λj k e e' a hjk q q' s s'=>by
  have hl:∀{j:Nat}{e:D},(ρ.set i (.s d))[j]? = some (B.o e)->j≠i:=λ{j e} q hj=>by
   subst hj;have hl:j < ρ.length:=by
    have:=(wu.mp q).1;o_rec
   rw[wW hl] at q
   cases q
  have hj:=hl q;have hk:=hl q';rw[wI (vU hj)] at q s;rw[wI (vU hk)] at q' s';exact h.ne j k e e' a hjk q q' s s'
def AbS.own {G1:Hp}{i:Nat}{d:D}{a:Addr}(h:AbS K mg H0 G0 G ρ σ H)(nw:∀a o,G1 a=some o->(∃u,G0 a=some u)\/H0 a=none)(g1:Same G G1)(g2:Same G1 H1)(g3:Same H H1)(hO:∀(j:Nat) (d':D) (a:Addr),j≠i->ρ[j]? = some (B.o d')->σ[j]? = some (some (V.ref a))->G1 a=none)(hn:H a=none)(ga:G1 a=none)(hw:z4J K mg G1 H1 a d):
  AbS K mg H0 G0 G1 (ρ.set i (.o d)) (σ.set i (some (.ref a))) H1 where
 len:=by simp[h.len]
 s0:=z01 h.s0 g3
 g0:=z01 h.g0 g1
 g:=g2
 nw:=nw
 sh:=λj e q=>by
  by_cases hj:j=i
  .subst hj;have hl:j < ρ.length:=by
    have:=(wu.mp q).1;o_rec
   rw[wW hl] at q
   cases q
  .rw[wI (vU hj)] at q;obtain⟨w,h1,h2⟩:=h.sh j e q;exact⟨w,by rw[wI (vU hj)];exact h1,h2.same g1⟩
 ow:=λj e q=>by
  by_cases hj:j=i
  .subst hj;have hl:j < ρ.length:=by
    have:=(wu.mp q).1;o_rec
   rw[wW hl] at q
   cases q
   refine⟨a,by rw[wW (by rw[h.len];exact hl)],ga,?_,hw⟩;exact z0Y h.s0 hn
  .rw[wI (vU hj)] at q;obtain⟨b,h1,h2,h3,h4⟩:=h.ow j e q;exact⟨b,by rw[wI (vU hj)];exact h1,hO j e b hj q h1,h3,h4.same g1 (g3 b)⟩
 ne:=λj k e e' b hjk q q' s s'=>by
  have old:∀{j:Nat}{e:D},j≠i->(ρ.set i (.o d))[j]? = some (B.o e)->(σ.set i (some (.ref a)))[j]? = some (some (V.ref b))->ρ[j]? = some (B.o e)/\σ[j]? = some (some (V.ref b)):=λ{j e} hj q s=>by
   rw[wI (vU hj)] at q s;exact⟨q,s⟩
  have new:∀{j:Nat}{e:D},j=i->(ρ.set i (.o d))[j]? = some (B.o e)->(σ.set i (some (.ref a)))[j]? = some (some (V.ref b))->b=a:=λ{j e} hj q s=>by
   subst hj;have hl:j < σ.length:=by
    have:=(wu.mp s).1;o_rec
   rw[wW hl] at s
   cases s;rfl
  have none:∀{j:Nat}{e:D},ρ[j]? = some (B.o e)->σ[j]? = some (some (V.ref b))->b≠a:=λ{j e} q s z=>by
   obtain⟨b',h1,h2,h3,h4⟩:=h.ow j e q;rw[s] at h1;cases h1;obtain⟨o,ho⟩:=h4.some;rw[z,hn] at ho;cases ho
  by_cases hj:j=i
  .have hb:=new hj q s;have hk:k≠i:=λz=>hjk (hj.trans z.symm);obtain⟨q1,s1⟩:=old hk q' s';exact none q1 s1 hb
  .obtain⟨q1,s1⟩:=old hj q s
   by_cases hk:k=i
   .exact none q1 s1 (new hk q' s')
   .obtain⟨q2,s2⟩:=old hk q' s';exact h.ne j k e e' b hjk q1 q2 s1 s2
def AbS.wr {G1:Hp}{i:Nat}{d d':D}{a:Addr}{o:HO}(h:AbS K mg H0 G0 G ρ σ H)(nw:∀a o,G1 a=some o->(∃u,G0 a=some u)\/H0 a=none)(g1:Same G G1)(g2:Same G1 H1)(g3:Same H H1)(hO:∀(j:Nat) (d':D) (a:Addr),ρ[j]? = some (B.o d')->σ[j]? = some (some (V.ref a))->G1 a=none)(hi:ρ[i]? = some (B.o d))(hs:σ[i]? = some (some (V.ref a)))
  (hw:z4J K mg G1 (upd H1 a o) a d'):AbS K mg H0 G0 G1 (ρ.set i (.o d')) σ (upd H1 a o):=by
 obtain⟨a',e1,ga,h0a,hw0⟩:=h.ow i d hi;rw[hs] at e1;cases e1;have hl:i < ρ.length:=(wu.mp hi).1;refine⟨by simp[h.len],λb u e =>?_,z01 h.g0 g1,λb u e =>?_,nw,λj e q =>?_,λj e q =>?_,λj k e e' b hjk q q' s s' =>?_⟩
 .have hb:b≠a:=λz=>by rw[z,h0a] at e;cases e
  rw[z05 hb];exact g3 b u (h.s0 b u e)
 .have hb:b≠a:=λz=>by rw[z,hO i d a hi hs] at e;cases e
  rw[z05 hb];exact g2 b u e
 .by_cases hj:j=i
  .subst hj;rw[wW hl] at q;cases q
  .rw[wI (vU hj)] at q;obtain⟨w,h1,h2⟩:=h.sh j e q;exact⟨w,h1,h2.same g1⟩
 .by_cases hj:j=i
  .subst hj;rw[wW hl] at q;cases q;exact⟨a,hs,hO j d a hi hs,h0a,hw⟩
  .rw[wI (vU hj)] at q;obtain⟨b,h1,h2,h3,h4⟩:=h.ow j e q;have hb:b≠a:=λz=>by subst z;exact h.ne j i e d b hj q hi h1 hs
   exact⟨b,h1,hO j e b q h1,h3,h4.same g1 (λu e=>by rw[z05 hb];exact g3 b u e)⟩
 .have old:∀{j:Nat}{e:D},(ρ.set i (.o d'))[j]? = some (B.o e)->∃e',ρ[j]? = some (B.o e'):=λ{j e} q=>by
   by_cases hj:j=i
   .subst hj;exact⟨d,hi⟩
   .rw[wI (vU hj)] at q;exact⟨e,q⟩
  obtain⟨x,q1⟩:=old q;obtain⟨y,q2⟩:=old q';exact h.ne j k x y b hjk q1 q2 s s'
def AbS.dem1 (h:AbS K mg H0 G0 G ρ σ H)(j:Nat):∃G',AbS K mg H0 G0 G' (ρ.set j (demB ((ρ[j]?).getD .n))) σ H/\Same G G':=by
 cases q:ρ[j]? with
 | none=>
  have:ρ.set j (demB ((none:Option B).getD .n))=ρ:=by
   apply List.set_eq_of_length_le;exact List.getElem?_eq_none_iff.mp q
  rw[this];exact⟨G,h,Same.refl'⟩
 | some b=>
  have hl:j < ρ.length:=(wu.mp q).1;have same:∀b',b=b'->demB b'=b'->∃G',AbS K mg H0 G0 G' (ρ.set j (demB ((some b).getD .n))) σ H/\Same G G':=λb' e e'=>by
   subst e;have:ρ.set j (demB ((some b).getD .n))=ρ:=by
    show ρ.set j (demB b)=ρ;rw[e'];apply List.ext_getElem?;intro k
    by_cases hk:k=j
    .subst hk;rw[wW hl,q]
    .rw[wI (vU hk)]
   rw[this];exact⟨G,h,Same.refl'⟩
  cases b with
  | n=>exact same .n rfl rfl
  | s d=>exact same (.s d) rfl rfl
  | o d=>
   obtain⟨a,s1,ga,h0a,hw⟩:=h.ow j d q;show ∃G',AbS K mg H0 G0 G' (ρ.set j (.s d)) σ H/\Same G G';have lp:Same G (plus G H (· = a)):=z2B (λb z=>by rw[z];exact ga);refine⟨plus G H (· = a),⟨by simp[h.len],h.s0,z01 h.g0 lp,z3J h.g,λb o e=>(by
     by_cases hb:b=a
     .exact .inr (by rw[hb];exact h0a)
     .unfold plus at e;rw[if_neg hb] at e;exact h.nw b o e),λk e z =>?_,λk e z =>?_,λk l e e' b hkl z z' s s' =>?_⟩,lp⟩
   .by_cases hk:k=j
    .subst hk;rw[wW hl] at z;cases z;exact⟨.ref a,s1,hw.rd lp (zae rfl)⟩
    .rw[wI (vU hk)] at z;obtain⟨w,h1,h2⟩:=h.sh k e z;exact⟨w,h1,h2.same lp⟩
   .by_cases hk:k=j
    .subst hk;rw[wW hl] at z;cases z
    .rw[wI (vU hk)] at z;obtain⟨b,h1,h2,h3,h4⟩:=h.ow k e z;have hb:b≠a:=λy=>by subst y;exact h.ne k j e d b hk z q h1 s1
     refine⟨b,h1,?_,h3,h4.same lp (λ_ e=>e)⟩;unfold plus;rw[if_neg hb];exact h2
   .have old:∀{k:Nat}{e:D},(ρ.set j (.s d))[k]? = some (B.o e)->ρ[k]? = some (B.o e):=λ{k e} z=>by
     by_cases hk:k=j
     .subst hk;rw[wW hl] at z;cases z
     .rw[wI (vU hk)] at z;exact z
    exact h.ne k l e e' b hkl (old z) (old z') s s'
theorem AbS.dem (js:List Nat):∀{G:Hp}{ρ:Pu.Env},AbS K mg H0 G0 G ρ σ H->∃G',AbS K mg H0 G0 G' (dem js ρ) σ H/\Same G G':=by
 induction js with
 | nil=>intro G ρ h;exact⟨G,h,Same.refl'⟩
 | cons j js ih=>
  intro G ρ h;obtain⟨G1,h1,g1⟩:=h.dem1 j;obtain⟨G2,h2,g2⟩:=ih h1;exact⟨G2,h2,z01 g1 g2⟩
end
def Kn (K:W.Frag)(mg:WmP)(H0 G0 G:Hp)(N0:Pu.Env->Prop)(N:L2.St->Hp->Prop):Prop:=∀ρ' σ' H' G',N0 ρ'->AbS K mg H0 G0 G' ρ' σ' H'->Same G G'->N σ' H'
def Kr (K:W.Frag)(mg:WmP)(H0 G0:Hp)(R0:DK)(R:VK):Prop:=∀d v G' H',R0 d->Gr G0 H0 G'->Same G' H'->Same H0 H'->RD K mg G' d v->R v H'
def ts (K:W.Frag)(mg:WmP)(E:XK)(t:Sm):TS:=λD σ H=>∃H0 G0 G ρ N0 R0 X0,AbS K mg H0 G0 G ρ σ H/\t.run ρ N0 R0 X0/\Kn K mg H0 G0 G N0 D.nx/\Kr K mg H0 G0 R0 D.rt/\Kx mg H0 X0 E
def Kn.same {K:W.Frag}{mg:WmP}{H0 G0 G G1:Hp}{N0:Pu.Env->Prop}{N:L2.St->Hp->Prop}(h:Kn K mg H0 G0 G N0 N)(g:Same G G1):Kn K mg H0 G0 G1 N0 N:=λρ' σ' H' G' a b c=>h ρ' σ' H' G' a b (z01 g c)
abbrev QZ (X:Cx)(E:XK)(st:Stmt)(t:Sm):Prop:=QS X st (ts X.K X.mg E t)
abbrev QZs (X:Cx)(E:XK)(st:List Stmt)(t:Sm):Prop:=QSs X st (ts X.K X.mg E t)
section
variable {X:Cx}{E:XK}{st:Stmt}{rest body la lb:List Stmt}{t u:Sm}{e a b c:Expr}{x y z:Ex}{pos:Pos}
def zgh:QZs X E [] .skip:=QSs.imp zey <| by rintro D σ H ⟨H0,G0,G,ρ,N0,R0,X0,ab,hr,hn,hR,hx⟩;exact hn ρ σ H G hr ab Same.refl'
def za3 (h:QZ X E st t):QZs X E [st] t:=zex h
def z7C (h:QZ X E st t)(h':QZs X E rest u):QZs X E (st::rest) (.seq t u):=QSs.imp (zca h h') λD σ H ⟨H0,G0,G,ρ,N0,R0,X0,ab,hr,hn,hR,hx⟩=>
 ⟨H0,G0,G,ρ,λρ'=>u.run ρ' N0 R0 X0,R0,X0,ab,hr,λρ' σ' H' G' q ab' g=>⟨H0,G0,G',ρ',N0,R0,X0,ab',q,hn.same g,hR,hx⟩,hR,hx⟩
def zfH {K:W.Frag}{mg:WmP}{H0 G0 G H:Hp}{ρ:Pu.Env}{σ:L2.St}{Q0:DK}{X0:XP}{Q:VK}(ab:AbS K mg H0 G0 G ρ σ H)(hr:x.run ρ Q0 X0)(hx:Kx mg H0 X0 E)(hk:Kt K mg (plus G H (z25 ρ σ)) H Q0 Q):tx K mg E x σ H Q:=
 ⟨plus G H (z25 ρ σ),ρ,Q0,X0,z3J ab.g,ab.abe,hr,hk,hx.same ab.s0⟩
def AbS.back {K:W.Frag}{mg:WmP}{H0 G0 G G1 H H1:Hp}{ρ:Pu.Env}{σ:L2.St}(ab:AbS K mg H0 G0 G ρ σ H)(g1:Gr (plus G H (z25 ρ σ)) H G1)(g2:Same G1 H1)(g3:Same H H1):AbS K mg H0 G0 (minus G1 (z25 ρ σ)) ρ σ H1/\Same G (minus G1 (z25 ρ σ)):=by
 have hf:=ab.free;have lm:Same G (minus G1 (z25 ρ σ)):=z3t (z01 (z2B hf) g1.1) hf;exact⟨⟨ab.len,z01 ab.s0 g3,z01 ab.g0 lm,z01 z2g g2,λa o e=>ab.nw1 g1 a o (z2g a o e),λi d e=>by
   obtain⟨v,h1,h2⟩:=ab.sh i d e;exact⟨v,h1,h2.same lm⟩,λi d e=>by
   obtain⟨a,h1,h2,h3,h4⟩:=ab.ow i d e;exact⟨a,h1,z4e ⟨i,d,e,h1⟩,h3,h4.same lm (g3 a)⟩,ab.ne⟩,lm⟩
def zfI {K:W.Frag}{mg:WmP}{H0 G0 G H:Hp}{ρ:Pu.Env}{σ:L2.St}{A B:Prop}{X0:XP}{Q:Bool->Hp->Prop}(ab:AbS K mg H0 G0 G ρ σ H)(hr:x.run ρ (λd=>tst d A B) X0)(hx:Kx mg H0 X0 E)
  (ha:A->∀H' G',AbS K mg H0 G0 G' ρ σ H'->Same G G'->Q true H') (hb:B->∀H' G',AbS K mg H0 G0 G' ρ σ H'->Same G G'->Q false H'):tt K mg E x σ H Q:=by
 refine⟨plus G H (z25 ρ σ),ρ,_,X0,z3J ab.g,ab.abe,hr,λd G1 H1 q g1 g2 g3 =>?_,hx.same ab.s0⟩;obtain⟨b,rfl,q1,q2⟩:=z55 q;refine⟨b,rfl,?_⟩;obtain⟨ab',lm⟩:=ab.back g1 g2 g3
 cases b with
 | true=>exact ha (q1 rfl) H1 _ ab' lm
 | false=>exact hb (q2 rfl) H1 _ ab' lm
def ziF (hc:QXT X E c z)(ha:QZs X E la t)(hb:QZs X E lb u):QZ X E (.If c la lb pos) (.ifs z t u):=QS.imp (ziQ hc ha hb) <| by
 rintro D σ H ⟨H0,G0,G,ρ,N0,R0,X0,ab,hr,hn,hR,hx⟩;refine zfI ab hr hx (λq H' G' ab' g =>?_) (λq H' G' ab' g =>?_)
 .exact iteT ⟨H0,G0,G',ρ,N0,R0,X0,ab',q,hn.same g,hR,hx⟩
 .exact iteF ⟨H0,G0,G',ρ,N0,R0,X0,ab',q,hn.same g,hR,hx⟩
def zge (he:QX X E e x):QZ X E (.Return (some e) pos) (.ret x):=QS.imp (zgC he) λD σ H ⟨H0,G0,G,ρ,N0,R0,X0,ab,hr,hn,hR,hx⟩=>
 zfH ab hr hx λd v G1 H1 q g1 g2 g3 rd=>hR d v G1 H1 q ⟨z01 ab.g0 (z01 (z2B ab.free) g1.1),ab.nw1 g1⟩ g2 (z01 ab.s0 g3) rd
def z32 (i:Nat)(ρ:Pu.Env)(σ:L2.St)(a:Addr):Prop:=∃(j:Nat) (d:D),j≠i/\ρ[j]? = some (B.o d)/\σ[j]? = some (some (V.ref a))
def zgj (h:QS X (.Assign [tg] e pos) (tAsg (tx X.K X.mg E x) (z47 i))):QZ X E (.Assign [tg] e pos) (.set i x):=QS.imp h λD σ H ⟨H0,G0,G,ρ,N0,R0,X0,ab,hr,hn,hR,hx⟩=>
 zfH ab hr hx λd v G1 H1 q g1 g2 g3 rd=>by
  have hf:∀a,z32 i ρ σ a->G a=none:=λa ⟨j,d,_,h1,h2⟩=>ab.free a ⟨j,d,h1,h2⟩;have lm:Same G (minus G1 (z32 i ρ σ)):=z3t (z01 (z2B ab.free) g1.1) hf;exact hn (ρ.set i (.s d)) (σ.set i (some v)) H1 _ q.2 (ab.put (λa o e=>ab.nw1 g1 a o (z2g a o e)) lm (z01 z2g g2) g3 (λj d' a hj e s=>z4e ⟨j,d',hj,e,s⟩) (z5b ab g2 g3 q.1 rd)) lm
def Kf (K:W.Frag)(mg:WmP)(G H:Hp)(Q0:DK)(Q:VK):Prop:=∀d a G' H',Q0 d->Gr G H G'->Same G' H'->Same H H'->H a=none->G' a=none->z4J K mg G' H' a d->Q (.ref a) H'
def tf (K:W.Frag)(mg:WmP)(E:XK)(e:Ex):TE:=λσ H Q=>∃G ρ Q0 X0,Same G H/\AbE K mg G ρ σ/\e.run ρ Q0 X0/\Kf K mg G H Q0 Q/\Kx mg H X0 E
abbrev QF (X:Cx)(E:XK)(e:Expr)(x:Ex):Prop:=QE X e (tf X.K X.mg E x)
def Kt.kf {K:W.Frag}{mg:WmP}{G H:Hp}{Q0:DK}{Q:VK}(h:Kt K mg G H Q0 Q):Kf K mg G H Q0 Q:=λd a G' H' q g1 g2 g3 hn gn hw=>by
 obtain⟨o,ho⟩:=hw.some;have lp:Same G' (upd G' a o):=z0i gn o;refine h d (.ref a) (upd G' a o) H' q ⟨z01 g1.1 lp,λb u e =>?_⟩ (λb u e =>?_) g3 (hw.rd lp (by rw[z0b];exact ho.symm))
 .by_cases hb:b=a
  .subst hb;exact .inr hn
  .rw[z05 hb] at e;exact g1.2 b u e
 .by_cases hb:b=a
  .subst hb;rw[z0b] at e;rw[ho];exact e
  .rw[z05 hb] at e;exact g2 b u e
def QF.qx (h:QF X E e x):QX X E e x:=QE.imp h λσ H Q ⟨G,ρ,Q0,X0,hs,ab,hr,hk,hx⟩=>⟨G,ρ,Q0,X0,hs,ab,hr,hk.kf,hx⟩
def zgg (h:QS X (.Assign [tg] e pos) (tAsg (tf X.K X.mg E x) (z47 i))):QZ X E (.Assign [tg] e pos) (.own i x):=QS.imp h <| by
 rintro D σ H ⟨H0,G0,G,ρ,N0,R0,X0,ab,hr,hn,hR,hx⟩;refine⟨plus G H (z25 ρ σ),ρ,_,X0,z3J ab.g,ab.abe,hr,λd a G1 H1 q g1 g2 g3 ha ga hw =>?_,hx.same ab.s0⟩;have hf:∀a,z32 i ρ σ a->G a=none:=λa ⟨j,d,_,h1,h2⟩=>ab.free a ⟨j,d,h1,h2⟩;have lm:Same G (minus G1 (z32 i ρ σ)):=z3t (z01 (z2B ab.free) g1.1) hf;have z02:∀(l:List Pu.D) (xs:List V),(∀x∈l,Safe x (ρ.set i .n))->RDs X.K X.mg G1 l xs->RDs X.K X.mg (minus G1 (z32 i ρ σ)) l xs:=by
  intro l
  induction l with
  | nil=>intro xs _ h;rw[RDs] at h ⊢;exact h
  | cons y l ih=>
   intro xs hs h;rw[RDs] at h ⊢;obtain⟨v,r,h1,h2,h3⟩:=h;exact⟨v,r,h1,z5b ab g2 g3 (hs y wJ) h2,ih r (λz hz=>hs z (wm _ hz)) h3⟩
 have na:minus G1 (z32 i ρ σ) a=none:=by
  unfold minus
  split
  .rfl
  .exact ga
 refine hn (ρ.set i (.o d)) (σ.set i (some (.ref a))) H1 _ q.2 (ab.own (λa o e=>ab.nw1 g1 a o (z2g a o e)) lm (z01 z2g g2) g3 (λj d' a hj e s=>z4e ⟨j,d',hj,e,s⟩) ha na ?_) lm;have q1:=q.1
 cases d with
 | lst l=>
  obtain⟨xs,h1,h2⟩:=hw;exact⟨xs,h1,z02 l xs q1 h2⟩
 | dct ks vs=>
  obtain⟨xs,h1,h2⟩:=hw;exact⟨xs,z02 vs xs q1 h1,h2⟩
 | _=>exact q1.elim
end
section
variable {X:Cx}{E:XK}{st:Stmt}{rest body la lb:List Stmt}{t u:Sm}{e a b c tg iter:Expr}{x y z:Ex}{pos:Pos}
def z8i (h:onL o Q):∃l,o=some l/\Q l:=by
 cases o with
 | none=>exact h.elim
 | some l=>exact⟨l,rfl,h⟩
def zc3 (hp:PassesOwn (model X.prog X.w) X.A X.env X.xe)(hc:QXT X E c z)(hb:QZs X E body t):QZ X E (.While c body [] pos) (.wh z t):=QS.imp (zcb hp hc hb) <| by
 rintro D σ H ⟨H0,G0,G,ρ,N0,R0,X0,ab,⟨n,hr⟩,hn,hR,hx⟩;refine⟨λm σ' H'=>∃G' ρ',AbS X.K X.mg H0 G0 G' ρ' σ' H'/\Same G G'/\wh z t N0 R0 X0 m ρ',⟨n,G,ρ,ab,Same.refl',hr⟩,?_⟩;rintro m σ1 H1 ⟨G1,ρ1,ab1,g1,h1⟩
 cases m with
 | zero=>exact h1.elim
 | succ m=>
  refine zfI ab1 h1 hx (λq H2 G2 ab2 g2 =>?_) (λq H2 G2 ab2 g2 =>?_)
  .refine iteT ⟨λσ' H'=>∃G' ρ',AbS X.K X.mg H0 G0 G' ρ' σ' H'/\Same G G'/\wh z t N0 R0 X0 m ρ',λσ' H' w=>⟨m,j5 _,w⟩,?_⟩;exact⟨H0,G0,G2,ρ1,wh z t N0 R0 X0 m,R0,X0,ab2,q,λρ' σ' H' G' w ab' g'=>⟨G',ρ',ab',z01 g1 (z01 g2 g'),w⟩,hR,hx⟩
  .exact iteF (hn ρ1 σ1 H2 G2 q ab2 (z01 g1 g2))
def Walk (K:W.Frag)(mg:WmP)(G:Hp)(l:List D)(J:It):Prop:=∀(i:Nat) (G1 H:Hp),Same G G1->Same G1 H->
 (∀d,l[i]? = some d->J.go i H/\∀v H',J.yld i H v H'->Same H H'/\∃G2,Gr G1 H G2/\Same G2 H'/\RD K mg G2 d v)/\(l.length<=i->J.stop i H)
def ti (K:W.Frag)(mg:WmP)(E:XK)(e:Ex):TI:=λσ H R=>∃G ρ Q0 X0,Same G H/\AbE K mg G ρ σ/\e.run ρ Q0 X0/\(∀d,Q0 d->∃l,z02 d=some l)/\(∀d G' H',Q0 d->Gr G H G'->Same G' H'->Same H H'->∀l J,z02 d=some l->Walk K mg G' l J->R J H')/\Kx mg H X0 E
abbrev QXI (X:Cx)(E:XK)(tg e:Expr)(x:Ex):Prop:=QI X tg e (ti X.K X.mg E x)
def tgt (K:W.Frag):Tg->TG
 | .nm i=>z47 i
 | .tp is=>gTup K is.length (is.foldr (λi r=>zcY (z47 i) r) gNil)
theorem z4x {K:W.Frag}:∀(is:List Nat) (vs:List V) (σ:L2.St) (H:Hp) (Q:L2.St->Hp->Prop),is.length=vs.length->Q ((is.zip vs).foldl (λσ p=>σ.set p.1 (some p.2)) σ) H->(is.foldr (λi r=>zcY (z47 i) r) gNil) vs σ H Q
 | [],[],_,_,_,_,q=>⟨rfl,q⟩
 | [],_::_,_,_,_,h,_=>by simp at h
 | _::_,[],_,_,_,h,_=>by simp at h
 | i::is,v::vs,σ,H,Q,h,q=>⟨v,vs,rfl,z4x (K:=K) is vs _ H Q (by simpa using h) q⟩
theorem AbS.putAll {K:W.Frag}{mg:WmP}{H0 G0 H:Hp}:∀(is:List Nat) (ds:List D) (vs:List V) {G:Hp}{ρ:Pu.Env}{σ:L2.St},is.length=ds.length->RDs K mg G ds vs->AbS K mg H0 G0 G ρ σ H->
  AbS K mg H0 G0 G (z1E is ds ρ) ((is.zip vs).foldl (λσ p=>σ.set p.1 (some p.2)) σ) H
 | [],[],vs,G,ρ,σ,_,h,ab=>by rw[RDs] at h;subst h;exact ab
 | [],_::_,_,_,_,_,h,_,_=>by simp at h
 | _::_,[],_,_,_,_,h,_,_=>by simp at h
 | i::is,d::ds,vs,G,ρ,σ,h,r,ab=>by
  rw[RDs] at r;obtain⟨v,vs',rfl,h1,h2⟩:=r;exact AbS.putAll is ds vs' (by simpa using h) h2 (ab.put ab.nw Same.refl' ab.g Same.refl' (λj d' a hj e s=>ab.free a ⟨j,d',e,s⟩) h1)
def ze7 {K:W.Frag}{mg:WmP}{H0 G0 G H:Hp}{ρ:Pu.Env}{σ:L2.St}{tg:Tg}{d:D}{v:V}{N0:Pu.Env->Prop}{N:L2.St->Hp->Prop}(ab:AbS K mg H0 G0 G ρ σ H)(rd:RD K mg G d v)(hp:tg.put d ρ N0)(hn:∀ρ' σ',N0 ρ'->AbS K mg H0 G0 G ρ' σ' H->N σ' H):tgt K tg v σ H N:=by
 cases tg with
 | nm i=>exact hn _ _ hp (ab.put ab.nw Same.refl' ab.g Same.refl' (λj d' a hj e s=>ab.free a ⟨j,d',e,s⟩) rd)
 | tp is=>
  cases d with
  | tup ds=>
   obtain⟨hl,hp⟩:=hp;rw[RD] at rd;obtain⟨a,xs,rfl,h1,h2⟩:=rd;exact⟨a,xs,rfl,z0F ab.g h1,by rw[h2.len,hl],z4x (K:=K) is xs σ H N (by rw[h2.len,hl]) (hn _ _ hp (ab.putAll is ds xs hl h2))⟩
  | _=>exact hp.elim
def AbS.over {K:W.Frag}{mg:WmP}{H0 G0 G G2 H H2:Hp}{ρ:Pu.Env}{σ:L2.St}(ab:AbS K mg H0 G0 G ρ σ H)(g2:Gr G H G2)(k2:Same G2 H2)(s2:Same H H2):AbS K mg H0 G0 G2 ρ σ H2 where
 len:=ab.len
 s0:=z01 ab.s0 s2
 g0:=z01 ab.g0 g2.1
 g:=k2
 nw:=ab.nw2 g2
 sh:=λi d e=>by
  obtain⟨v,h1,h2⟩:=ab.sh i d e;exact⟨v,h1,h2.same g2.1⟩
 ow:=λi d e=>by
  obtain⟨a,h1,h2,h3,h4⟩:=ab.ow i d e;refine⟨a,h1,?_,h3,h4.same g2.1 (s2 a)⟩
  cases z:G2 a with
  | none=>rfl
  | some o=>
   obtain⟨u,hu⟩:=h4.some
   rcases g2.2 a o z with ⟨w,q⟩ | q
   .rw[h2] at q;cases q
   .rw[hu] at q;cases q
 ne:=ab.ne
def z4y {K:W.Frag}{mg:WmP}{H0 G0 G H:Hp}{ρ:Pu.Env}{σ:L2.St}{l:List D}{J:It}{tg:Tg}{N0:Pu.Env->Prop}{R0:DK}{X0:XP}{De:Ends}(ab:AbS K mg H0 G0 G ρ σ H)(hw:Walk K mg G l J)(hr:forL tg t N0 R0 X0 l ρ)
  (hn:Kn K mg H0 G0 G N0 De.nx) (hR:Kr K mg H0 G0 R0 De.rt) (hx:Kx mg H0 X0 E):
  ∃W:Nat->Nat->L2.St->Hp->Prop,(∃m,W 0 m σ H)/\∀i m σ H,W i m σ H->
   (J.stop i H/\De.nx σ H)\/(J.go i H/\∃N:L2.St->Hp->Prop,(∀σ' H',N σ' H'->∃m',m'<m/\W (i+1) m' σ' H')/\∀x H',J.yld i H x H'->tgt K tg x σ H' λσ2 H2=>ts K mg E t { De with nx:=N,ct:=N,bk:=De.nx } σ2 H2):=by
 refine⟨λi m σ H=>m=l.length - i/\i<=l.length/\∃G1 ρ1,AbS K mg H0 G0 G1 ρ1 σ H/\Same G G1/\forL tg t N0 R0 X0 (l.drop i) ρ1,⟨l.length,by simp,vy _,G,ρ,ab,Same.refl',by simpa using hr⟩,?_⟩;rintro i m σ1 H1 ⟨rfl,hi,G1,ρ1,ab1,g1,h1⟩;obtain⟨w1,w2⟩:=hw i G1 H1 g1 ab1.g
 by_cases hlt:i<l.length
 .have e:l[i]? = some l[i]:=by simp[hlt]
  obtain⟨go,yl⟩:=w1 _ e;rw[vJ hlt] at h1;refine .inr ⟨go,λσ' H'=>∃G2 ρ2,AbS K mg H0 G0 G2 ρ2 σ' H'/\Same G G2/\forL tg t N0 R0 X0 (l.drop (i+1)) ρ2,λσ' H' w=>⟨l.length - (i+1),by omega,rfl,hlt,w⟩,λv H2 y =>?_⟩;obtain⟨s2,G2,g2,k2,rd⟩:=yl v H2 y;have ab2:=ab1.over g2 k2 s2;refine ze7 ab2 rd h1 λρ3 σ3 hb ab3 =>?_;exact⟨H0,G0,G2,ρ3,_,R0,X0,ab3,hb,λρ' σ' H' G' w ab' g'=>⟨G',ρ',ab',z01 g1 (z01 g2.1 g'),w⟩,hR,hx⟩
 .have e:i=l.length:=by omega
  subst e;rw[List.drop_length] at h1;exact .inl ⟨w2 (wx _),hn ρ1 σ1 H1 G1 h1 ab1 g1⟩
def zgi (hp:PassesOwn (model X.prog X.w) X.A X.env X.xe)(hc:X.calm=true)(hi:QXI X E tg iter x)(hg:QG X tg (tgt X.K g))(hb:QZs X E body t)(hs:∀x,foldedSetIterable iter X.env x=pure x:=by intro _;rfl):
  QZ X E (.For tg iter body [] pos) (.for_ js g x t):=QS.imp (zdx hp hc hi hg hb hs) <| by
 rintro D σ H ⟨H0,G0,G,ρ,N0,R0,X0,ab,hr,hn,hR,hx⟩;obtain⟨G',ab',g'⟩:=ab.dem js;refine⟨G',vis (dem js ρ),_,X0,ab'.g,ab'.vis,hr,λd q=>(z8i q).imp λ_ z=>z.1,λd G1 H1 q g1 g2 g3 l J el hw =>?_,hx.same ab.s0⟩;have q':onL (z02 d) λl=>forL g t N0 R0 X0 l (dem js ρ):=q;rw[el] at q';exact z4y (E:=E) (ab'.over g1 g2 g3) hw q' (hn.same (z01 g' g1.1)) hR hx
def z54 {K:W.Frag}{mg:WmP}{G:Hp}{lo:Int}{n:Nat}:Walk K mg G ((List.range n).map λ(k:Nat)=>D.int (lo+(k:Int))) (Itr lo n):=λi G1 H g1 g2=>by
 refine⟨λd e =>?_,λhi=>(show n<=i by simpa using hi)⟩;obtain⟨h,e'⟩:=wu.mp e;have hi:i<n:=by simpa using h
 refine⟨hi,λv H' y =>?_⟩;obtain⟨rfl,rfl⟩:=y;refine⟨Same.refl',G1,Gr.refl,g2,?_⟩;rw[<- e'];simp only[List.getElem_map,List.getElem_range];rw[RD]
def z0v {K:W.Frag}{mg:WmP}{G:Hp}{i:Int}{v:V}(h:RD K mg G (.int i) v):v = .int i:=by rw[RD] at h;exact h
def rds1 {K:W.Frag}{mg:WmP}{G:Hp}{d:D}{vs:List V}(h:RDs K mg G [d] vs):∃v,vs=[v]/\RD K mg G d v:=by
 rw[RDs] at h;obtain⟨x,r,rfl,h1,h2⟩:=h;rw[RDs] at h2;subst h2;exact⟨x,rfl,h1⟩
def rds2 {K:W.Frag}{mg:WmP}{G:Hp}{d e:D}{vs:List V}(h:RDs K mg G [d,e] vs):∃v w,vs=[v,w]/\RD K mg G d v/\RD K mg G e w:=by
 rw[RDs] at h;obtain⟨x,r,rfl,h1,h2⟩:=h;obtain⟨y,rfl,h3⟩:=rds1 h2;exact⟨x,y,rfl,h1,h3⟩
def zcx {K:W.Frag}{mg:WmP}{G:Hp}{ds:List D}{vs:List V}{Kk:List D->Prop}(rds:RDs K mg G ds vs)(h:onR ds Kk):
  (∃j:Int,vs=[.int j] /\ -(2 ^ 62)<=j/\j<2 ^ 62/\Kk ((List.range j.toNat).map λ(k:Nat)=>D.int (0+(k:Int))))\/∃i j:Int,vs=[.int i,.int j]/\(-(2 ^ 62)<=i/\i<2 ^ 62 /\ -(2 ^ 62)<=j/\j<2 ^ 62)/\Kk ((List.range (j - i).toNat).map λ(k:Nat)=>D.int (i+(k:Int))):=by
 unfold onR at h
 split at h
 .obtain⟨v,rfl,r1⟩:=rds1 rds;refine .inl ⟨_,by rw[z0v r1],h.1.1,h.1.2,?_⟩;simpa using h.2
 .obtain⟨v,w,rfl,r1,r2⟩:=rds2 rds;exact .inr ⟨_,_,by rw[z0v r1,z0v r2],⟨h.1.1.1,h.1.1.2,h.1.2.1,h.1.2.2⟩,h.2⟩
 .exact h.elim
def z9v {K:W.Frag}{mg:WmP}{es:List Ex}{n:Nat}{σ:L2.St}{H:Hp}{Q Q':List V->Hp->Prop}(hl:es.length=n)(m:∀vs H1,vs.length=n->Q vs H1->Q' vs H1)(h:txa K mg E es σ H Q):txa K mg E es σ H Q':=by
 k_all;have len:∀(es:List Ex) (Q:List D->Prop),runs es ρ Q X0->runs es ρ (λds=>ds.length=es.length/\Q ds) X0:=by
  intro es
  induction es with
  | nil=>intro Q h;exact⟨rfl,h⟩
  | cons e es ih=>
   intro Q h;exact e.mono ρ _ _ X0 X0 (λd q=>z2N es ρ _ _ X0 X0 (λds q=>⟨by simp[q.1],q.2⟩) (λ_ z=>z) (ih _ q)) (λ_ z=>z) h
 exact⟨G,ρ,_,X0,hs,ab,len es Q0 hr,λds vs G1 H1 q g1 g2 g3 rds=>m vs H1 (by rw[rds.len,q.1,hl]) (hk ds vs G1 H1 q.2 g1 g2 g3 rds),hx⟩
def za4 {g:Tg}{es:List Ex}{wi:TI}(hp:PassesOwn (model X.prog X.w) X.A X.env X.xe)(hc:X.calm=true)(hg:QG X tg (tgt X.K g))(hb:QZs X E body t)
  (hri:∀σ H R,(txa X.K X.mg E es σ H λvs H1=>(∃j:Int,vs=[.int j] /\ -(2 ^ 62)<=j/\j<2 ^ 62/\R (Itr 0 j.toNat) H1)\/∃i j:Int,vs=[.int i,.int j]/\(-(2 ^ 62)<=i/\i<2 ^ 62 /\ -(2 ^ 62)<=j/\j<2 ^ 62)/\R (Itr i (j - i).toNat) H1)->wi σ H R) (hi':QI X tg iter wi)
  (hs:∀x,foldedSetIterable iter X.env x=pure x:=by intro _;rfl):
  QZ X E (.For tg iter body [] pos) (.forr es g t):=QS.imp (zdx hp hc hi' hg hb hs) <| by
 rintro De σ H ⟨H0,G0,G,ρ,N0,R0,X0,ab,hr,hn,hR,hx⟩;refine hri σ H _ ⟨plus G H (z25 ρ σ),ρ,λds=>onR ds λl=>forL g t N0 R0 X0 l ρ,X0,z3J ab.g,ab.abe,hr,λds vs G1 H1 q g1 g2 g3 rds =>?_,hx.same ab.s0⟩;obtain⟨ab',lm⟩:=ab.back g1 g2 g3
 rcases zcx rds q with ⟨j,e,h1,h2,q'⟩ | ⟨i,j,e,h1,q'⟩
 .exact .inl ⟨j,e,h1,h2,z4y (E:=E) ab' z54 q' (hn.same lm) hR hx⟩
 .exact .inr ⟨i,j,e,h1,z4y (E:=E) ab' z54 q' (hn.same lm) hR hx⟩
def zc6 {g:Tg}{p pos2:Pos}(hp:PassesOwn (model X.prog X.w) X.A X.env X.xe)(hc:X.calm=true)(hgr:Gl X "range")(hm:X.mg "range"=none)(ha:QXA X E [a] [x])(hg:QG X tg (tgt X.K g))(hb:QZs X E body t)(hst:starEach [a] X.env=[(false,eval a X.env)]:=by rfl)
  (hs:∀x,foldedSetIterable (.Call (.Name "range" p) [a] [] pos2) X.env x=pure x:=by intro _;rfl):QZ X E (.For tg (.Call (.Name "range" p) [a] [] pos2) body [] pos) (.forr [x] g t):=
 za4 hp hc hg hb (λσ H R h=>z9v (n:=1) rfl (λvs H1 hl q=>by
  rcases q with q | ⟨i,j,e,_⟩
  .exact q
  .rw[e] at hl;simp at hl) h) (za7 hgr hm ha hst) hs
def zc5 {g:Tg}{p pos2:Pos}(hp:PassesOwn (model X.prog X.w) X.A X.env X.xe)(hc:X.calm=true)(hgr:Gl X "range")(hm:X.mg "range"=none)(ha:QXA X E [a,b] [x,y])(hg:QG X tg (tgt X.K g))(hb:QZs X E body t)(hst:starEach [a,b] X.env=[(false,eval a X.env),(false,eval b X.env)]:=by rfl)(hst2:starEach [b] X.env=[(false,eval b X.env)]:=by rfl)
  (hs:∀x,foldedSetIterable (.Call (.Name "range" p) [a,b] [] pos2) X.env x=pure x:=by intro _;rfl):QZ X E (.For tg (.Call (.Name "range" p) [a,b] [] pos2) body [] pos) (.forr [x,y] g t):=
 za4 hp hc hg hb (λσ H R h=>z9v (n:=2) rfl (λvs H1 hl q=>by
  rcases q with ⟨j,e,_⟩ | q
  .rw[e] at hl;simp at hl
  .exact q) h) (za6 hgr hm ha hst hst2) hs
def iAny (K:W.Frag)(tl:TE):TI:=λσ H R=>tl σ H λx H1=>(∃a,x = .ref a/\(∃xs,SqL K H1 a xs)/\R (Itl K a) H1)\/∃a,x = .ref a/\(∃xs,SqT K H1 a xs)/\R (Itt K a) H1
def zgD (hl:QE X l tl):QI X tg l (iAny X.K tl):=by
 w_up
 intro pins s σ H R I h;refine thn (hl.p pins s σ H _ I h) λv s1 z9 =>?_;obtain⟨x,H1,I1,r1,q1⟩:=z9;have fp:∀b∈[s1.heap.objs.size],FpOk X pins H1 b:=λb hb=>by
  have e:b=s1.heap.objs.size:=by simpa using hb
  subst e;exact I1.fpOk (wx _) (I1.hok.fresh (wx _))
 rcases q1 with ⟨a,e,⟨xs,hq⟩,q⟩ | ⟨a,e,⟨xs,hq⟩,q⟩
 .subst e
  cases r1
  obtain⟨its,rv,p,hz⟩:=I1.list hq;refine wpAny_pyIter_list p.isList ?_;exact⟨s1.heap.objs.size,[s1.heap.objs.size],_,_,H1,rfl,I1.kept (t':=s1.toks) λb o e=>wo _ e,z9y a _,⟨_,wA _ rfl,rfl,rfl⟩,fp,q⟩
 .subst e
  cases r1
  obtain⟨its,rv,p,hz⟩:=I1.tuple hq;refine Wg (show s1.heap.IsTuple a its.toArray from p) ?_;exact⟨s1.heap.objs.size,[s1.heap.objs.size],_,_,H1,rfl,I1.kept (t':=s1.toks) λb o e=>wo _ e,z8K a _,⟨_,wA _ rfl,rfl,rfl⟩,fp,q⟩
def z9r {K:W.Frag}{mg:WmP}{G:Hp}{a:Addr}{xs:List V}{l:List D}(h:SqL K G a xs)(r:RDs K mg G l xs):Walk K mg G l (Itl K a):=λi G1 H g1 g2=>by
 have hH:=z13 (z01 g1 g2) h;refine⟨λd e =>?_,λhi=>⟨xs,hH,by rw[r.len];exact hi⟩⟩;obtain⟨v,ev,rv⟩:=r.get e;refine⟨⟨xs,v,hH,ev⟩,λv' H' y =>?_⟩;obtain⟨rfl,y⟩:=y;have:=y xs hH;rw[ev] at this
 cases this
 exact⟨Same.refl',G1,Gr.refl,g2,rv.same g1⟩
def zbB {K:W.Frag}{mg:WmP}{G:Hp}{a:Addr}{xs:List V}{l:List D}(h:SqT K G a xs)(r:RDs K mg G l xs):Walk K mg G l (Itt K a):=λi G1 H g1 g2=>by
 have hH:=z0F (z01 g1 g2) h;refine⟨λd e =>?_,λhi=>⟨xs,hH,by rw[r.len];exact hi⟩⟩;obtain⟨v,ev,rv⟩:=r.get e;refine⟨⟨xs,v,hH,ev⟩,λv' H' y =>?_⟩;obtain⟨rfl,y⟩:=y;have:=y xs hH;rw[ev] at this
 cases this
 exact⟨Same.refl',G1,Gr.refl,g2,rv.same g1⟩
def qi_x (h:QX X E iter x):QXI X E tg iter x:=QI.imp (zgD h) <| by
 rintro σ H R ⟨G,ρ,Q0,X0,hs,ab,hr,hz,hk,hx⟩;refine⟨G,ρ,Q0,X0,hs,ab,hr,λd v G1 H1 q g1 g2 g3 rd =>?_,hx⟩
 cases d with
 | lst l=>
  rw[RD] at rd;obtain⟨a,xs,rfl,h1,h2⟩:=rd;exact .inl ⟨a,rfl,⟨xs,z13 g2 h1⟩,hk _ G1 H1 q g1 g2 g3 l _ rfl (z9r h1 h2)⟩
 | tup l=>
  rw[RD] at rd;obtain⟨a,xs,rfl,h1,h2⟩:=rd;exact .inr ⟨a,rfl,⟨xs,z0F g2 h1⟩,hk _ G1 H1 q g1 g2 g3 l _ rfl (zbB h1 h2)⟩
 | _=>
  obtain⟨l,e⟩:=hz _ q
  cases e
end
section
variable {K:W.Frag}{mg:WmP}{H0 G0 G G1 H H1:Hp}{ρ:Pu.Env}{σ:L2.St}{i:Nat}
def z6N {Kk:List D->Prop}(h:ownL ρ i Kk):∃l,ρ[i]? = some (B.o (.lst l))/\Kk l:=by
 unfold ownL at h
 split at h
 .rename_i l e;exact⟨l,e,h⟩
 .exact h.elim
def zcu:(λa=>∃(j:Nat) (d:D),True/\ρ[j]? = some (B.o d)/\σ[j]? = some (some (V.ref a)))=z25 ρ σ:=by
 funext a
 exact propext ⟨λ⟨j,d,_,h⟩=>⟨j,d,h⟩,λ⟨j,d,h⟩=>⟨j,d,trivial,h⟩⟩
def z8U {v:V}(h:AbS K mg H0 G0 G ρ σ H)(g2:Same G1 H1)(g3:Same H H1)(sf:Safe d ρ)(rd:RD K mg G1 d v):RD K mg (minus G1 (z25 ρ σ)) d v:=by
 have:=z7B h g2 g3 sf rd;rw[zcu] at this;exact this
def AbS.wrB (ab:AbS K mg H0 G0 G ρ σ H)(g1:Gr (plus G H (z25 ρ σ)) H G1)(g2:Same G1 H1)(g3:Same H H1)(hi:ρ[i]? = some (B.o (.lst l)))(hs:σ[i]? = some (some (V.ref a)))(hr:RDs K mg (minus G1 (z25 ρ σ)) l' ys):
  AbS K mg H0 G0 (minus G1 (z25 ρ σ)) (ρ.set i (.o (.lst l'))) σ (upd H1 a (.lst ys))/\Same G (minus G1 (z25 ρ σ)):=by
 have lm:Same G (minus G1 (z25 ρ σ)):=z3t (z01 (z2B ab.free) g1.1) ab.free;exact⟨ab.wr (λa o e=>ab.nw1 g1 a o (z2g a o e)) lm (z01 z2g g2) g3 (λj d' a e s=>z4e ⟨j,d',e,s⟩) hi hs ⟨ys,z0b,hr⟩,lm⟩
end
section
variable {X:Cx}{E:XK}{st:Stmt}{t:Sm}{e o tg:Expr}{x y z:Ex}{pos cpos apos:Pos}{i j:Nat}
def zgk (ho:QE X o (tVar i))(ha:QXA X E [e] [x])
  (hs:swapsWith (.Call (.Attribute o "append" apos) [e] [] cpos) none pos.line X.env=pure false:=by rfl)
  (hbase:attributeBase o "append" X.env (eval o X.env)=eval o X.env:=by rfl)
  (hfew:((backTo cpos (starEach [e] X.env)).all (λx => !x.1) && (backToKw cpos (keywordEach [] X.env)).all (λx=>x.1.isSome)
   && decide ([e].length+([]:List Keyword).length+(if ([]:List Keyword).isEmpty then 0 else 1)<30))=true:=by rfl)
  (hline:(apos.endLine == cpos.line)=true:=by rfl) (hst:starEach [e] X.env=(false,eval e X.env)::starEach [] X.env:=by rfl) (hplain:(backTo cpos (starEach [] X.env)).any (·.1)=false:=by rfl):
  QZ X E (.Expr (.Call (.Attribute o "append" apos) [e] [] cpos) pos) (.app i x):=
 QS.imp (za5 (ziW PySem.F.plainAttrs_list PySem.F.slot_list_append PySem.F.type_list_append z4Z ho ha hbase hfew hline hst hplain) hs) <| by
  rintro De σ H ⟨H0,G0,G,ρ,N0,R0,X0,ab,hr,hn,hR,hx⟩;obtain⟨l,hl,hr⟩:=z6N hr;obtain⟨a,s1,ga,h0,xs,hw,hrd⟩:=ab.ow i _ hl;refine⟨.ref a,s1,.inl ⟨rfl,xs,SqL.of hw⟩,?_⟩;refine⟨plus G H (z25 ρ σ),ρ,λds=>∃d,ds=[d]/\l.length<sizeLine/\Safe d ρ/\N0 (ρ.set i (.o (.lst (l++[d])))),X0,z3J ab.g,ab.abe,x.mono ρ _ _ X0 X0 (λd q=>⟨d,rfl,q⟩) (λ_ z=>z) hr,?_,hx.same ab.s0⟩;rintro ds vs G1 H1 ⟨d,rfl,hsz,sf,hN⟩ g1 g2 g3 rds;obtain⟨v,rfl,rd⟩:=rds1 rds;refine⟨a,xs,v,rfl,rfl,g3 _ _ hw,by rw[hrd.len];exact hsz,?_⟩;have lm:Same G (minus G1 (z25 ρ σ)):=z3t (z01 (z2B ab.free) g1.1) ab.free;obtain⟨ab',g'⟩:=ab.wrB (i:=i) (l':=l++[d]) (ys:=xs++[v]) g1 g2 g3 hl s1 ((hrd.same lm).app (RDs.cons (z8U ab g2 g3 sf rd) RDs.nil));exact hn _ σ _ _ hN ab' g'
def RDs.last {K:W.Frag}{mg:WmP}{G:Hp}{l:List D}{xs:List V}(h:RDs K mg G l xs):RDs K mg G l.dropLast xs.dropLast:=by
 rw[List.dropLast_eq_take,List.dropLast_eq_take,h.len];exact h.take _
def zac {l:List D}{Kk:List D->D->Prop}(h:popL l Kk):∃d,l[l.length - 1]? = some d/\Kk l.dropLast d:=by
 unfold popL at h
 split at h
 .rename_i d e;exact⟨d,e,h⟩
 .exact h.elim
def zfC {K:W.Frag}{mg:WmP}{H0 G0 G H:Hp}{ρ:Pu.Env}{σ:L2.St}{l l':List D}{a:Addr}{ys:List V}(ab:AbS K mg H0 G0 G ρ σ H)(hi:ρ[i]? = some (B.o (.lst l)))(hs:σ[i]? = some (some (V.ref a)))(hr:RDs K mg G l' ys):AbS K mg H0 G0 G (ρ.set i (.o (.lst l'))) σ (upd H a (.lst ys)):=
 ab.wr ab.nw Same.refl' ab.g Same.refl' (λj d' a e s=>ab.free a ⟨j,d',e,s⟩) hi hs ⟨ys,z0b,hr⟩
def zgf (ho:QE X o (tVar i))(hs:swapsWith (.Call (.Attribute o "pop" apos) [] [] cpos) none pos.line X.env=pure false:=by rfl)(hbase:attributeBase o "pop" X.env (eval o X.env)=eval o X.env:=by rfl)(hline:(apos.endLine == cpos.line)=true:=by rfl):
  QZ X E (.Expr (.Call (.Attribute o "pop" apos) [] [] cpos) pos) (.pop i):=
 QS.imp (za5 (zgP PySem.F.plainAttrs_list PySem.F.slot_list_pop PySem.F.type_list_pop zhL ho hbase hline) hs) <| by
  rintro De σ H ⟨H0,G0,G,ρ,N0,R0,X0,ab,hr,hn,hR,hx⟩;obtain⟨l,hl,hr⟩:=z6N hr;obtain⟨d,hd,hN⟩:=zac hr;obtain⟨a,s1,ga,h0,xs,hw,hrd⟩:=ab.ow i _ hl;refine⟨.ref a,s1,.inl ⟨rfl,xs,SqL.of hw⟩,?_⟩;obtain⟨v,hv,rv⟩:=hrd.get hd;exact⟨a,xs,v,rfl,rfl,hw,by rw[hrd.len];exact hv,hn _ σ _ G hN (zfC ab hl s1 hrd.last) Same.refl'⟩
def zcQ (h:isI d Kk):∃k,d = .int k/\Kk k:=by
 cases d with
 | int k=>exact⟨k,rfl,h⟩
 | _=>exact h.elim
end
section
variable {P:Program}{w:World}{K:W.Frag}{mg:WmP}{base:Heap}{N:List Str}{qual:Str}{f:Addr}
def z82 {vs:List V}(hs:Same G H)(r:RDs K mg G ds vs)(hl:ds.length=np)(hN:N.length=nn):AbS K mg H G G (ds.map B.s++List.replicate (nn - np) .n) (L2.start N vs) H:=by
 have hn:∀(i:Nat) (b:B),(ds.map B.s++List.replicate (nn - np) .n)[i]? = some b->(∃d,b = .s d/\ds[i]? = some d)\/b = .n:=λi b e=>by
  by_cases hi:i<ds.length
  .rw[wN (by simpa using hi),wB] at e;rw[wp hi] at e ⊢
   cases e
   exact .inl ⟨_,rfl,rfl⟩
  .rw[w9 (by simpa using hi)] at e;have:=wu.mp e;obtain⟨h1,h2⟩:=this;simp at h2;exact .inr h2.symm
 refine⟨?_,Same.refl',Same.refl',hs,λa o e =>.inl ⟨o,e⟩,λi d e =>?_,λi d e =>?_,λi j d d' a _ e =>?_⟩
 .unfold L2.start;rw[wL,wL,wg,wg,uo,uo,r.len,hl,hN]
 .rcases hn i _ e with ⟨d',e1,e2⟩ | e1
  .cases e1
   obtain⟨v,h1,h2⟩:=r.get e2;refine⟨v,?_,h2⟩;unfold L2.start;have hi:i<vs.length:=(wu.mp h1).1;rw[wN (by simpa using hi),wB,h1]
   rfl
  .cases e1
 .rcases hn i _ e with ⟨d',e1,e2⟩ | e1 <;> cases e1
 .rcases hn i _ e with ⟨d',e1,e2⟩ | e1 <;> cases e1
def fnN {st:Stmt}{ps:List Str}{k np nn:Nat}(F:Fun K x qual st f fd)(S:z3h N ps (z00 st))(hp:ps.length=np)(hN:N.length=nn)
  (hb:∀(cdv:Value) (A:Around) (outer:List PySem.Env) (s:Shared) (H:Hp) (E:XK),Room k (A.deeper (envOfC qual (z00 st) s.heap.objs.size f cdv))->QZs ((cxOf (CXe P w) P w K mg base N qual (z00 st) f cdv A outer s H E).wish λ_ _=>False) E0 (z0C st) b):
  FnOk P w K mg base (CXe P w) (k+1) f fd ps (spP K mg (Fn.mkN np nn b)):=by
 refine F.okN S (λvs H Q E ⟨G,ds,Q0,X0,hs,rds,⟨hl,hr⟩,hk,hx⟩=>by rw[rds.len,hl,hp]) λcdv A outer s H vs Q E hroom ⟨G,ds,Q0,X0,hs,rds,⟨hl,hr⟩,hk,hx⟩=>⟨_,hb cdv A outer s H E hroom,?_⟩
 refine⟨H,G,G,_,λ_=>Q0 .non,Q0,λ_=>False,z82 hs rds hl hN,hr,λρ' σ' H' G' q ab _ =>?_,hk,Kx.no⟩;exact hk .non .non G' H' q ⟨ab.g0,ab.nw⟩ ab.g ab.s0 (by rw[RD])
end
def Tg.slots:Tg->List Nat
 | .nm i=>[i]
 | .tp is=>is
section
variable {K:W.Frag}{mg:WmP}{G G1 H H1:Hp}{ρ:Pu.Env}{σ:L2.St}
def AbE.put {i:Nat}{d:D}{v:V}(h:AbE K mg G ρ σ)(hi:i < σ.length)(r:RD K mg G d v):AbE K mg G (ρ.set i (.s d)) (σ.set i (some v)):=λj e q=>by
 rw[Env.get_eq] at q
 by_cases hj:j=i
 .subst hj
  cases z:(ρ.set j (.s d))[j]? with
  | none=>rw[z] at q;cases q
  | some b=>
   have hl:j < ρ.length:=by
    have:=(wu.mp z).1;o_rec
   rw[wW hl] at q
   cases q
   exact⟨v,by rw[wW hi],r⟩
 .rw[wI (vU hj), <- Env.get_eq] at q;obtain⟨w,h1,h2⟩:=h j e q;exact⟨w,by rw[wI (vU hj)];exact h1,h2⟩
def AbE.keep {i:Nat}{v:V}(h:AbE K mg G ρ σ)(hn:ρ.get i=none):AbE K mg G ρ (σ.set i (some v)):=λj e q=>by
 have hj:j≠i:=λz=>by rw[z,hn] at q;cases q
 obtain⟨w,h1,h2⟩:=h j e q;exact⟨w,by rw[wI (vU hj)];exact h1,h2⟩
theorem AbE.putAll:∀(is:List Nat) (ds:List D) (vs:List V) {ρ:Pu.Env}{σ:L2.St},is.length=ds.length->RDs K mg G ds vs->(∀i∈is,i < σ.length)->(∀i∈is,base.get i=none)->AbE K mg G ρ σ->AbE K mg G base σ->
  AbE K mg G (z1E is ds ρ) ((is.zip vs).foldl (λσ p=>σ.set p.1 (some p.2)) σ)/\AbE K mg G base ((is.zip vs).foldl (λσ p=>σ.set p.1 (some p.2)) σ)/\((is.zip vs).foldl (λσ p=>σ.set p.1 (some p.2)) σ).length=σ.length
 | [],[],vs,ρ,σ,_,h,_,_,ab,bb=>by rw[RDs] at h;subst h;exact⟨ab,bb,rfl⟩
 | [],_::_,_,_,_,h,_,_,_,_,_=>by simp at h
 | _::_,[],_,_,_,h,_,_,_,_,_=>by simp at h
 | i::is,d::ds,vs,ρ,σ,h,r,hl,hn,ab,bb=>by
  rw[RDs] at r;obtain⟨v,vs',rfl,h1,h2⟩:=r;obtain⟨a1,a2,a3⟩:=AbE.putAll (base:=base) is ds vs' (ρ:=ρ.set i (.s d)) (σ:=σ.set i (some v)) (by simpa using h) h2 (λj hj=>by rw[List.length_set];exact hl j (wm _ hj)) (λj hj=>hn j (wm _ hj)) (ab.put (hl i wJ) h1) (bb.keep (hn i wJ));exact⟨a1,a2,by rw[jb,List.foldl_cons,a3,List.length_set]⟩
def zbF {v:V}(ab:AbE K mg G ρ σ)(g:Same G H)(rd:RD K mg G d v)(hl:∀i∈tg.slots,i < σ.length)(hf:∀i∈tg.slots,ρ.get i=none)(hp:tg.put d ρ N0)
  (hn:∀ρ' σ',N0 ρ'->AbE K mg G ρ' σ'->AbE K mg G ρ σ'->σ'.length=σ.length->N σ' H):tgt K tg v σ H N:=by
 cases tg with
 | nm i=>
  have h1:=hl i (by simp[Tg.slots]);have h2:=hf i (by simp[Tg.slots]);exact hn _ _ hp (ab.put h1 rd) (ab.keep h2) (by simp)
 | tp is=>
  cases d with
  | tup ds=>
   obtain⟨hle,hp⟩:=hp;rw[RD] at rd;obtain⟨a,xs,rfl,h1,h2⟩:=rd;obtain⟨a1,a2,a3⟩:=AbE.putAll (base:=ρ) is ds xs (ρ:=ρ) (σ:=σ) hle h2 hl hf ab ab;exact⟨a,xs,rfl,z0F g h1,by rw[h2.len,hle],z4x (K:=K) is xs σ H N (by rw[h2.len,hle]) (hn _ _ hp a1 a2 a3)⟩
  | _=>exact hp.elim
def z5t (h:AbE K mg G ρ σ):AbE K mg G (z0s nt js ρ) (List.replicate nt none++js.map λj=>(σ[j]?).getD none):=λi d e=>by
 rw[Env.get_eq] at e;unfold z0s at e
 by_cases hi:i<nt
 .rw[wN (by simpa using hi),jy,if_pos hi] at e
  cases e
 .rw[w9 (by simpa using hi),uo,wB] at e;rw[w9 (by simpa using hi),uo,wB]
  cases q:js[i - nt]? with
  | none=>rw[q] at e;cases e
  | some j=>
   rw[q] at e;have e':((ρ[j]?).getD .n).get=some d:=e;have e2:ρ.get j=some d:=by
    rw[Env.get_eq]
    cases z:ρ[j]? with
    | none=>rw[z] at e';cases e'
    | some b=>rw[z] at e';exact e'
   obtain⟨v,h1,h2⟩:=h j d e2;refine⟨v,?_,h2⟩;show some ((σ[j]?).getD none)=some (some v);rw[h1];rfl
def z7f (hi:i<nt):(z0s nt js ρ).get i=none:=by
 rw[Env.get_eq];unfold z0s;rw[wN (by simpa using hi),jy,if_pos hi]
 rfl
def TcOk (K:W.Frag)(mg:WmP)(c:Option Ex)(tc:TT):Prop:=match c with
 | none=>tc=z6v
 | some c=>tc=tt K mg E0 c
def zcI {c:Option Ex}(hts:∀i∈tg.slots,i<nt)(ab:AbE K mg G ρ σ)(g:Same G H)(hw:Walk K mg G l J)(hsz:l.length<sizeLine)
  (hr:z2R (z2G tg c elt (z0s nt js ρ)) l Q0)
  (htc:TcOk K mg c tc)
  (hk:∀rs ys p G2 H2,Q0 rs->Gr G H G2->Same G2 H2->Same H H2->RDs K mg G2 rs ys->H2 p=none->Q (.ref p) (upd H2 p (.lst ys))):
  LcG J (tgt K tg) tc (tx K mg E0 elt) Q (List.replicate nt none++js.map λj=>(σ[j]?).getD none) H:=by
 refine⟨λi m ys σ' H'=>m=l.length - i/\i<=l.length/\ys.length<=i/\σ'.length=nt+js.length/\∃G' rs,Gr G H G'/\Same G' H'/\Same H H'/\RDs K mg G' rs ys/\AbE K mg G' (z0s nt js ρ) σ'/\z2R (z2G tg c elt (z0s nt js ρ)) (l.drop i) λr=>Q0 (rs++r),
  ⟨l.length,by simp,vy _,by simp,by simp,G,[],Gr.refl,g,Same.refl',RDs.nil,z5t ab,by simpa using hr⟩,?_⟩
 rintro i m ys σ1 H1 ⟨rfl,hi,hyl,hsl,G1,rs,g1,g2,g3,rds,ab1,h1⟩;refine⟨by lia,?_⟩;obtain⟨w1,w2⟩:=hw i G1 H1 g1.1 g2
 by_cases hlt:i<l.length
 .have e:l[i]? = some l[i]:=by simp[hlt]
  obtain⟨go,yl⟩:=w1 _ e;rw[vJ hlt] at h1;have h1':z2G tg c elt (z0s nt js ρ) l[i] (λo=>z2R (z2G tg c elt (z0s nt js ρ)) (l.drop (i+1)) λr=>Q0 (rs++(o.toList++r))):=h1;unfold z2G at h1';refine .inr ⟨go,λv H2 y =>?_⟩;obtain⟨s2,G2,k1,k2,rd⟩:=yl v H2 y;refine zbF (ab1.same k1.1) k2 rd (λj hj=>by rw[hsl];have:=hts j hj;lia) (λj hj=>z7f (hts j hj)) h1' λρ3 σ3 hb ab3 bb3 hl3 =>?_;have el:∀{G3 H3:Hp},Gr G2 H2 G3->Same G3 H3->Same H2 H3->(elt.run ρ3 (λd=>z2R (z2G tg c elt (z0s nt js ρ)) (l.drop (i+1)) λr=>Q0 (rs++((some d:Option D).toList++r))) λ_=>False)->
    tx K mg E0 elt σ3 H3 λy H4=>∃m',m'<l.length - i/\m'=l.length - (i+1)/\i+1<=l.length/\(ys++[y]).length<=i+1/\σ3.length=nt+js.length/\∃G' rs',Gr G H G'/\Same G' H4/\Same H H4/\RDs K mg G' rs' (ys++[y])/\AbE K mg G' (z0s nt js ρ) σ3/\z2R (z2G tg c elt (z0s nt js ρ)) (l.drop (i+1)) λr=>Q0 (rs'++r):=λ{G3 H3} k3 k4 k5 he=>by
   refine⟨G3,ρ3,_,λ_=>False,k4,ab3.same k3.1,he,λd v' G4 H4 q n1 n2 n3 rd' =>?_,Kx.no⟩;refine⟨l.length - (i+1),by lia,rfl,hlt,by simp;lia,by rw[hl3,hsl],G4,rs++[d],g1.trans g3 (k1.trans s2 (k3.trans k5 n1)),n2,z01 g3 (z01 s2 (z01 k5 n3)),((rds.same (z01 k1.1 (z01 k3.1 n1.1))).app (RDs.cons rd' RDs.nil)),bb3.same (z01 k3.1 n1.1),?_⟩;refine z1T z2r _ _ _ (λr q =>?_) q;simpa using q
  cases c with
  | none=>
   have:tc=z6v:=htc;subst this;unfold z6v;dsimp only;rw[if_pos rfl];exact el Gr.refl k2 Same.refl' hb
  | some c=>
   have:tc=tt K mg E0 c:=htc;subst this;refine⟨G2,ρ3,_,λ_=>False,k2,ab3,hb,λd G3 H3 q k3 k4 k5 =>?_,Kx.no⟩;obtain⟨b,rfl,q1,q2⟩:=z55 q;refine⟨b,rfl,?_⟩
   cases b with
   | true=>exact iteT (el k3 k4 k5 (q1 rfl))
   | false=>
    refine iteF ⟨l.length - (i+1),by lia,rfl,hlt,by lia,by rw[hl3,hsl],G3,rs,g1.trans g3 (k1.trans s2 k3),k4,z01 g3 (z01 s2 k5),rds.same (z01 k1.1 k3.1),bb3.same k3.1,?_⟩;refine z1T z2r _ _ _ (λr q =>?_) (q2 rfl);simpa using q
 .have e:i=l.length:=by lia
  subst e;rw[List.drop_length] at h1;refine .inl ⟨w2 (wx _),λp hp=>hk rs ys p G1 H1 ?_ g1 g2 g3 rds hp⟩;have h1':Q0 (rs++[]):=h1;simpa using h1'
def ze8 {c:Option Ex}(hts:∀i∈tg.slots,i<nt)(htc:TcOk K mg c tc)(h:tf K mg E (.comp nt js tg src c elt) σ H Q):tLcG (ti K mg E src) (tgt K tg) tc (tx K mg E0 elt) nt js σ H Q:=by
 k_all;refine⟨G,ρ,_,X0,hs,ab,hr,λd q=>(z8i q).imp λ_ z=>z.1,λd G1 H1 q g1 g2 g3 l J el hw =>?_,hx⟩;have q':onL (z02 d) λl=>l.length<sizeLine/\z2R (z2G tg c elt (z0s nt js ρ)) l λr=>Q0 (.lst r):=q;rw[el] at q';refine zcI hts (ab.same g1.1) g2 hw q'.1 q'.2 htc λrs ys p G2 H2 hq k1 k2 k3 rds hp =>?_;have hn:∀{A:Hp},Same A H2->A p=none:=λs=>z0Y s hp;refine hk (.lst rs) p G2 (upd H2 p (.lst ys)) hq (g1.trans g3 k1) (z01 k2 (z0i hp _)) (z01 g3 (z01 k3 (z0i hp _))) (hn (z01 g3 k3)) (hn k2) ⟨ys,z0b,rds⟩
end
section
variable {X:Cx}{E:XK}{elt iter target:Expr}{ct:Option Expr}{pos spos py:Pos}{scope:Scope}{N':List Str}{nt:Nat}{js:List Nat}{tg:Tg}{src x:Ex}{c:Option Ex}{y:Str}{iy:Nat}
def CtOk (X:Cx)(scope:Scope)(N':List Str)(ct:Option Expr)(c:Option Ex):Prop:=match ct,c with
 | none,none=>True
 | some e,some x=>∀(C:Addr) (s:Shared) (H:Hp) (fp:List Addr),QXT (X.compG scope N' C s H fp) E0 e x
 | _,_=>False
def CtQ (X:Cx)(scope:Scope)(N':List Str)(ct:Option Expr)(tc:TT):Prop:=match ct with
      | none=>tc=z6v
      | some c=>∀(C:Addr) (s:Shared) (H:Hp) (fp:List Addr),QT (X.compG scope N' C s H fp) c tc
def zd7 (h:CtOk X scope N' ct c):∃tc:TT,CtQ X scope N' ct tc/\TcOk X.K X.mg c tc:=by
 cases ct with
 | none=>
  cases c with
  | none=>exact⟨z6v,rfl,rfl⟩
  | some c=>exact h.elim
 | some e=>
  cases c with
  | none=>exact h.elim
  | some c=>exact⟨tt X.K X.mg E0 c,h,rfl⟩
def zeE (hc:X.calm=true)(hi:QXI X E target iter src)(hk:scope.kind = .function)(cp:z2S X N' nt js scope)(hts:tg.slots.all (· < nt)=true)
  (hg:∀(C:Addr) (s:Shared) (H:Hp) (fp:List Addr),QG (X.compG scope N' C s H fp) target (tgt X.K tg)) (ht:CtOk X scope N' ct c)
  (he:∀(C:Addr) (s:Shared) (H:Hp) (fp:List Addr),QX (X.compG scope N' C s H fp) E0 elt x) (hs:∀x,foldedSetIterable iter X.env x=pure x:=by intro _;rfl):QF X E (.ListComp elt [⟨target,iter,ct.toList,0⟩] scope pos) (.comp nt js tg src c x):=by
 obtain⟨tc,h1,h2⟩:=zd7 ht;exact QE.imp (zgN hc hi hk cp hg h1 he hs) λσ H Q h=>ze8 (λi hi=>ur (jC.mp hts i hi)) h2 h
def zgF (hN:X.N.Nodup)(hi:X.N[i]? = some z)(hx:X.env.scope.names.lookup z=some .local):QG X (.Name z pos) (tgt X.K (.nm i)):=zgG hN hi hx
def pTup:Fn:=⟨λds Q _=>ds.length<=sizeLine/\Q (.tup ds),λds Q Q' X X' m _ q=>⟨q.1,m _ q.2⟩⟩
def pLst:Fn:=⟨λds Q _=>ds.length<=sizeLine/\Q (.lst ds),λds Q Q' X X' m _ q=>⟨q.1,m _ q.2⟩⟩
def zgl {x1}(h:QXA X E es xs):QX X E (.Tuple es x1 pos) (.op pTup xs):=QE.imp (⟨zh0 h.p⟩:QE X (.Tuple es x1 pos) _) <| by
 kt_k;refine⟨G,ρ,_,X0,hs,ab,hr,λds vs G1 H1 q g1 g2 g3 rds=>⟨by rw[rds.len];exact q.1,λp hp =>?_⟩,hx⟩;refine(hk.same g1 g3).new g2 hp q.2 ?_;rw[RD];exact⟨p,vs,rfl,SqT.of z0b,rds.same (z0i (z0Y g2 hp) _)⟩
def zgH (h:QXA X E es xs):QF X E (.List es pos) (.op pLst xs):=QE.imp (zgM h) <| by
 kt_k;refine⟨G,ρ,_,X0,hs,ab,hr,λds vs G1 H1 q g1 g2 g3 rds=>⟨by rw[rds.len];exact q.1,λp hp =>?_⟩,hx⟩;exact hk (.lst ds) p G1 (upd H1 p (.lst vs)) q.2 g1 (z01 g2 (z0i hp _)) (z01 g3 (z0i hp _)) (z0Y g3 hp) (z0Y g2 hp) ⟨vs,z0b,rds⟩
end
def fn2 (g:D->D->DK->Prop)(m:∀a b (Q Q':DK),(∀d,Q d->Q' d)->g a b Q->g a b Q'):Fn:=⟨λds Q _=>match ds with
 | [a,b]=>g a b Q
 | _=>False,λds Q Q' X X' mm _ q=>by
 match ds,q with
 | [a,b],q=>exact m a b Q Q' mm q
 | [],q=>exact q.elim
 | [_],q=>exact q.elim
 | _::_::_::_,q=>exact q.elim⟩
def fn1 (g:D->DK->Prop)(m:∀a (Q Q':DK),(∀d,Q d->Q' d)->g a Q->g a Q'):Fn:=⟨λds Q _=>match ds with
 | [a]=>g a Q
 | _=>False,λds Q Q' X X' mm _ q=>by
 match ds,q with
 | [a],q=>exact m a Q Q' mm q
 | [],q=>exact q.elim
 | _::_::_,q=>exact q.elim⟩
def z8h (m:∀d,Q d->Q' d)(h:onV o Q):onV o Q':=by
 cases o with
 | none=>exact h
 | some d=>exact m _ h
def z8g (h:onV o Q):∃d,o=some d/\Q d:=by
 cases o with
 | none=>exact h.elim
 | some d=>exact⟨d,rfl,h⟩
def gAdd (a b:D)(Q:DK):Prop:=match a,b with
 | .int i,.int j=>Q (.int (i+j))
 | .lst l,.lst m=>l.length+m.length<=sizeLine/\Q (.lst (l++m))
 | .tup l,.tup m=>l.length+m.length<=sizeLine/\Q (.tup (l++m))
 | _,_=>False
def zb2 (a b:D)(Q Q':DK)(m:∀d,Q d->Q' d)(h:gAdd a b Q):gAdd a b Q':=by
 unfold gAdd at h ⊢
 split at h
 .exact m _ h
 .exact⟨h.1,m _ h.2⟩
 .exact⟨h.1,m _ h.2⟩
 .exact h.elim
def pAdd:Fn:=fn2 gAdd zb2
def gI (g:Int->Int->DK->Prop)(a b:D)(Q:DK):Prop:=match a,b with
 | .int i,.int j=>g i j Q
 | _,_=>False
def zb1 (hg:∀i j (Q Q':DK),(∀d,Q d->Q' d)->g i j Q->g i j Q')(a b:D)(Q Q':DK)(m:∀d,Q d->Q' d)(h:gI g a b Q):gI g a b Q':=by
 unfold gI at h ⊢
 split at h
 .exact hg _ _ _ _ m h
 .exact h.elim
def fnI (g:Int->Int->DK->Prop)(hg:∀i j (Q Q':DK),(∀d,Q d->Q' d)->g i j Q->g i j Q'):Fn:=fn2 (gI g) (zb1 hg)
def pSub:Fn:=fnI (λi j Q=>Q (.int (i - j))) λ_ _ _ _ m h=>m _ h
def z0D:Fn:=fnI (λi j Q=>zir i j/\Q (.int (i.fdiv j))) λ_ _ _ _ m h=>⟨h.1,m _ h.2⟩
def pMod:Fn:=fnI (λi j Q=>j≠0/\Q (.int (i.fmod j))) λ_ _ _ _ m h=>⟨h.1,m _ h.2⟩
def pPow:Fn:=fnI (λi j Q=>CPow i j/\Q (.int (i ^ j.toNat))) λ_ _ _ _ m h=>⟨h.1,m _ h.2⟩
def gNeg (a:D)(Q:DK):Prop:=match a with
 | .int i=>Q (.int (-i))
 | _=>False
def pNeg:Fn:=fn1 gNeg λa Q Q' m h=>by
 unfold gNeg at h ⊢
 split at h
 .exact m _ h
 .exact h.elim
section
variable {X:Cx}{K:W.Frag}{mg:WmP}
def r2 (K:W.Frag)(mg:WmP)(F:Fn):R2:=λv1 v2 H Q=>∃G d1 d2 Q0 X0,Same G H/\RD K mg G d1 v1/\RD K mg G d2 v2/\F.run [d1,d2] Q0 X0/\Kt K mg G H Q0 Q
def r1 (K:W.Frag)(mg:WmP)(F:Fn):V->Hp->VK->Prop:=λv H Q=>∃G d Q0 X0,Same G H/\RD K mg G d v/\F.run [d] Q0 X0/\Kt K mg G H Q0 Q
def rN (K:W.Frag)(mg:WmP)(F:Fn):List V->Hp->VK->Prop:=λvs H Q=>∃G ds Q0 X0,Same G H/\RDs K mg G ds vs/\F.run ds Q0 X0/\Kt K mg G H Q0 Q
def lk2:Lk2 K mg F (r2 K mg F):=λG H d1 d2 v1 v2 Q0 X0 Q a b c d e=>⟨G,d1,d2,Q0,X0,a,b,c,d,e⟩
def lk1:Lk1 K mg F (r1 K mg F):=λG H d v Q0 X0 Q a b c d=>⟨G,_,Q0,X0,a,b,c,d⟩
def lkN:LkN K mg F (rN K mg F):=λG H d v Q0 X0 Q a b c d=>⟨G,_,Q0,X0,a,b,c,d⟩
def zda {E:WvP}{s:Shared}{ws:List Value}{Q:WvP}(ht:IsTup s.heap t ([]:List Value).toArray)(hb:IsTup s.heap b ws.toArray)(h:Q (.ref b) s):wpAny (model prog w) A (binaryOp .Add (.ref t) (.ref b)) Q E s:=by
 obtain⟨⟨cls,dd,data,sl⟩,ho,hc,n,hd⟩:=id ht;obtain⟨⟨cls2,dd2,data2,sl2⟩,ho2,hc2,n2,hd2⟩:=id hb;simp only at hc hd hc2 hd2;subst hc hd hc2 hd2;exact concat_meets ⟨_,ho,rfl⟩ ⟨_,ho2,rfl⟩ noFill_tuple_add seq_tuple_add PySem.F.slot_tuple_add PySem.F.entry_tuple_add (PySem.F.args_tuple_add_2 _ _)
   (tuple_addW0 t b _ ws.toArray n n2 dd dd2 sl sl2 (by simp)) ⟨ho,ho2,h⟩
def zcw:OpR X (binaryOp .Add) (λx y H Q=>∃a b ys,x = .ref a/\y = .ref b/\SqT X.K H a []/\SqT X.K H b ys/\Q (.ref b) H):=by
 z_go;obtain⟨a,b,ys,rfl,rfl,ha,hb,q⟩:=h
 cases rx
 cases ry
 obtain⟨its,r1,p1,_⟩:=I.tuple ha;obtain⟨its2,r2,p2,_⟩:=I.tuple hb
 cases r1
 exact zda p1 p2 ⟨.ref b,H,I,rfl,q⟩
def ziE (K:W.Frag):R2:=λx y H Q=>∃l b xs zs,x = .ref l/\y = .ref b/\SqL K H l xs/\SqL K H b zs/\xs.length+zs.length<=sizeLine/\∀p,H p=none->Q (.ref p) (upd H p (.lst (xs++zs)))
def zf0:OpR X (binaryOp .Add) (ziE X.K):=by
 z_go;obtain⟨l,b,xs,zs,rfl,rfl,hH,hB,hz,q⟩:=h
 cases rx
 cases ry
 obtain⟨its,r,⟨⟨cls,dd,data,sl⟩,n,e,hc,_,hd⟩,z1⟩:=I.list hH;obtain⟨its2,r2,⟨⟨cls2,dd2,data2,sl2⟩,n2,e2,hc2,_,hd2⟩,z2⟩:=I.list hB;dsimp only at hc hd hc2 hd2;subst hc hd hc2 hd2;have l1:=r.length;have l2:=r2.length;have ea:its.toArray++its2.toArray=(its++its2).toArray:=by simp
 refine concat_meets ⟨_,e,rfl⟩ ⟨_,e2,rfl⟩ noFill_list_add seq_list_add PySem.F.slot_list_add PySem.F.entry_list_add (PySem.F.args_list_add_2 _ _) (list_addW l b its.toArray its2.toArray n n2 dd dd2 sl sl2 (by simp only[wD];omega)) ⟨e,e2,?_⟩;rw[ea];exact⟨.ref _,_,I.lnew (t':=s.toks) (r.append r2) (by rw[wL];omega),rfl,q _ I.fresh⟩
def z1o {v:V}(h:RD K mg G (.tup l) v):∃a xs,v = .ref a/\SqT K G a xs/\RDs K mg G l xs:=by rw[RD] at h;exact h
def z1p {G:Hp}{l:List D}{v:V}(h:RD K mg G (.lst l) v):∃a xs,v = .ref a/\SqL K G a xs/\RDs K mg G l xs:=by rw[RD] at h;exact h
def z5f {v:V}(h:RD K mg G (.str x) v):v = .str x:=by rw[RD] at h;exact h
def z6I {v:V}(h:RD K mg G (.bl x) v):v = .bl x:=by rw[RD] at h;exact h
def z6H {v:V}(h:RD K mg G .non v):v = .non:=by rw[RD] at h;exact h
def RD.newT (r:RDs K mg G l xs)(g:Same G H)(hp:H p=none):RD K mg (upd G p (.tup xs)) (.tup l) (.ref p):=by
 rw[RD];exact⟨p,xs,rfl,SqT.of z0b,r.same (z0i (z0Y g hp) _)⟩
def RD.newL (r:RDs K mg G l xs)(g:Same G H)(hp:H p=none):RD K mg (upd G p (.lst xs)) (.lst l) (.ref p):=by
 rw[RD];exact⟨p,xs,rfl,SqL.of z0b,r.same (z0i (z0Y g hp) _)⟩
def RD.ofT (h:SqT K G a xs)(r:RDs K mg G l xs):RD K mg G (.tup l) (.ref a):=by rw[RD];exact⟨a,xs,rfl,h,r⟩
def RD.ofL (h:SqL K G a xs)(r:RDs K mg G l xs):RD K mg G (.lst l) (.ref a):=by rw[RD];exact⟨a,xs,rfl,h,r⟩
def RD.int' {G:Hp}{i:Int}:RD K mg G (.int i) (.int i):=by rw[RD]
def RD.bl' {G:Hp}{i:Bool}:RD K mg G (.bl i) (.bl i):=by rw[RD]
def RD.str':RD K mg G (.str i) (.str i):=by rw[RD]
def RDs.ne_nil (r:RDs K mg G l xs):xs=[]↔l=[]:=by
 have:=r.len
 w_up
 .rintro rfl;exact ue.mp this.symm
 .rintro rfl;exact ue.mp this
def zhs:OpR X (binaryOp .Add) (r2 X.K X.mg pAdd):=by
 rintro pins s σ H x y v u Q I rx ry ⟨G,d1,d2,Q0,X0,g,h1,h2,hr,hk⟩;have hr':gAdd d1 d2 Q0:=hr;unfold gAdd at hr'
 split at hr'
 .exact zhk pins s σ H x y v u Q I rx ry ⟨_,_,z0v h1,z0v h2,hk.now g hr' RD.int'⟩
 .obtain⟨a,xs,rfl,s1,r1⟩:=z1p h1;obtain⟨b,zs,rfl,s2,r2⟩:=z1p h2;exact zf0 pins s σ H _ _ v u Q I rx ry ⟨a,b,xs,zs,rfl,rfl,z13 g s1,z13 g s2,by rw[r1.len,r2.len];exact hr'.1,λp hp=>hk.new g hp hr'.2 (RD.newL (r1.app r2) g hp)⟩
 .obtain⟨a,xs,rfl,s1,r1⟩:=z1o h1;obtain⟨b,zs,rfl,s2,r2⟩:=z1o h2
  by_cases hx:xs=[]
  .subst hx;have e:=r1.ne_nil.mp rfl;subst e;exact zcw pins s σ H _ _ v u Q I rx ry ⟨a,b,zs,rfl,rfl,z0F g s1,z0F g s2,hk.now g hr'.2 (RD.ofT s2 r2)⟩
  .refine zeZ pins s σ H _ _ v u Q I rx ry ⟨a,b,xs,zs,rfl,rfl,z0F g s1,z0F g s2,hx,by rw[r1.len,r2.len];exact hr'.1,λe =>?_,λe p hp=>hk.new g hp hr'.2 (RD.newT (r1.app r2) g hp)⟩;have e:=r2.ne_nil.mp e;subst e;refine hk.now g hr'.2 ?_;rw[v6];exact RD.ofT s1 r1
 .exact hr'.elim
def z6b (h:gI g a b Q):∃i j,a = .int i/\b = .int j/\g i j Q:=by
 unfold gI at h
 split at h
 .exact⟨_,_,rfl,rfl,h⟩
 .exact h.elim
def zcC {f:Value->Value->Sem Value}{C:Int->Int->Prop}{gv:Int->Int->Int}{hg}(h:OpR X f (rI C λi j =>.int (gv i j))):OpR X f (r2 X.K X.mg (fnI (λi j Q=>C i j/\Q (.int (gv i j))) hg)):=h.imp <| by
 rintro x y H Q ⟨G,d1,d2,Q0,X0,g,h1,h2,hr,hk⟩;obtain⟨i,j,rfl,rfl,c,q⟩:=z6b (show gI (λi j Q=>C i j/\Q (.int (gv i j))) d1 d2 Q0 from hr);exact⟨i,j,z0v h1,z0v h2,c,hk.now g q RD.int'⟩
def zho:OpR X (binaryOp .Sub) (r2 X.K X.mg pSub):=zhd.imp <| by
 rintro x y H Q ⟨G,d1,d2,Q0,X0,g,h1,h2,hr,hk⟩;obtain⟨i,j,rfl,rfl,q⟩:=z6b (show gI (λi j Q=>Q (.int (i - j))) d1 d2 Q0 from hr);exact⟨i,j,z0v h1,z0v h2,hk.now g q RD.int'⟩
def zf3:OpR X (binaryOp .FloorDiv) (r2 X.K X.mg z0D):=zcC zcv
def zhr:OpR X (binaryOp .Mod) (r2 X.K X.mg pMod):=zcC zeY
def zhp:OpR X (binaryOp .Pow) (r2 X.K X.mg pPow):=zcC zhe
def zhc:UnR X (unaryOp .USub) (r1 X.K X.mg pNeg):=by
 rintro pins s σ H x v Q I rx ⟨G,d,Q0,X0,g,h1,hr,hk⟩;have hr':gNeg d Q0:=hr;unfold gNeg at hr'
 split at hr'
 .exact zfF pins s σ H x v Q I rx ⟨_,z0v h1,hk.now g hr' RD.int'⟩
 .exact hr'.elim
def z09:Fn:=fnI (λi j Q=>zfB i j/\Q (.int (i*j))) λ_ _ _ _ m h=>⟨h.1,m _ h.2⟩
def zhq:OpR X (binaryOp .Mult) (r2 X.K X.mg z09):=zcC zeX
end
end Pu
namespace HT
open PySem PyProof.Rows
section
open PySem.SeqAt
open PySem.AutoSeq1 (wpAny_loadPart')
open PySem.MeetsSeq PySem.MeetsSeq2 PySem.MeetsSeq3
def zc1 (A:Around)(s:Shared)(a:Int)(t:Tok)(c:Int)(u:Tok)(prog:Program)(w:World)(E:WvP)(Q:WvP)(h:Q (.bool (decide (c<a))) s):
  wpAny (model prog w) A (richCompare .Gt (.int a t) (.int c u)) Q E s:=
 (PyProof.Rows.gt_int h:wpAny (model prog w) A (compareOp .Gt (.int a t) (.int c u)) Q E s)
def z5z (l b:Addr)(z02 items2:Array Value)(n n2:Nat)(dd dd2:Option Addr)(sl sl2:Array (Option Value))(ns ms:List Int)(hi:IntsAre z02.toList ns)(hj:IntsAre items2.toList ms):
  Meets (Builtin.«tuple.__gt__» ⟨[.ref l,.ref b],[]⟩)
   (λ_ R s=>s.heap.get? l=some { cls :=.type "tuple",dict:=dd,data :=.seq z02 n,slots:=sl }/\s.heap.get? b=some { cls :=.type "tuple",dict:=dd2,data :=.seq items2 n2,slots:=sl2 }/\
    R (.ok (.ret (.bool (z0j ms ns)))) s):=
 .of_wp λprog w A R s h=>by
  obtain⟨hp,g,d,tk,os⟩:=s;obtain⟨hl,hb,h⟩:=h;have f2:=AutoSeq1.sub_tuple_tuple;have z1:z02.size=ns.length:=by rw[<- hi.length];simp
  have z2:items2.size=ms.length:=by rw[<- hj.length];simp
  wp_walk using jL hl,jL hb,j4 _ (λrest b s'=>b.1=none/\s'=⟨hp,g,d,tk,os⟩/\∃(vs ws:List Value) (ns' ms':List Int),rest=vs.zip ws/\
   IntsAre vs ns'/\IntsAre ws ms'/\ns'.length+items2.size=ms'.length+z02.size/\R (.ok (.ret (.bool (z0j ms' ns')))) ⟨hp,g,d,tk,os⟩) _
  case turn=>
   rintro⟨y,x⟩ rest b s' ⟨hb',rfl,vs,ws,ns',ms',hz,hvi,hwi,hlen,hR⟩
   cases hvi with
   | nil=>rw[List.zip_nil_left] at hz;cases hz
   | cons a t hvi'=>
    cases hwi with
    | nil=>rw[List.zip_nil_right] at hz;cases hz
    | cons c u hwi'=>
     rw[jb] at hz
     injection hz with hyx hrest
     injection hyx with hy hx
     subst hy hx;rw[z1e] at hR;simp only[w5] at hlen;obtain⟨e,he,hiff⟩:=z8y A.in1 ⟨hp,g,d,tk,os⟩ a t c u;refine we (he prog w _ _ ?_)
     cases e with
     | true=>
      rw[if_pos (hiff.mp rfl).symm] at hR
      wp_walk
      exact⟨rfl,rfl,_,_,_,_,hrest,hvi',hwi',by omega,hR⟩
     | false=>
      rw[if_neg (λq=>absurd (hiff.mpr (Eq.symm q)) wU)] at hR;have hri:=zc1 A.in1 ⟨hp,g,d,tk,os⟩ a t c u prog w
      wp_walk using hri
      exact⟨_,rfl,by simpa using hR⟩
  case fin=>
   rintro⟨b1,b2⟩ s' ⟨hb',rfl,vs,ws,ns',ms',hz,hvi,hwi,hlen,hR⟩;simp only at hb';subst hb';have hv:z0j ms' ns'=decide (items2.size<z02.size):=by
    cases hvi with
    | nil=>
     cases hwi with
     | nil=>
      simp only[v7] at hlen;rw[z2A];exact(vG (by omega)).symm
     | cons c u hw=>
      simp only[v7,w5] at hlen;rw[z38];exact(vG (by omega)).symm
    | cons a t hv=>
     cases hwi with
     | nil=>
      simp only[v7,w5] at hlen;rw[z37];exact(vC (by omega)).symm
     | cons c u hw=>
      rw[jb] at hz
      cases hz
   rw[hv] at hR
   wp_walk
   exact⟨_,rfl,by simpa[Builtin.Tuple.tupleCompareSizes] using hR⟩
  case h=>
   exact⟨rfl,rfl,z02.toList,items2.toList,ns,ms,rfl,hi,hj,by omega,h⟩
end
section
variable {prog:Program}{w:World}{A:Around}{E:WvP}{s:Shared}
def z9b {z02 items2:Array Value}(hl:IsTup s.heap l z02)(hb:IsTup s.heap b items2)(hi:IntsAre z02.toList ns)(hj:IntsAre items2.toList ms)
  (hu:A.units<cLine) (h:Q (.bool (z0j ms ns)) s):wpAny (model prog w) A (compareOp .Gt (.ref l) (.ref b)) Q E s:=by
 obtain⟨⟨cls,dd,data,sl⟩,ho,hc,n,hd⟩:=id hl;obtain⟨⟨cls2,dd2,data2,sl2⟩,ho2,hc2,n2,hd2⟩:=id hb;simp only at hc hd hc2 hd2;subst hc hd hc2 hd2;exact richCompare_meets_room (op :=.Gt) ⟨_,ho,rfl⟩ ⟨_,ho2,rfl⟩ PySem.F.slot_tuple_gt PySem.F.entry_tuple_gt (PySem.F.args_tuple_gt_2 _ _) (z5z l b z02 items2 n n2 dd dd2 sl sl2 ns ms hi hj)
  ⟨ho,ho2,show Value.bool (z0j ms ns)≠Value.notImplemented/\Q (.bool (z0j ms ns)) s from ⟨(λx=>nomatch x),h⟩⟩ hu
end
end HT
namespace Pu
open PySem PySem.Spec PyProof.Rows L2
def ints? : List D->Option (List Int)
 | []=>some []
 | .int i::r=>match ints? r with
  | some l=>some (i::l)
  | none=>none
 | _::_=>none
theorem z3w:∀{l:List D}{ns:List Int},ints? l=some ns->l=ns.map D.int
 | [],ns,h=>by
  have:ns=[]:=by simpa[ints?] using h.symm
  subst this;rfl
 | .int i::r,ns,h=>by
  unfold ints? at h
  cases q:ints? r with
  | none=>rw[q] at h;cases h
  | some l=>
   rw[q] at h
   cases h
   rw[z3w q];rfl
 | .non::_,_,h=>by simp[ints?] at h
 | .bl _::_,_,h=>by simp[ints?] at h
 | .str _::_,_,h=>by simp[ints?] at h
 | .tup _::_,_,h=>by simp[ints?] at h
 | .lst _::_,_,h=>by simp[ints?] at h
 | .dct _ _::_,_,h=>by simp[ints?] at h
 | .fn _::_,_,h=>by simp[ints?] at h
 | .exc _::_,_,h=>by simp[ints?] at h
def zcS (ns:List Int):ints? (ns.map D.int)=some ns:=by
 induction ns with
 | nil=>rfl
 | cons n ns ih=>rw[ve,ints?, ih]
def onI (o:Option (List Int))(Q:List Int->Prop):Prop:=match o with
 | some l=>Q l
 | none=>False
def z5P (m:∀d,Q d->Q' d)(h:onI o Q):onI o Q':=by
 cases o with
 | none=>exact h
 | some d=>exact m _ h
def z5O (h:onI o Q):∃d,o=some d/\Q d:=by
 cases o with
 | none=>exact h.elim
 | some d=>exact⟨d,rfl,h⟩
def gCmp (f:Int->Int->Bool)(t:List Int->List Int->Bool)(a b:D)(Q:DK):Prop:=match a,b with
 | .int i,.int j=>Q (.bl (f i j))
 | .tup l,.tup m=>onI (ints? l) λns=>onI (ints? m) λms=>Q (.bl (t ns ms))
 | _,_=>False
def z77 (a b:D)(Q Q':DK)(m:∀d,Q d->Q' d)(h:gCmp f t a b Q):gCmp f t a b Q':=by
 unfold gCmp at h ⊢
 split at h
 .exact m _ h
 .exact z5P (λ_ h=>z5P (λ_ h=>m _ h) h) h
 .exact h.elim
def pLt:Fn:=fn2 (gCmp (λi j=>decide (i<j)) λns ms=>HT.z0j ns ms) z77
def pGt:Fn:=fn2 (gCmp (λi j=>decide (j<i)) λns ms=>HT.z0j ms ns) z77
def pLe:Fn:=fnI (λi j Q=>Q (.bl (decide (i<=j)))) λ_ _ _ _ m h=>m _ h
section
variable {X:Cx}{K:W.Frag}{mg:WmP}
theorem z2X:∀(ns:List Int) {xs:List V},RDs K mg G (ns.map D.int) xs->xs=ns.map V.int
 | [],xs,h=>by rw[Wk,RDs] at h;subst h;rfl
 | n::ns,xs,h=>by
  rw[ve,RDs] at h;obtain⟨x,r,rfl,h1,h2⟩:=h;rw[z0v h1,z2X ns h2];rfl
theorem z69:∀(ns:List Int),RDs K mg G (ns.map D.int) (ns.map V.int)
 | []=>RDs.nil
 | n::ns=>RDs.cons RD.int' (z69 ns)
def zhn {op:CmpOp}{hm}(hi:OpR X (compareOp op) (rI0 λi j =>.bl (f i j)))(ht:OpR X (compareOp op) (λx y H Q=>∃a b ns ms,x = .ref a/\y = .ref b/\SqT X.K H a (ns.map V.int)/\SqT X.K H b (ms.map V.int)/\Q (.bl (t ns ms)) H)):
  OpR X (compareOp op) (r2 X.K X.mg (fn2 (gCmp f t) hm)):=by
 rintro pins s σ H x y v u Q I rx ry ⟨G,d1,d2,Q0,X0,g,h1,h2,hr,hk⟩;have hr':gCmp f t d1 d2 Q0:=hr;unfold gCmp at hr'
 split at hr'
 .exact hi pins s σ H x y v u Q I rx ry ⟨_,_,z0v h1,z0v h2,hk.now g hr' RD.bl'⟩
 .obtain⟨ns,e1,hr'⟩:=z5O hr';obtain⟨ms,e2,hr'⟩:=z5O hr';obtain⟨a,xs,rfl,s1,r1⟩:=z1o h1;obtain⟨b,ys,rfl,s2,r2⟩:=z1o h2;rw[z3w e1] at r1;rw[z3w e2] at r2;rw[z2X ns r1] at s1;rw[z2X ms r2] at s2;exact ht pins s σ H _ _ v u Q I rx ry ⟨a,b,ns,ms,rfl,rfl,z0F g s1,z0F g s2,hk.now g hr' RD.bl'⟩
 .exact hr'.elim
def zjd (hu:X.A.units+64<cLine):OpR X (compareOp .Lt) (r2 X.K X.mg pLt):=zhn zj8 (zhg (by omega))
def zhi (hu:X.A.units<cLine):OpR X (compareOp .Gt) (λx y H Q=>∃a b ns ms,x = .ref a/\y = .ref b/\SqT X.K H a (ns.map V.int)/\SqT X.K H b (ms.map V.int)/\Q (.bl (HT.z0j ms ns)) H):=by
 z_go;obtain⟨a,b,ns,ms,rfl,rfl,ha,hb,q⟩:=h
 cases rx
 cases ry
 obtain⟨its,r1,p1,_⟩:=I.tuple ha;obtain⟨its2,r2,p2,_⟩:=I.tuple hb;exact HT.z9b p1 p2 (z30 r1) (z30 r2) hu ⟨.bl (HT.z0j ms ns),H,I,rfl,q⟩
def zjh (hu:X.A.units+64<cLine):OpR X (compareOp .Gt) (r2 X.K X.mg pGt):=zhn zja (zhi (by omega))
def zje (_:X.A.units+64<cLine):OpR X (compareOp .LtE) (r2 X.K X.mg pLe):=zj9.imp <| by
 rintro x y H Q ⟨G,d1,d2,Q0,X0,g,h1,h2,hr,hk⟩;obtain⟨i,j,rfl,rfl,q⟩:=z6b (show gI (λi j Q=>Q (.bl (decide (i<=j)))) d1 d2 Q0 from hr);exact⟨i,j,z0v h1,z0v h2,hk.now g q RD.bl'⟩
end
mutual
def py:D->PyData
 | .non =>.none
 | .bl b =>.bool b
 | .int i =>.int i
 | .str x =>.str x
 | .tup l =>.tuple (pys l)
 | .lst l =>.list (pys l)
 | _ =>.none
def pys:List D->List PyData
 | []=>[]
 | d::ds=>py d::pys ds
end
def Da:Nat->D->Prop
 | _,.non=>True
 | _,.bl _=>True
 | _,.int _=>True
 | _,.str x=>PyData.strOk x=true
 | 0,.tup _=>False
 | n+1,.tup l=>∀d∈l,Da n d
 | 0,.lst _=>False
 | n+1,.lst l=>∀d∈l,Da n d
 | _,.dct _ _=>False
 | _,.fn _=>False
 | _,.exc _=>False
section
variable {X:Cx}{K:W.Frag}{mg:WmP}
theorem Da.tup {n:Nat}{l:List D}:Da (n+1) (.tup l)↔∀d∈l,Da n d:=by rw[Da]
theorem Da.lst {n:Nat}{l:List D}:Da (n+1) (.lst l)↔∀d∈l,Da n d:=by rw[Da]
theorem Da.int {n:Nat}{i:Int}:Da n (.int i):=by cases n <;> (rw[Da];trivial)
theorem Da.str {n:Nat}{x:Str}:Da n (.str x)↔PyData.strOk x=true:=by cases n <;> rw[Da]
def Da.canLay:∀(n:Nat) (d:D),Da n d->(py d).canLay0=true/\(py d).depth<=n:=by
 intro n
 induction n with
 | zero=>
  intro d h
  cases d with
  | non=>exact⟨rfl,wx _⟩
  | bl _=>exact⟨rfl,wx _⟩
  | int _=>exact⟨rfl,wx _⟩
  | str x=>exact⟨by rw[py,PyData.canLay0];exact Da.str.mp h,by rw[py,PyData.depth];exact wx _⟩
  | _=>rw[Da] at h;exact h.elim
 | succ n ih=>
  have all:∀l:List D,(∀d∈l,Da n d)->PyData.canLayAll0 (pys l)=true/\PyData.depthAll (pys l)<=n:=by
   intro l
   induction l with
   | nil=>intro _;exact⟨rfl,vy _⟩
   | cons d l ihl=>
    intro h;obtain⟨a1,a2⟩:=ih d (h d wJ);obtain⟨b1,b2⟩:=ihl λx hx=>h x (wm _ hx);rw[pys,PyData.canLayAll0,PyData.depthAll,a1,b1];exact⟨rfl,Nat.max_le.mpr ⟨a2,b2⟩⟩
  intro d h
  cases d with
  | non=>exact⟨rfl,vy _⟩
  | bl _=>exact⟨rfl,vy _⟩
  | int _=>exact⟨rfl,vy _⟩
  | str x=>exact⟨by rw[py,PyData.canLay0];exact Da.str.mp h,by rw[py,PyData.depth];exact vy _⟩
  | tup l=>
   obtain⟨a,b⟩:=all l (Da.tup.mp h);exact⟨by rw[py,PyData.canLay0];exact a,by rw[py,PyData.depth];omega⟩
  | lst l=>
   obtain⟨a,b⟩:=all l (Da.lst.mp h);exact⟨by rw[py,PyData.canLay0];exact a,by rw[py,PyData.depth];omega⟩
  | _=>rw[Da] at h;exact h.elim
theorem Da.shaped (h:Da n d)(hn:n<=64):PySem.SeqAt.shaped (py d)=true:=by
 obtain⟨a,b⟩:=Da.canLay n d h;unfold PySem.SeqAt.shaped;rw[a,vC (wO b hn)]
 rfl
def Da.rp:∀(n:Nat) (d:D) {v:V},Da n d->RD K mg G d v->Rp K G (py d) v:=by
 intro n
 induction n with
 | zero=>
  intro d v h r
  cases d with
  | non=>rw[py,Rp];exact z6H r
  | bl _=>rw[py,Rp];exact z6I r
  | int _=>rw[py,Rp];exact z0v r
  | str x=>rw[py,Rp];exact z5f r
  | _=>rw[Da] at h;exact h.elim
 | succ n ih=>
  have all:∀(l:List D) {xs:List V},(∀d∈l,Da n d)->RDs K mg G l xs->RpL K G (pys l) xs:=by
   intro l
   induction l with
   | nil=>intro xs _ r;rw[RDs] at r;subst r;rw[pys,RpL]
   | cons d l ihl=>
    intro xs h r;rw[RDs] at r;obtain⟨x,r',rfl,r1,r2⟩:=r;rw[pys,RpL];exact⟨x,r',rfl,ih d (h d wJ) r1,ihl (λx hx=>h x (wm _ hx)) r2⟩
  intro d v h r
  cases d with
  | non=>rw[py,Rp];exact z6H r
  | bl _=>rw[py,Rp];exact z6I r
  | int _=>rw[py,Rp];exact z0v r
  | str x=>rw[py,Rp];exact z5f r
  | tup l=>
   obtain⟨a,xs,rfl,h1,h2⟩:=z1o r;rw[py,Rp];exact⟨a,xs,rfl,h1,all l (Da.tup.mp h) h2⟩
  | lst l=>
   obtain⟨a,xs,rfl,h1,h2⟩:=z1p r;rw[py,Rp];exact⟨a,xs,rfl,h1,all l (Da.lst.mp h) h2⟩
  | _=>rw[Da] at h;exact h.elim
end
def deq (a b:D):Bool:=PyData.eqv (py a) (py b)
def gEq (neg:Bool)(a b:D)(Q:DK):Prop:=match a,b with
 | .int i,.int j=>Q (.bl (if neg then !decide (i=j) else decide (i=j)))
 | .str x,.str y=>Q (.bl (if neg then !decide (x=y) else decide (x=y)))
 | .bl x,.bl y=>Q (.bl (if neg then !decide (x=y) else decide (x=y)))
 | a,b=>Da 60 a/\Da 60 b/\Q (.bl (if neg then !deq a b else deq a b))
def z6c {neg:Bool}(a b:D)(Q Q':DK)(m:∀d,Q d->Q' d)(h:gEq neg a b Q):gEq neg a b Q':=by
 unfold gEq at h ⊢
 split at h
 .exact m _ h
 .exact m _ h
 .exact m _ h
 .exact⟨h.1,h.2.1,m _ h.2.2⟩
def pEq:Fn:=fn2 (gEq false) z6c
def pNe:Fn:=fn2 (gEq true) z6c
section
variable {X:Cx}{K:W.Frag}{mg:WmP}
def z7R [Decidable p][Decidable q](h:p↔q):decide p=decide q:=by rw[j6];exact h
def zdD {op:CmpOp}{neg:Bool}(h1:OpR X (compareOp op) (λx y H Q=>scal x y=true/\Q (.bl (if neg then !decide (x=y) else decide (x=y))) H))(h2:OpR X (compareOp op) (rEqD X.K neg)):OpR X (compareOp op) (r2 X.K X.mg (fn2 (gEq neg) z6c)):=by
 rintro pins s σ H x y v u Q I rx ry ⟨G,d1,d2,Q0,X0,g,r1,r2,hr,hk⟩;have hr':gEq neg d1 d2 Q0:=hr;unfold gEq at hr'
 split at hr'
 .have e1:=z0v r1;have e2:=z0v r2;subst e1;subst e2;refine h1 pins s σ H _ _ v u Q I rx ry ⟨rfl,?_⟩;rw[z7R (⟨λh=>V.int.inj h,λh=>congrArg V.int h⟩:V.int _=V.int _↔_)];exact hk.now g hr' RD.bl'
 .have e1:=z5f r1;have e2:=z5f r2;subst e1;subst e2;refine h1 pins s σ H _ _ v u Q I rx ry ⟨rfl,?_⟩;rw[z7R (⟨λh=>V.str.inj h,λh=>congrArg V.str h⟩:V.str _=V.str _↔_)];exact hk.now g hr' RD.bl'
 .have e1:=z6I r1;have e2:=z6I r2;subst e1;subst e2;refine h1 pins s σ H _ _ v u Q I rx ry ⟨rfl,?_⟩;rw[z7R (⟨λh=>V.bl.inj h,λh=>congrArg V.bl h⟩:V.bl _=V.bl _↔_)];exact hk.now g hr' RD.bl'
 .obtain⟨a1,a2,q⟩:=hr';exact h2 pins s σ H x y v u Q I rx ry ⟨_,_,(Da.rp 60 _ a1 r1).same g,(Da.rp 60 _ a2 r2).same g,a1.shaped (by decide),a2.shaped (by decide),hk.now g q RD.bl'⟩
def zji (hu:X.A.units+64<cLine):OpR X (compareOp .Eq) (r2 X.K X.mg pEq):=zdD (neg:=false) (zjb.imp λ_ _ _ _ h=>h) (zhj hu)
def zjc (hu:X.A.units+64<cLine):OpR X (compareOp .NotEq) (r2 X.K X.mg pNe):=zdD (neg:=true) (zj7.imp λ_ _ _ _ h=>h) (zhf hu)
def isN:D->Bool
 | .non=>true
 | _=>false
def gIs (neg:Bool)(a b:D)(Q:DK):Prop:=match b with
 | .non=>Q (.bl (if neg then !isN a else isN a))
 | _=>False
def zcX {neg:Bool}(a b:D)(Q Q':DK)(m:∀d,Q d->Q' d)(h:gIs neg a b Q):gIs neg a b Q':=by
 unfold gIs at h ⊢
 split at h
 .exact m _ h
 .exact h.elim
def pIs:Fn:=fn2 (gIs false) zcX
def zg9 {v:V}(r:RD K mg G d v):decide (v = .non)=isN d:=by
 cases d with
 | non=>rw[z6H r];rfl
 | bl b=>rw[z6I r];rfl
 | int b=>rw[z0v r];rfl
 | str b=>rw[z5f r];rfl
 | tup l=>obtain⟨a,xs,rfl,_⟩:=z1o r;rfl
 | lst l=>obtain⟨a,xs,rfl,_⟩:=z1p r;rfl
 | dct k v=>rw[RD] at r;obtain⟨a,xs,rfl,_⟩:=r;rfl
 | fn n=>rw[RD] at r;obtain⟨a,rfl,_⟩:=r;rfl
 | exc n=>rw[RD] at r;obtain⟨a,xs,rfl,_⟩:=r;rfl
def zjf:OpR X (compareOp .Is) (r2 X.K X.mg pIs):=zhh.imp <| by
 rintro x y H Q ⟨G,d1,d2,Q0,X0,g,r1,r2,hr,hk⟩;have hr':gIs false d1 d2 Q0:=hr;unfold gIs at hr'
 split at hr'
 .exact⟨z6H r2,by rw[zg9 r1];exact hk.now g hr' RD.bl'⟩
 .exact hr'.elim
def z2h {g:D->DK->Prop}{m}{ds:List D}{Q:DK}{Xp:XP}(h:(fn1 g m).run ds Q Xp):∃d,ds=[d]/\g d Q:=by
 match ds,h with
 | [a],h=>exact⟨a,rfl,h⟩
 | [],h=>exact h.elim
 | _::_::_,h=>exact h.elim
def zd2 {m}(h:(fn2 g m).run ds Q Xp):∃d e,ds=[d,e]/\g d e Q:=by
 match ds,h with
 | [a,b],h=>exact⟨a,b,rfl,h⟩
 | [],h=>exact h.elim
 | [_],h=>exact h.elim
 | _::_::_::_,h=>exact h.elim
def gLen (d:D)(Q:DK):Prop:=match d with
 | .lst l=>Q (.int (l.length:Int))
 | .tup l=>Q (.int (l.length:Int))
 | _=>False
def pLen:Fn:=fn1 gLen λd Q Q' m h=>by
 unfold gLen at h ⊢
 split at h
 .exact m _ h
 .exact m _ h
 .exact h.elim
def zic:z1n X (.builtin "len") (rN X.K X.mg pLen):=z7j.imp <| by
 k_not;obtain⟨d,rfl,hr'⟩:=z2h hr;obtain⟨v,rfl,rd⟩:=rds1 rds;unfold gLen at hr'
 split at hr'
 .f_int;exact⟨a,xs,rfl,.inl (z13 g h1),by rw[h2.len];exact hk.now g hr' RD.int'⟩
 .obtain⟨a,xs,rfl,h1,h2⟩:=z1o rd;exact⟨a,xs,rfl,.inr (z0F g h1),by rw[h2.len];exact hk.now g hr' RD.int'⟩
 .exact hr'.elim
def gAbs (d:D)(Q:DK):Prop:=match d with
 | .int i=>Q (.int (if i<0 then -i else i))
 | _=>False
def pAbs:Fn:=fn1 gAbs λd Q Q' m h=>by
 unfold gAbs at h ⊢
 split at h
 .exact m _ h
 .exact h.elim
def zif:z1n X (.builtin "abs") (rN X.K X.mg pAbs):=zdd.imp <| by
 k_not;obtain⟨d,rfl,hr'⟩:=z2h hr;obtain⟨v,rfl,rd⟩:=rds1 rds;unfold gAbs at hr'
 split at hr'
 .have e:=z0v rd;subst e;exact⟨_,rfl,hk.now g hr' RD.int'⟩
 .exact hr'.elim
def zaY (d:D)(Q:DK):Prop:=match d with
 | .lst l=>Q (.tup l)
 | .tup l=>Q (.tup l)
 | _=>False
def z3Z:Fn:=fn1 zaY λd Q Q' m h=>by
 unfold zaY at h ⊢
 split at h
 .exact m _ h
 .exact m _ h
 .exact h.elim
def z8D:z1n X (.type "tuple") (rN X.K X.mg z3Z):=z6j.imp <| by
 k_not;obtain⟨d,rfl,hr'⟩:=z2h hr;obtain⟨v,rfl,rd⟩:=rds1 rds;unfold zaY at hr'
 split at hr'
 .f_int;exact⟨a,xs,rfl,.inl ⟨z13 g h1,λp hp=>hk.new g hp hr' (RD.newT h2 g hp)⟩⟩
 .obtain⟨a,xs,rfl,h1,h2⟩:=z1o rd;exact⟨a,xs,rfl,.inr ⟨z0F g h1,hk.now g hr' (RD.ofT h1 h2)⟩⟩
 .exact hr'.elim
def zb0 (d:D)(Q:DK):Prop:=match d with
 | .lst l=>Q (.lst l)
 | .tup l=>Q (.lst l)
 | _=>False
def zaq:Fn:=fn1 zb0 λd Q Q' m h=>by
 unfold zb0 at h ⊢
 split at h
 .exact m _ h
 .exact m _ h
 .exact h.elim
def rNf (K:W.Frag)(mg:WmP)(F:Fn):List V->Hp->VK->Prop:=λvs H Q=>∃G ds Q0 X0,Same G H/\RDs K mg G ds vs/\F.run ds Q0 X0/\Kf K mg G H Q0 Q
def Kf.same (h:Kf K mg G H Q0 Q)(g:Gr G H G')(k:Same H H'):Kf K mg G' H' Q0 Q:=λd a G1 H1 q g1 g2 g3 hn gn hw=>h d a G1 H1 q (g.trans k g1) g2 (z01 k g3) (z0Y k hn) gn hw
def Kf.newL (h:Kf K mg G H Q0 Q)(g:Same G H)(hp:H p=none)(q:Q0 (.lst l))(r:RDs K mg G l xs):Q (.ref p) (upd H p (.lst xs)):=
 h (.lst l) p G (upd H p (.lst xs)) q Gr.refl (z01 g (z0i hp _)) (z0i hp _) hp (z0Y g hp) ⟨xs,z0b,r⟩
def tfN (h:tf K mg E (.op F es) σ H Q):tCB (rNf K mg F) (txa K mg E es) σ H Q:=by
 k_all;exact⟨G,ρ,λds=>F.run ds Q0 X0,X0,hs,ab,hr,λds vs G1 H1 hF g1 g2 g3 rd=>⟨G1,ds,Q0,X0,g2,rd,hF,hk.same g1 g3⟩,hx⟩
def zgI {f:Str}{id:String}(hc:z1n X (.type id) (rNf X.K X.mg F))(hg:Gl X f)(hm:X.mg f=none)(hv:bootBuiltins f=some (.type id))(ha:QXA X E (e::es) xs)(hn:f≠"__name__":=by decide)(hdb:(f == ("__debug__":Str))=false:=by decide)
  (he:starEach (e::es) X.env=(false,eval e X.env)::starEach es X.env:=by rfl) (hpl:(backTo pos (starEach es X.env)).any (·.1)=false:=by rfl):QF X E (.Call (.Name f pp) (e::es) [] pos) (.op F xs):=
 QE.imp (z2O hc hg hm hv ha hn hdb he hpl) λ_ _ _ h=>tfN h
def zbg:z1n X (.type "list") (rNf X.K X.mg zaq):=z7i.imp <| by
 k_not;obtain⟨d,rfl,hr'⟩:=z2h hr;obtain⟨v,rfl,rd⟩:=rds1 rds;unfold zb0 at hr'
 split at hr'
 .f_int;exact⟨a,xs,rfl,.inl (z13 g h1),λp hp=>hk.newL g hp hr' h2⟩
 .obtain⟨a,xs,rfl,h1,h2⟩:=z1o rd;exact⟨a,xs,rfl,.inr (z0F g h1),λp hp=>hk.newL g hp hr' h2⟩
 .exact hr'.elim
def zaZ (d:D)(Q:DK):Prop:=match d with
 | .lst l=>onI (ints? l) λns=>ns≠[]/\∀m,m∈ns->(∀x∈ns,x<=m)->Q (.int m)
 | _=>False
def z9c (d:D)(Q Q':DK)(m:∀d,Q d->Q' d)(h:zaZ d Q):zaZ d Q':=by
 unfold zaZ at h ⊢
 split at h
 .exact z5P (λ_ q=>⟨q.1,λx hx hy=>m _ (q.2 x hx hy)⟩) h
 .exact h.elim
def gIx (a b:D)(Q:DK):Prop:=match a,b with
 | .lst l,.int i=>onV (atI l i) Q
 | .tup l,.int i=>onV (atI l i) Q
 | _,_=>False
def zcW (a b:D)(Q Q':DK)(m:∀d,Q d->Q' d)(h:gIx a b Q):gIx a b Q':=by
 unfold gIx at h ⊢
 split at h
 .exact z8h m h
 .exact z8h m h
 .exact h.elim
def pIx:Fn:=fn2 gIx zcW
def IxR.imp {r r':R2}(h:IxR X r)(i:∀x y H Q,r' x y H Q->r x y H Q):IxR X r':=λvalue slice pins s σ H x y v u Q I rx ry q hs=>h value slice pins s σ H x y v u Q I rx ry (i x y H Q q) hs
def ix_p:IxR X (r2 X.K X.mg pIx):=IxR.imp (zfi.or zhX) <| by
 rintro x y H Q ⟨G,d1,d2,Q0,X0,g,r1,r2,hr,hk⟩;have hr':gIx d1 d2 Q0:=hr;unfold gIx at hr'
 split at hr'
 .obtain⟨d,e,q⟩:=z8g hr';obtain⟨a,xs,rfl,h1,h2⟩:=z1p r1;obtain⟨v,e1,rv⟩:=h2.at e;exact .inl ⟨a,xs,_,v,rfl,z0v r2,z13 g h1,e1,hk.now g q rv⟩
 .obtain⟨d,e,q⟩:=z8g hr';obtain⟨a,xs,rfl,h1,h2⟩:=z1o r1;obtain⟨v,e1,rv⟩:=h2.at e;exact .inr ⟨a,xs,_,v,rfl,z0v r2,z0F g h1,e1,hk.now g q rv⟩
 .exact hr'.elim
def ziJ (ha:QX X E a x)(hb:QX X E b y)(hs:z7X b):QX X E (.Subscript a b pos) (.op pIx [x,y]):=QE.imp (ziU ix_p ha hb hs) λ_ _ _ h=>tx2 lk2 h
end
end Pu
namespace HT
open PySem PyProof.Rows
section
variable {prog:Program}{w:World}{A:Around}{E:WvP}{s:Shared}
def z9z {t sl:Addr}{z02:Array Value}{vl vu vs:Value}(ht:IsTup s.heap t z02)(hs:s.heap.IsSliceOf sl vl vu vs)
  (ha:∀{A:Around}{E:WvP}{Q:Int × Int × Nat->Shared->Prop},Q R s->wpAny (model prog w) A (Builtin.Slice.sliceApplied (.ref sl) (pure (z02.size:Int))) Q E s) (hsz:R.2.2<=sizeLine)
  (h1:(R.1 == 0 && R.2.1 == 1 && R.2.2 == z02.size)=true->Q (.ref t) s)
  (h2:¬ (R.1 == 0 && R.2.1 == 1 && R.2.2 == z02.size)=true->Q (.ref s.heap.objs.size) { s with heap:=s.heap.push { cls :=.type "tuple",data :=.seq ((List.range R.2.2).filterMap λ(k:Nat)=>z02[(R.1+(k:Int)*R.2.1).toNat]?).toArray } }):
  wpAny (model prog w) A (getItem (.ref t) (.ref sl)) Q E s:=by
 obtain⟨os,hos,hcs,hds⟩:=id hs;have hTs:s.TypeIs (.ref sl) "slice":=⟨os,hos,hcs⟩
 have htake:sizeOk (.seq ((List.range R.2.2).filterMap λ(k:Nat)=>z02[(R.1+(k:Int)*R.2.1).toNat]?).toArray):=by
  show ((List.range R.2.2).filterMap λ(k:Nat)=>z02[(R.1+(k:Int)*R.2.1).toNat]?).toArray.size<=sizeLine;rw[wD];refine wO (List.length_filterMap_le _ _) ?_;rw[jT];exact hsz
 unfold getItem
 try with_reducible refine ud ?_
 first | refine we (wj ?_) | skip
 refine we (wpAny_sequenceKey ht.typeIs (by decide) ?_);refine we (vW (name:=Str.ofString "__getitem__") ht.typeIs vQ
  (v9 vQ ht.typeIs entry_tuple_getitem ?_ (args_tuple_getitem _ _)))
 show wpAny _ _ (Builtin.Tuple.tupleItemsOf (.ref t) >>= _) _ _ s;refine we (tupleItemsOf_ ht ?_);refine we (Wa hTs ?_);rw[if_pos (by decide)];refine we (ha ?_);obtain⟨r1,r2,r3⟩:=R;show wpAny _ _ (if (r1 == 0 && r2 == 1 && r3 == z02.size)=true then _ else _) _ _ s
 by_cases hb:(r1 == 0 && r2 == 1 && r3 == z02.size)=true
 .rw[if_pos hb];refine we (m:=Builtin.Tuple.tupleIsExact (.ref t)) ?_;refine we (Wa ht.typeIs (wj ?_));rw[if_pos (by decide)]
  first
   | exact we (wj (wj ⟨_,rfl,wj (h1 hb)⟩))
   | exact we (jU (wj ⟨_,rfl,wj (h1 hb)⟩))
   | exact we (jU (we (wj (wj ⟨_,rfl,wj (h1 hb)⟩))))
   | exact wj ⟨_,rfl,wj (h1 hb)⟩
 .rw[if_neg hb];have h:=h2 hb
  first
   | exact we (m:=Builtin.Tuple.tupleExact _) (vo (wj ⟨_,rfl,wj h⟩) htake)
   | exact we (m:=Builtin.Tuple.tupleExact _) (vo (we (wj (wj ⟨_,rfl,wj h⟩))) htake)
   | exact we (we (m:=Builtin.Tuple.tupleExact _) (vo (wj (wj ⟨_,rfl,wj h⟩)) htake))
   | exact we (we (m:=Builtin.Tuple.tupleExact _) (vo (wj ⟨_,rfl,wj h⟩) htake))
end
end HT
namespace Pu
open PySem PySem.Spec PyProof.Rows L2
def part (o:Option Ex)(ρ:Pu.Env)(K:Option Int->Prop)(X:XP):Prop:=match o with
 | none=>K none
 | some e=>e.run ρ (λd=>isI d λi=>K (some i)) X
def z6M {K K':Option Int->Prop}(m:∀i,K i->K' i)(mx:∀x,X x->X' x)(h:part o ρ K X):part o ρ K' X':=by
 cases o with
 | none=>exact m _ h
 | some e=>exact e.mono ρ _ _ X X' (λd q=>zcR (λi q=>m _ q) q) mx h
def cutD (l:List D)(lo hi:Option Int):List D:=(l.drop (HT.sIx l.length 0 lo)).take (HT.sIx l.length l.length hi - HT.sIx l.length 0 lo)
def slcD (d:D)(lo hi:Option Int)(Q:DK):Prop:=match d with
 | .lst l=>Q (.lst (cutD l lo hi))
 | .tup l=>Q (.tup (cutD l lo hi))
 | _=>False
def z9G {lo hi:Option Int}(m:∀d,Q d->Q' d)(h:slcD d lo hi Q):slcD d lo hi Q':=by
 unfold slcD at h ⊢
 split at h
 .exact m _ h
 .exact m _ h
 .exact h.elim
def Ex.sl (e:Ex)(lo hi:Option Ex):Ex:=⟨λρ Q X=>e.run ρ (λd=>part lo ρ (λl=>part hi ρ (λu=>slcD d l u Q) X) X) X,λρ Q Q' X X' m mx q=>e.mono ρ _ _ X X' (λd q=>z6M (λl q=>z6M (λu q=>z9G m q) mx q) mx q) mx q⟩
def rSlP (K:W.Frag)(mg:WmP):V->Option Int->Option Int->Hp->VK->Prop:=λx lo hi H Q=>∃G d Q0,Same G H/\RD K mg G d x/\slcD d lo hi Q0/\Kt K mg G H Q0 Q
section
variable {X:Cx}{K:W.Frag}{mg:WmP}{E:XK}
def zbK:SlR X (λx lo hi H Q=>∃a xs,x = .ref a/\SqT X.K H a xs/\(HT.sIx xs.length 0 lo=0/\HT.sIx xs.length xs.length hi=xs.length)/\Q (.ref a) H):=by
 intro pins s σ H x v vl vu lo hi sl Q I rx hs pl pu h;obtain⟨a,xs,rfl,hx,hw,q⟩:=h
 cases rx
 obtain⟨its,r,ht,hz⟩:=I.tuple hx;have hlen:its.toArray.size=xs.length:=by rw[wD];exact r.length.symm
 refine⟨"tuple",_,vQ.lookup,ht.typeIs,?_⟩;refine HT.z9z (R:=(((HT.sIx its.toArray.size 0 lo:Nat):Int),1,HT.sIx its.toArray.size its.toArray.size hi - HT.sIx its.toArray.size 0 lo)) ht hs (λh=>HT.z2E hs pl pu h) ?_ (λ_=>⟨.ref a,H,I,rfl,q⟩) (λz =>?_)
 .rw[hlen];dsimp only;rw[hw.1,hw.2];omega
 .rw[hlen] at z;exact absurd (by dsimp only;rw[hw.1,hw.2];simp) z
def z9h {lo hi:Option Int}(h:HT.sIx xs.length 0 lo=0/\HT.sIx xs.length xs.length hi=xs.length):cutD xs lo hi=xs:=by
 unfold cutD;rw[h.1,h.2];simp
def sl_p:SlR X (rSlP X.K X.mg):=(zec.or (zfV.or zbK)).imp <| by
 rintro x lo hi H Q ⟨G,d,Q0,g,rd,hr,hk⟩;unfold slcD at hr
 split at hr
 .f_int;exact .inl ⟨a,xs,rfl,z13 g h1,λp hp=>hk.new g hp hr (RD.newL (h2.cut lo hi) g hp)⟩
 .obtain⟨a,xs,rfl,h1,h2⟩:=z1o rd
  by_cases hw:HT.sIx xs.length 0 lo=0/\HT.sIx xs.length xs.length hi=xs.length
  .refine .inr (.inr ⟨a,xs,rfl,z0F g h1,hw,hk.now g hr ?_⟩);rw[h2.len] at hw;rw[z9h hw];exact RD.ofT h1 h2
  .exact .inr (.inl ⟨a,xs,rfl,z0F g h1,hw,λp hp=>hk.new g hp hr (RD.newT (h2.cut lo hi) g hp)⟩)
 .exact hr.elim
def z8M (K:W.Frag)(mg:WmP)(E:XK)(o:Option Ex):TO:=λσ H Q=>∃G ρ Q0 X0,Same G H/\AbE K mg G ρ σ/\part o ρ Q0 X0/\(∀i G' H',Q0 i->Gr G H G'->Same G' H'->Same H H'->Q i H')/\Kx mg H X0 E
def QO.imp {e:Option Expr}{t t':TO}(h:QO X e t)(i:∀σ H Q,t' σ H Q->t σ H Q):QO X e t':=⟨λpins s σ H Q I q=>h.p pins s σ H Q I (i σ H Q q)⟩
def zeA:QO X none (z8M X.K X.mg E none):=QO.imp zeC <| by rintro σ H Q ⟨G,ρ,Q0,X0,hs,ab,hr,hk,hx⟩;exact hk none G H hr Gr.refl hs Same.refl'
def zez (h:QX X E e x):QO X (some e) (z8M X.K X.mg E (some x)):=QO.imp (zeB h) <| by
 kt_k;refine⟨G,ρ,_,X0,hs,ab,hr,λd v G1 H1 q g1 g2 g3 rd =>?_,hx⟩;obtain⟨i,rfl,q⟩:=zcQ q;exact⟨i,z0v rd,hk (some i) G1 H1 q g1 g2 g3⟩
def zis {lo hi:Option Ex}(h:tx K mg E (.sl e lo hi) σ H Q):tSl (rSlP K mg) (tx K mg E e) (z8M K mg E lo) (z8M K mg E hi) σ H Q:=by
 k_all;refine⟨G,ρ,_,X0,hs,ab,hr,λd v G1 H1 q g1 g2 g3 rd =>?_,hx⟩;refine⟨G1,ρ,_,X0,g2,ab.same g1.1,q,λl G2 H2 q k1 k2 k3 =>?_,hx.same g3⟩;refine⟨G2,ρ,_,X0,k2,ab.same (z01 g1.1 k1.1),q,λu G3 H3 q n1 n2 n3 =>?_,hx.same (z01 g3 k3)⟩;exact⟨G3,d,Q0,n2,rd.same (z01 k1.1 n1.1),q,hk.same (g1.trans g3 (k1.trans k3 n1)) (z01 g3 (z01 k3 n3))⟩
def ziH {lo hi:Option Expr}(he:QX X E e x)(hl:QO X lo (z8M X.K X.mg E l))(hu:QO X hi (z8M X.K X.mg E u)):QX X E (.Subscript e (.Slice lo hi none p2) pos) (.sl x l u):=QE.imp (zch sl_p he hl hu) λ_ _ _ h=>zis h
def isiD (T:String):D->Option Bool
 | .int _=>some (T == "int")
 | .bl _=>some (T == "int" || T == "bool")
 | .str _=>some (T == "str")
 | .tup _=>some (T == "tuple")
 | .lst _=>some (T == "list")
 | .non=>some false
 | _=>none
def onB (o:Option Bool)(Q:Bool->Prop):Prop:=match o with
 | some b=>Q b
 | none=>False
def zcA (m:∀b,Q b->Q' b)(h:onB o Q):onB o Q':=by
 cases o with
 | none=>exact h
 | some b=>exact m _ h
def zcz (h:onB o Q):∃b,o=some b/\Q b:=by
 cases o with
 | none=>exact h.elim
 | some b=>exact⟨b,rfl,h⟩
def pIsi (T:String):Fn:=fn1 (λd Q=>onB (isiD T d) λb=>Q (.bl b)) λd Q Q' m h=>zcA (λb q=>m _ q) h
def zcN:List String:=["int","bool","str","tuple","list"]
def zfg (hT:T∈zcN):W.kitOne K (.type "int") (.type T)=some (T == "int")/\W.kitOne K (.type "bool") (.type T)=some (T == "int" || T == "bool")/\W.kitOne K (.type "str") (.type T)=some (T == "str")/\
  W.kitOne K (.type "tuple") (.type T)=some (T == "tuple")/\W.kitOne K (.type "list") (.type T)=some (T == "list")/\W.kitOne K (.type "NoneType") (.type T)=some false:=by
 unfold zcN at hT;simp only[ww,vn,jc] at hT
 rcases hT with rfl | rfl | rfl | rfl | rfl <;> exact⟨rfl,rfl,rfl,rfl,rfl,rfl⟩
def ziC (K:W.Frag)(mg:WmP)(T:String):List V->Hp->VK->Prop:=λvs H Q=>∃v G d Q0,vs=[v,.ty T]/\Same G H/\RD K mg G d v/\(onB (isiD T d) λb=>Q0 (.bl b))/\Kt K mg G H Q0 Q
def zid (hT:T∈zcN):z1n X (.builtin "isinstance") (ziC X.K X.mg T):=by
 rintro pins s σ H vs us Q I rv ⟨v,G,d,Q0,e,g,rd,hr,hk⟩;subst e;obtain⟨b,eb,q⟩:=zcz hr;obtain⟨u,w,rfl,ru,rw'⟩:=zfE rv
 cases (show w=Value.type T from rw')
 obtain⟨t1,t2,t3,t4,t5,t6⟩:=zfg (K:=X.K) hT;have fin:∀tk,EP X pins σ Q (.bool b) { s with toks:=tk }:=λtk=>⟨.bl b,H,I.tok tk,rfl,hk.now g q RD.bl'⟩
 cases d with
 | int i=>
  have e:=z0v rd;subst e;rw[show isiD T (.int i)=some (T == "int") from rfl] at eb;exact z3v I ru (.int i) (t1.trans eb) fin
 | bl i=>
  have e:=z6I rd;subst e;rw[show isiD T (.bl i)=some (T == "int" || T == "bool") from rfl] at eb;exact z3v I ru (.bl i) (t2.trans eb) fin
 | str i=>
  have e:=z5f rd;subst e;rw[show isiD T (.str i)=some (T == "str") from rfl] at eb;exact z3v I ru (.str i) (t3.trans eb) fin
 | non=>
  have e:=z6H rd;subst e;rw[show isiD T .non=some false from rfl] at eb;exact z3v I ru .non (t6.trans eb) fin
 | tup l=>
  obtain⟨a,xs,rfl,h1,h2⟩:=z1o rd
  cases ru
  rw[show isiD T (.tup l)=some (T == "tuple") from rfl] at eb;obtain⟨its,r,⟨o,ho,hc,_⟩,_⟩:=I.tuple (z0F g h1);exact vX W.kitx_tuple I.kIn ⟨o,ho,hc⟩ (t4.trans eb) (λz=>nomatch z) fin
 | lst l=>
  f_int
  cases ru
  rw[show isiD T (.lst l)=some (T == "list") from rfl] at eb;obtain⟨its,r,⟨o,n,ho,hc,_⟩,_⟩:=I.list (z13 g h1);exact vX W.kitx_list I.kIn ⟨o,ho,hc⟩ (t5.trans eb) (λz=>nomatch z) fin
 | _=>cases eb
def zgp (hT:T∈zcN)(hg:Gl X "isinstance")(hm:X.mg "isinstance"=none)(he:QX X E e x)(ht:QE X t (tC (.ty T)))
  (hs1:starEach [e,t] X.env=(false,eval e X.env)::starEach [t] X.env:=by rfl) (hs2:starEach [t] X.env=(false,eval t X.env)::starEach [] X.env:=by rfl) (hpl:(backTo pos (starEach [t] X.env)).any (·.1)=false:=by rfl)
  (hv:bootBuiltins "isinstance"=some (.builtin "isinstance"):=by rfl) (hn:("isinstance":Str)≠"__name__":=by decide) (hdb:(("isinstance":Str) == ("__debug__":Str))=false:=by decide):QX X E (.Call (.Name "isinstance" pp) [e,t] [] pos) (.op (pIsi T) [x]):=
 QE.imp (z5I (zid hT) hg hm hv (z4p he (z4p ht z8d hs2) hs1) hn hdb hs1 hpl) <| by
  kt_k;refine⟨G,ρ,_,X0,hs,ab,hr,λd v G1 H1 q g1 g2 g3 rd =>?_,hx⟩;exact⟨v,G1,d,Q0,rfl,g2,rd,q,hk.same g1 g3⟩
def zeW:Fn:=fn1 zaZ z9c
def zfx (hc:X.calm=true):z1n X (.builtin "max") (rN X.K X.mg zeW):=(zbo hc).imp <| by
 k_not;obtain⟨d,rfl,hr'⟩:=z2h hr;obtain⟨v,rfl,rd⟩:=rds1 rds;unfold zaZ at hr'
 split at hr'
 .obtain⟨ns,e,hne,q⟩:=z5O hr';f_int;rw[z3w e] at h2;rw[z2X ns h2] at h1;exact⟨a,ns,rfl,z13 g h1,hne,λm hm hx=>hk.now g (q m hm hx) RD.int'⟩
 .exact hr'.elim
def zd1 {hg}(h:(fnI g hg).run ds Q Xp):∃i j,ds=[.int i,.int j]/\g i j Q:=by
 obtain⟨d,e,rfl,h'⟩:=zd2 (m:=zb1 hg) h;obtain⟨i,j,rfl,rfl,q⟩:=z6b h';exact⟨i,j,rfl,q⟩
def zeV:Fn:=fnI (λi j Q=>Q (.int (if j<i then j else i))) λ_ _ _ _ m h=>m _ h
def zfw (hc:X.calm=true):z1n X (.builtin "min") (rN X.K X.mg zeV):=(zbn hc).imp <| by
 k_not;obtain⟨i,j,rfl,q⟩:=zd1 hr;obtain⟨v,w,rfl,r1,r2⟩:=rds2 rds;exact⟨i,j,by rw[z0v r1,z0v r2],hk.now g q RD.int'⟩
end
structure Nm (sc:Scope)(x:Str):Prop where
 loc:Loc sc x
 hd:(x == ("__debug__":Str))=false
 hcd:(x == ("__classdict__":Str))=false
def Nm.vis {sc:Scope}(h:Nm sc x):Vis sc x:=h.loc.elim .inl λz =>.inr (.inl z)
section
variable {CX:CXT}{P:Program}{w:World}{K:W.Frag}{mg:WmP}{base:Heap}{N:List Str}{qual:Str}{sc:Scope}{f:Addr}{cdv:Value}{A:Around}{outer:List PySem.Env}{s:Shared}{H:Hp}{E:XK}{xe:WvP}{x:Str}{pos pos2:Pos}{e:Expr}{te:TE}
def vg (i:Nat)(h:Nm sc x)(hN:N[i]? = some x:=by rfl):QE ((cxOf CX P w K mg base N qual sc f cdv A outer s H E).wish xe) (.Name x pos) (tVar i):=⟨zdB hN h.vis h.hd h.hcd⟩
def ng (i:Nat)(nd:N.Nodup)(h:Nm sc x)(hN:N[i]? = some x:=by rfl):QG ((cxOf CX P w K mg base N qual sc f cdv A outer s H E).wish xe) (.Name x pos) (z47 i):=⟨zak nd hN h.loc (.inl rfl)⟩
def ag (i:Nat)(nd:N.Nodup)(h:Nm sc x)(he:QE ((cxOf CX P w K mg base N qual sc f cdv A outer s H E).wish xe) e te)(hN:N[i]? = some x:=by rfl)(hs:swapsWith e (some (.Name x pos2)) pos.line ((cxOf CX P w K mg base N qual sc f cdv A outer s H E).wish xe).env=pure false:=by rfl):QS ((cxOf CX P w K mg base N qual sc f cdv A outer s H E).wish xe) (.Assign [.Name x pos2] e pos) (tAsg te (z47 i)):=⟨zgV nd hN h.loc he.p hs (.inl rfl)⟩
end
def spL (K:W.Frag):Sp:=λvs H Q _=>∃(a:Addr) (ns:List Int),vs=[.ref a]/\SqL K H a (ns.map V.int)/\ns.length<=63/\∀H',Q (.bl true) H'
def zhQ {P:Program}{w:World}{K:W.Frag}{mg:WmP}{base:Heap}{CX:CXT}{k:Nat}{f:Addr}{fd:FuncData}{ps:List Str}{F:Fn}(h:∀ns:List Int,ns.length<=63->F.run [.lst (ns.map .int)] (λd=>d = .bl true) (λ_=>False))(ok:FnOk P w K mg base CX k f fd ps (spP K mg F)):FnOk P w K mg base CX k f fd ps (spL K):=
 ok.imp λvs H Q E ⟨a,ns,e,hS,hl,q⟩=>⟨H,[.lst (ns.map .int)],_,_,Same.refl',by rw[e];exact RDs.cons (RD.ofL hS (z69 ns)) RDs.nil,h ns hl,λd v G' H' e g1 g2 g3 rd=>by
  subst e;rw[z6I rd];exact q H',Kx.no⟩
end Pu
namespace Pu
open PySem L2
open Builtin.Int (intBits)
section
variable {ρ:Pu.Env}{Q:DK}{X:XP}{N:Pu.Env->Prop}{a b c e:Ex}{s t:Sm}{F:Fn}{d:D}{i j:Nat}
def zaw (q:Q d):onV (some d) Q:=q
def e_c (q:Q d):(Ex.c d).run ρ Q X:=q
def e_v (q:onV (ρ.get i) Q):(Ex.v i).run ρ Q X:=q
def zjG (q:a.run ρ (λx=>F.run [x] Q X) X):(Ex.op F [a]).run ρ Q X:=q
def zjF (q:a.run ρ (λx=>b.run ρ (λy=>F.run [x,y] Q X) X) X):(Ex.op F [a,b]).run ρ Q X:=q
def zjE (q:a.run ρ (λx=>b.run ρ (λy=>c.run ρ (λz=>F.run [x,y,z] Q X) X) X) X):(Ex.op F [a,b,c]).run ρ Q X:=q
def zjD (q:a.run ρ (λx=>b.run ρ (λy=>c.run ρ (λz=>e.run ρ (λu=>F.run [x,y,z,u] Q X) X) X) X) X):(Ex.op F [a,b,c,e]).run ρ Q X:=q
def zjC (q:runs es ρ (λds=>F.run ds Q X) X):(Ex.op F es).run ρ Q X:=q
def zg8 {Q:List D->Prop}(q:Q []):runs [] ρ Q X:=q
def zen {Q:List D->Prop}(q:a.run ρ (λd=>runs es ρ (λds=>Q (d::ds)) X) X):runs (a::es) ρ Q X:=q
def zjI (q:a.run ρ (λd=>tst d (b.run ρ Q X) (Q (.bl false))) X):(Ex.and a b).run ρ Q X:=q
def e_or (q:a.run ρ (λd=>tst d (Q (.bl true)) (b.run ρ Q X)) X):(Ex.or a b).run ρ Q X:=q
def notD (d:D)(Q:DK):Prop:=match d with
 | .bl b=>Q (.bl (!b))
 | _=>False
def zjH (q:a.run ρ (λd=>notD d Q) X):(Ex.not a).run ρ Q X:=q
def n_bl {k:Bool}(q:Q (.bl (!k))):notD (.bl k) Q:=q
def zi5 (q:src.run ρ (λd=>onL (z02 d) λl=>l.length<sizeLine/\z2R (z2G tg ct elt (z0s nt js ρ)) l λr=>Q (.lst r)) X):(Ex.comp nt js tg src ct elt).run ρ Q X:=q
def zjz (q:K l):onL (z02 (.lst l)) K:=q
def zjy (q:K l):onL (z02 (.tup l)) K:=q
def e_sl {lo hi:Option Ex}(q:a.run ρ (λd=>part lo ρ (λl=>part hi ρ (λu=>slcD d l u Q) X) X) X):(Ex.sl a lo hi).run ρ Q X:=q
def zhb (q:K none):part none ρ K X:=q
def zha (q:a.run ρ (λd=>isI d λi=>K (some i)) X):part (some a) ρ K X:=q
def zhZ {k:Int}(q:K k):isI (.int k) K:=q
def zjP {lo hi:Option Int}(q:Q (.lst (cutD l lo hi))):slcD (.lst l) lo hi Q:=q
def zjO {lo hi:Option Int}(q:Q (.tup (cutD l lo hi))):slcD (.tup l) lo hi Q:=q
def z3W {A B:Prop}(h:A):tst (.bl true) A B:=⟨λ_=>h,(λz=>by cases z)⟩
def z1B {A B:Prop}(h:B):tst (.bl false) A B:=⟨(λz=>by cases z),λ_=>h⟩
def z1k {B:Prop}(h:Safe d ρ)(q:B):Safe d ρ/\B:=⟨h,q⟩
def z3d {d:D}{ρ:Pu.Env}{B:Prop}(h:zdk d ρ)(q:B):zdk d ρ/\B:=⟨h,q⟩
def t_bl {k:Bool}{A B:Prop}(h:k=true->A)(h':k=false->B):tst (.bl k) A B:=⟨h,h'⟩
def z0y {p:Prop}[Decidable p]{A B:Prop}(h:p->A)(h':¬ p->B):tst (.bl (decide p)) A B:=⟨λe=>h (ur e),λe=>h' (jI e)⟩
def z3G {p:Prop}[Decidable p]{A B:Prop}(hp:p)(h:A):tst (.bl (decide p)) A B:=z0y (λ_=>h) λn=>(n hp).elim
def t_no {p:Prop}[Decidable p]{A B:Prop}(hp:¬ p)(h:B):tst (.bl (decide p)) A B:=z0y (λy=>(hp y).elim) λ_=>h
def z5A {k:Bool}{A B:Prop}(h:tst (.bl k) B A):tst (.bl (!k)) A B:=by
 cases k
 .exact z3W (h.2 rfl)
 .exact z1B (h.1 rfl)
def zbG {k:Bool}{A B:Prop}(e:k=true)(h:A):tst (.bl k) A B:=by rw[e];exact z3W h
def z9O (q:N ρ):Sm.skip.run ρ N Q X:=q
def z9P (q:s.run ρ (λρ'=>t.run ρ' N Q X) Q X):(Sm.seq s t).run ρ N Q X:=q
def zeh (q:a.run ρ (λd=>Safe d (ρ.set i .n)/\N (ρ.set i (.s d))) X):(Sm.set i a).run ρ N Q X:=q
def zbT (q:a.run ρ (λd=>zdk d (ρ.set i .n)/\N (ρ.set i (.o d))) X):(Sm.own i a).run ρ N Q X:=q
def s_if (q:c.run ρ (λd=>tst d (s.run ρ N Q X) (t.run ρ N Q X)) X):(Sm.ifs c s t).run ρ N Q X:=q
def ziu (q:a.run ρ Q X):(Sm.ret a).run ρ N Q X:=q
def ziw (q:a.run (vis (dem js ρ)) (λd=>onL (z02 d) λl=>forL tg s N Q X l (dem js ρ)) X):(Sm.for_ js tg a s).run ρ N Q X:=q
def zej (q:a.run ρ (λd=>onR [d] λl=>forL tg s N Q X l ρ) X):(Sm.forr [a] tg s).run ρ N Q X:=q
def zei (q:a.run ρ (λd=>b.run ρ (λd'=>onR [d,d'] λl=>forL tg s N Q X l ρ) X) X):(Sm.forr [a,b] tg s).run ρ N Q X:=q
def z3p {l:List D}(h:ownL ρ i λl=>a.run ρ (λd=>l.length<sizeLine/\Safe d ρ/\N (ρ.set i (.o (.lst (l++[d]))))) X):(Sm.app i a).run ρ N Q X:=h
def zfZ (h:ownL ρ i λl=>popL l λl' _=>N (ρ.set i (.o (.lst l')))):(Sm.pop i).run ρ N Q X:=h
def ziz (h:ds.length=np)(q:s.run (ds.map B.s++List.replicate (nn - np) .n) (λ_=>Q .non) Q (λ_=>False)):(Fn.mkN np nn s).run ds Q X:=⟨h,q⟩
def ziA (h:ds.length=np)(q:s.run (ds.map B.s++List.replicate (nn - np) .n) (λ_=>Q .non) Q X):(Fn.mk' np nn s).run ds Q X:=⟨h,q⟩
def Sm.cut (W:Pu.Env->Prop)(h:s.run ρ W Q X)(k:∀ρ',W ρ'->t.run ρ' N Q X):(Sm.seq s t).run ρ N Q X:=s.mono ρ W (λρ'=>t.run ρ' N Q X) Q Q X X k (λ_ z=>z) (λ_ z=>z) h
def nI (ρ:Pu.Env)(i:Nat):Int:=match ρ.get i with
 | some (.int s)=>s
 | _=>0
def nL (ρ:Pu.Env)(i:Nat):Nat:=match ρ.get i with
 | some (.lst k)=>k.length
 | _=>0
def z0u {α:Type}{f:α->D}{tg:Tg}{l:List α}(I:List α->Pu.Env->Prop)(h0:I [] ρ)(hs:∀(dn:List α) (x:α) (r:List α) (ρ:Pu.Env),l=dn++x::r->I dn ρ->tg.put (f x) ρ λρ'=>s.run ρ' (λρ''=>I (dn++[x]) ρ'') Q X)(hd:∀ρ,I l ρ->N ρ):forL tg s N Q X (l.map f) ρ:=by
 have main:∀(r dn:List α) (ρ:Pu.Env),l=dn++r->I dn ρ->forL tg s N Q X (r.map f) ρ:=by
  intro r
  induction r with
  | nil=>
   intro dn ρ e h;rw[v6] at e;subst e;exact hd ρ h
  | cons x r ih=>
   intro dn ρ e h;rw[ve];exact Tg.put_mono (λρ' q=>s.mono ρ' _ _ Q Q X X (λρ'' q=>ih (dn++[x]) ρ'' (by rw[e];simp) q) (λ_ z=>z) (λ_ z=>z) q) (hs dn x r ρ e h)
 exact main l [] ρ rfl h0
def z6s (I:Pu.Env->Prop)(μ:Pu.Env->Nat)(h0:I ρ)(hs:∀ρ,I ρ->c.run ρ (λd=>tst d (s.run ρ (λρ'=>I ρ'/\μ ρ' < μ ρ) Q X) (N ρ)) X):(Sm.wh c s).run ρ N Q X:=by
 have main:∀(n:Nat) (ρ:Pu.Env),I ρ->μ ρ < n->wh c s N Q X n ρ:=by
  intro n
  induction n with
  | zero=>intro ρ _ h;exact absurd h (jq _)
  | succ n ih=>
   intro ρ hI hm;exact c.mono ρ _ _ X X (λd q=>z2T (s.mono ρ _ _ Q Q X X (λρ' q=>ih ρ' q.1 (by lia)) (λ_ z=>z) (λ_ z=>z)) (λz=>z) q) (λ_ z=>z) (hs ρ hI)
 exact⟨μ ρ+1,main _ ρ h0 (j5 _)⟩
theorem z0O {α:Type}{f g:α->D}{G:D->(Option D->Prop)->Prop}{M:List D->Prop}:∀{l:List α},(∀x∈l,∀K:Option D->Prop,K (some (g x))->G (f x) K)->M (l.map g)->z2R G (l.map f) M
 | [],_,q=>q
 | x::r,h,q=>h x wJ _ (z0O (l:=r) (λy hy=>h y (wm _ hy)) q)
theorem z4G {α β:Type}{f:α->D}{g:β->D}{P:α->β->Prop}{G:D->(Option D->Prop)->Prop}:∀{l:List α}{M:List D->Prop},(∀x∈l,∀K:Option D->Prop,(∀y,P x y->K (some (g y)))->G (f x) K)->(∀ys:List β,ys.length=l.length->(∀y∈ys,∃x∈l,P x y)->M (ys.map g))->z2R G (l.map f) M
 | [],_,_,q=>q [] rfl (λ_ z=>by simp at z)
 | x::r,M,h,q=>h x wJ _ λy hy=>z4G (l:=r) (M:=λt=>M ((some (g y)).toList++t)) (λz hz=>h z (wm _ hz)) λys hl ha=>q (y::ys) (by simp[hl]) λz hz=>by
  rcases ww.mp hz with rfl | hz
  .exact⟨x,wJ,hy⟩
  .obtain⟨w,hw,hp⟩:=ha z hz;exact⟨w,wm _ hw,hp⟩
def zjM {k:Nat}(q:elt.run (ρ.set k (.s x)) (λd=>K (some d)) (λ_=>False)):z2G (.nm k) none elt ρ x K:=q
def zib {k:Nat}(q:c.run (ρ.set k (.s x)) (λb=>tst b (elt.run (ρ.set k (.s x)) (λd=>K (some d)) (λ_=>False)) (K none)) (λ_=>False)):z2G (.nm k) (some c) elt ρ x K:=q
variable {m n:Int}
def zjq (q:Q (.int (m+n))):pAdd.run [.int m,.int n] Q X:=q
def zjk (q:Q (.int (m - n))):pSub.run [.int m,.int n] Q X:=q
def zf4 (h:zfB m n)(q:Q (.int (m*n))):z09.run [.int m,.int n] Q X:=⟨h,q⟩
def zjm (q:Q (.int (-m))):pNeg.run [.int m] Q X:=q
def zhG (h:0<n)(hb:Bt 9000 n)(q:Q (.int (m / n))):z0D.run [.int m,.int n] Q X:=⟨⟨by lia,hb⟩,by rw[Int.fdiv_eq_ediv_of_nonneg m (by lia)];exact q⟩
def zax (h:0<n)(q:Q (.int (m % n))):pMod.run [.int m,.int n] Q X:=⟨by lia,by rw[Int.fmod_eq_emod_of_nonneg m (by lia)];exact q⟩
def zjl (h:CPow m n)(q:Q (.int (m ^ n.toNat))):pPow.run [.int m,.int n] Q X:=⟨h,q⟩
def o_lt (q:Q (.bl (decide (m<n)))):pLt.run [.int m,.int n] Q X:=q
def o_le (q:Q (.bl (decide (m<=n)))):pLe.run [.int m,.int n] Q X:=q
def o_gt (q:Q (.bl (decide (n<m)))):pGt.run [.int m,.int n] Q X:=q
def o_eq (q:Q (.bl (decide (m=n)))):pEq.run [.int m,.int n] Q X:=q
def o_ne (q:Q (.bl (!decide (m=n)))):pNe.run [.int m,.int n] Q X:=q
def z95 (a:Da 60 (.tup l))(b:Da 60 (.tup r))(q:Q (.bl (deq (.tup l) (.tup r)))):pEq.run [.tup l,.tup r] Q X:=⟨a,b,q⟩
def zjn (a:Da 60 (.tup l))(b:Da 60 (.tup r))(q:Q (.bl (!deq (.tup l) (.tup r)))):pNe.run [.tup l,.tup r] Q X:=⟨a,b,q⟩
def o_is (q:Q (.bl (isN d))):pIs.run [d,.non] Q X:=q
def zdG (q:Q (.int (l.length:Int))):pLen.run [.lst l] Q X:=q
def zdF (q:Q (.int (l.length:Int))):pLen.run [.tup l] Q X:=q
def zhC (q:onV (atI l m) Q):pIx.run [.lst l,.int m] Q X:=q
def zhB (q:onV (atI l m) Q):pIx.run [.tup l,.int m] Q X:=q
def zjj (h:ds.length<=sizeLine)(q:Q (.tup ds)):pTup.run ds Q X:=⟨h,q⟩
def zjo (h:ds.length<=sizeLine)(q:Q (.lst ds)):pLst.run ds Q X:=⟨h,q⟩
def zht (q:Q (.tup l)):z3Z.run [.lst l] Q X:=q
def zhA (q:Q (.lst l)):zaq.run [.tup l] Q X:=q
def zjr (q:Q (.int (if m<0 then -m else m))):pAbs.run [.int m] Q X:=q
def zhE (q:Q (.bl (T == "int"))):(pIsi T).run [.int m] Q X:=q
def zhD (q:Q (.bl (T == "tuple"))):(pIsi T).run [.tup l] Q X:=q
def zhz (hne:ns≠[])(q:∀k,k∈ns->(∀x∈ns,x<=k)->Q (.int k)):zeW.run [.lst (ns.map D.int)] Q X:=by
 show onI (ints? (ns.map D.int)) λns=>ns≠[]/\∀m,m∈ns->(∀x∈ns,x<=m)->Q (.int m);rw[zcS];exact⟨hne,q⟩
def zhw (q:Q (.int (if n<m then n else m))):zeV.run [.int m,.int n] Q X:=q
def z6Z (h:l.length+r.length<=sizeLine)(q:Q (.lst (l++r))):pAdd.run [.lst l,.lst r] Q X:=⟨h,q⟩
def zay (h:l.length+r.length<=sizeLine)(q:Q (.tup (l++r))):pAdd.run [.tup l,.tup r] Q X:=⟨h,q⟩
end
theorem Safe.of_noL {d:D}(h1:noL d=true)(h2:noD d=true):∀ρ:Pu.Env,Safe d ρ
 | []=>trivial
 | .n::r=>⟨trivial,Safe.of_noL h1 h2 r⟩
 | .s _::r=>⟨trivial,Safe.of_noL h1 h2 r⟩
 | .o x::r=>⟨by cases x <;> first | exact h1 | exact h2 | trivial,Safe.of_noL h1 h2 r⟩
def z0x {ρ:Pu.Env}{i:Nat}{l:List D}{K:List D->Prop}(h:ρ[i]? = some (B.o (.lst l)))(q:K l):ownL ρ i K:=by unfold ownL;rw[h];exact q
def z5g {k:Int}{K:List D->Prop}(h : -(2 ^ 62)<=k)(h':k<2 ^ 62)(q:K ((List.range k.toNat).map λ(j:Nat)=>D.int (j:Int))):onR [.int k] K:=⟨⟨h,h'⟩,q⟩
def zgc {i k:Int}{K:List D->Prop}(h:(-(2 ^ 62)<=i/\i<2 ^ 62) /\ -(2 ^ 62)<=k/\k<2 ^ 62)(q:K ((List.range (k - i).toNat).map λ(j:Nat)=>D.int (i+(j:Int)))):onR [.int i,.int k] K:=⟨h,q⟩
def z1f {l:List D}{k:Int}{d:D}{Q:DK}(e:atI l k=some d)(q:Q d):onV (atI l k) Q:=by rw[e];exact q
abbrev vec (p:Int × Int):D :=.tup [.int p.1,.int p.2]
theorem z60:∀{l:List D},(∀d∈l,noL d=true)->noLs l=true
 | [],_=>rfl
 | d::r,h=>by rw[noLs,h d wJ,z60 λx hx=>h x (wm _ hx)];rfl
theorem z63:∀{l:List D},(∀d∈l,noD d=true)->noDs l=true
 | [],_=>rfl
 | d::r,h=>by rw[noDs,h d wJ,z63 λx hx=>h x (wm _ hx)];rfl
abbrev vecs (l:List (Int × Int)):D :=.tup (l.map vec)
def z61 (l:List (Int × Int)):noL (vecs l)=true:=by
 show noLs (l.map vec)=true;refine z60 λd hd =>?_;obtain⟨p,_,rfl⟩:=wv.mp hd
 rfl
def z64 (l:List (Int × Int)):noD (vecs l)=true:=by
 show noDs (l.map vec)=true;refine z63 λd hd =>?_;obtain⟨p,_,rfl⟩:=wv.mp hd
 rfl
def z0w {α:Type}{f:α->D}{l:List α}{k:Int}{x:α}(h:atI l k=some x):atI (l.map f) k=some (f x):=by
 unfold atI at h ⊢;rw[wg]
 cases q:ixN l.length k with
 | none=>rw[q] at h;cases h
 | some j=>
  rw[q] at h;have h':l[j]? = some x:=h;show (l.map f)[j]? = some (f x);rw[wB,h']
  rfl
def z2n {α:Type}(f:α->D)(l:List α)(lo hi:Option Int):cutD (l.map f) lo hi=((l.drop (HT.sIx l.length 0 lo)).take (HT.sIx l.length l.length hi - HT.sIx l.length 0 lo)).map f:=by
 unfold cutD;rw[wg,List.map_take,List.map_drop]
def zft (p r:Int × Int):deq (vec p) (vec r)=decide (p=r):=by
 obtain⟨a,b⟩:=p;obtain⟨c,d⟩:=r;show PyData.eqv (.tuple [.int a,.int b]) (.tuple [.int c,.int d])=decide ((a,b)=(c,d));rw[eqv2,j6,Prod.mk.injEq]
theorem Da.vec (p:Int × Int){n:Nat}:Da (n+1) (vec p):=Da.tup.mpr λd hd=>by
 simp only[ww,vn,jc] at hd
 rcases hd with rfl | rfl <;> exact Da.int
theorem Da.vecs (l:List (Int × Int)):Da (n+2) (vecs l):=Da.tup.mpr λd hd=>by
 obtain⟨p,_,rfl⟩:=wv.mp hd;exact Da.vec p
end Pu
namespace Geo
abbrev P:=Int × Int
def Qc (a b c:P):Int:=(b.1 - a.1)*(c.2 - a.2) - (b.2 - a.2)*(c.1 - a.1)
def Lx (a b:P):Prop:=a.1<b.1\/(a.1=b.1/\a.2<b.2)
instance (a b:P):Decidable (Lx a b):=inferInstanceAs (Decidable (_\/_))
def Lx.irr:¬ Lx a a:=by unfold Lx;lia
def Lx.tr {a b c:P}(h:Lx a b)(q:Lx b c):Lx a c:=by unfold Lx at *;lia
def Lx.asym (h:Lx a b):¬ Lx b a:=by unfold Lx at *;lia
def Lx.tri (a b:P):Lx a b\/a=b\/Lx b a:=by
 obtain⟨a1,a2⟩:=a;obtain⟨b1,b2⟩:=b;unfold Lx;simp only[Prod.mk.injEq];lia
def Lx.ne {a b:P}(h:Lx a b):a≠b:=λz=>by subst z;exact Lx.irr h
def z70 (h1:¬ Lx a b)(h2:¬ Lx b a):a=b:=by
 rcases Lx.tri a b with h | h | h
 .exact absurd h h1
 .exact h
 .exact absurd h h2
def z1Z {k m:Int}(h:0<k)(q:0<=m*k):0<=m:=by
 rcases(show m<0\/0<=m by lia) with z | z
 .have:=Int.mul_neg_of_neg_of_pos z h;lia
 .exact z
def z83 {k m:Int}(h:0<k)(q:0<m*k):0<m:=by
 rcases(show m<=0\/0<m by lia) with z | z
 .have:=vF z (vf h);lia
 .exact z
def ze5 {u1 u2 w1 w2 z1 z2:Int}(hw:0<w1\/w1=0/\0<w2)(hu:0<u1\/u1=0/\0<=u2)(hz:0<z1\/z1=0/\0<=z2)(h1:0<=u1*w2 - u2*w1)(h2:0<=w1*z2 - w2*z1):0<=u1*z2 - u2*z1:=by
 rcases hw with hw | ⟨hw,hw2⟩
 .refine z1Z hw ?_;have e:(u1*z2 - u2*z1)*w1=(u1*w2 - u2*w1)*z1+(w1*z2 - w2*z1)*u1:=by grind
  rw[e];have a1:=wH h1 (show 0<=z1 by lia);have a2:=wH h2 (show 0<=u1 by lia);lia
 .subst hw;have z0:z1=0:=by
   rcases hz with hz | hz
   .have:=wP hw2 hz;lia
   .exact hz.1
  have z2':0<=z2:=by lia
  subst z0;have:=wH (show 0<=u1 by lia) z2';lia
def zit {u1 u2 w1 w2 z1 z2:Int}(hw:0<w1\/w1=0/\0<w2)(hu:0<u1\/u1=0/\0<u2)(hz:0<z1\/z1=0/\0<z2)(h1:0<u1*w2 - u2*w1)(h2:0<w1*z2 - w2*z1):0<u1*z2 - u2*z1:=by
 rcases hw with hw | ⟨hw,hw2⟩
 .refine z83 hw ?_;have e:(u1*z2 - u2*z1)*w1=(u1*w2 - u2*w1)*z1+(w1*z2 - w2*z1)*u1:=by grind
  rw[e]
  rcases hu with hu | ⟨hu,hu2⟩
  .have a1:=wH (vf h1) (show 0<=z1 by lia);have a2:=wP h2 hu;lia
  .subst hu;have:=wP hu2 hw;lia
 .subst hw
  rcases hz with hz | ⟨hz,_⟩
  .have:=wP hw2 hz;lia
  .subst hz;lia
def pops (v:P):List P->List P
 | b::a::r=>if Qc a b v<=0 then pops v (a::r) else b::a::r
 | s=>s
def z52 (S:P->Prop):List P->Prop
 | b::a::r=>(∀p,S p->0<=Qc a b p)/\Lx a b/\z52 S (a::r)
 | _=>True
def Conv:List P->Prop
 | c::b::a::r=>0<Qc a b c/\Conv (b::a::r)
 | _=>True
def z52.tail (h:z52 S (b::r)):z52 S r:=by
 cases r with
 | nil=>trivial
 | cons a r=>exact h.2.2
def Conv.tail (h:Conv (b::r)):Conv r:=by
 match r,h with
 | [],_=>trivial
 | [_],_=>trivial
 | _::_::_,h=>exact h.2
theorem z7b {v:P}:∀{r:List P}{b a:P},z52 S (b::a::r)->Conv (b::a::r)->Lx b v->0<Qc a b v->z52 (λp=>p=v\/S p) (b::a::r)
 | [],b,a,he,hc,hv,h=>⟨λp hp=>by
   rcases hp with rfl | hp
   .exact vf h
   .exact he.1 p hp,he.2.1,trivial⟩
 | c::r,b,a,he,hc,hv,h=>by
  have hca:=he.2.2.2.1;have hab:=he.2.1;have h2:0<Qc c a v:=by
   have q1:0<Qc c a b:=hc.1;have:=zit (u1:=a.1 - c.1) (u2:=a.2 - c.2) (w1:=b.1 - a.1) (w2:=b.2 - a.2) (z1:=v.1 - b.1) (z2:=v.2 - b.2) (by unfold Lx at hab;lia) (by unfold Lx at hca;lia) (by unfold Lx at hv;lia)
    (by unfold Qc at q1;grind) (by unfold Qc at h;grind)
   unfold Qc at q1 ⊢
   grind
  exact⟨λp hp=>by
   rcases hp with rfl | hp
   .exact vf h
   .exact he.1 p hp,hab,z7b he.2.2 hc.2 (hab.tr hv) h2⟩
theorem zaa {v:P}(hv:∀p,S p->Lx p v):∀{r:List P}{b:P},(∀x∈b::r,S x)->z52 S (b::r)->Conv (b::r)->(∀p,S p->¬ Lx p b->0<=Qc b v p)->(∀z,(b::r).getLast? = some z->∀p,S p->¬ Lx p z)->
  ∃b' r',pops v (b::r)=b'::r'/\(b'::r') <:+ (b::r)/\(∀p,S p->0<=Qc b' v p)/\z52 (λp=>p=v\/S p) (b'::r')/\Conv (v::b'::r')
 | [],b,hs,he,hc,ht,hl=>⟨b,[],rfl,List.suffix_refl _,λp hp=>ht p hp (hl b rfl p hp),trivial,trivial⟩
 | a::r,b,hs,he,hc,ht,hl=>by
  have hab:=he.2.1;have hbv:=hv b (hs b (by simp))
  by_cases h:Qc a b v<=0
  .have e:pops v (b::a::r)=pops v (a::r):=by rw[pops,if_pos h]
   obtain⟨b',r',h1,h2,h3,h4,h5⟩:=zaa hv (r:=r) (b:=a) (λx hx=>hs x (wm _ hx)) he.tail hc.tail (λp hp hn=>by
    have q1:=he.1 p hp;have:=ze5 (u1:=v.1 - a.1) (u2:=v.2 - a.2) (w1:=b.1 - a.1) (w2:=b.2 - a.2) (z1:=p.1 - a.1) (z2:=p.2 - a.2) (by unfold Lx at hab;lia) (by have:=hab.tr hbv;unfold Lx at this;lia) (by unfold Lx at hn;lia)
     (by unfold Qc at h;grind) (by unfold Qc at q1;grind)
    unfold Qc
    grind) (λz hz=>hl z (by rw[uQ];exact hz))
   exact⟨b',r',e.trans h1,h2.trans (List.suffix_cons _ _),h3,h4,h5⟩
  .have h':0<Qc a b v:=by lia
   have e:pops v (b::a::r)=b::a::r:=by rw[pops,if_neg h]
   refine⟨b,a::r,e,List.suffix_refl _,λp hp =>?_,z7b he hc hbv h',⟨h',hc⟩⟩
   by_cases hn:Lx p b
   .have q1:=he.1 p hp;have:=ze5 (u1:=b.1 - p.1) (u2:=b.2 - p.2) (w1:=b.1 - a.1) (w2:=b.2 - a.2) (z1:=v.1 - b.1) (z2:=v.2 - b.2) (by unfold Lx at hab;lia) (by unfold Lx at hn;lia) (by unfold Lx at hbv;lia)
     (by unfold Qc at q1;grind) (by unfold Qc at h';grind)
    unfold Qc
    grind
   .exact ht p hp hn
structure Ok (S:P->Prop)(s:List P):Prop where
 sub:∀x∈s,S x
 desc:s.Pairwise λx y=>Lx y x
 top:∃b r,s=b::r/\∀p,S p->¬ Lx b p
 bot:∃z,s.getLast? = some z/\∀p,S p->¬ Lx p z
 edges:z52 S s
 conv:Conv s
def z4l (h:(b::t) <:+ s):s.getLast? = (b::t).getLast? := by
 obtain⟨u,rfl⟩:=h;rw[List.getLast?_append];rw[List.getLast?_cons]
 rfl
def Ok.push {v:P}(o:Ok S s)(hv:∀p,S p->Lx p v):Ok (λp=>p=v\/S p) (v::pops v s):=by
 obtain⟨b,r,rfl,htop⟩:=o.top;obtain⟨z,hz,hbot⟩:=o.bot;obtain⟨b',r',h1,h2,h3,h4,h5⟩:=zaa hv o.sub o.edges o.conv (λp hp hn=>by
  have:p=b:=z70 hn (htop p hp);subst this;unfold Qc
  grind) (λz' hz'=>by rw[hz] at hz';injection hz' with e;subst e;exact hbot)
 have hin:∀x∈b'::r',S x:=λx hx=>o.sub x (h2.subset hx);rw[h1];refine⟨λx hx =>?_,?_,⟨v,_,rfl,λp hp =>?_⟩,⟨z,?_,λp hp =>?_⟩,⟨λp hp =>?_,hv b' (hin b' (by simp)),h4⟩,h5⟩
 .rcases ww.mp hx with rfl | hx
  .exact .inl rfl
  .exact .inr (hin x hx)
 .exact vh.mpr ⟨λx hx=>hv x (hin x hx),o.desc.sublist h2.sublist⟩
 .rcases hp with rfl | hp
  .exact Lx.irr
  .exact(hv p hp).asym
 .rw[uQ, <- z4l h2];exact hz
 .rcases hp with rfl | hp
  .exact(hv z (by rw[z4l h2] at hz;exact hin z (List.mem_of_getLast? hz))).asym
  .exact hbot p hp
 .rcases hp with rfl | hp
  .unfold Qc;grind
  .exact h3 p hp
def z1F (l:List P):List P:=l.foldl (λs v=>v::pops v s) []
def Ok.one (v:P):Ok (λp=>p=v) [v]:=⟨by simp,by simp,⟨v,[],rfl,λp hp=>by subst hp;exact Lx.irr⟩,⟨v,rfl,λp hp=>by subst hp;exact Lx.irr⟩,trivial,trivial⟩
def Ok.congr (o:Ok S s)(h:∀p,S p↔S' p):Ok S' s:=by
 have e:S=S':=funext λp=>propext (h p);subst e;exact o
theorem z8F:∀(l:List P) (S:P->Prop) (s:List P),Ok S s->(∀x∈l,∀p,S p->Lx p x)->l.Pairwise Lx->Ok (λp=>S p\/p∈l) (l.foldl (λs v=>v::pops v s) s)
 | [],S,s,o,_,_=>o.congr (by simp)
 | v::l,S,s,o,h,hp=>by
  obtain⟨h1,h2⟩:=vh.mp hp;have:=z8F l _ _ (o.push (v:=v) (h v (by simp))) (λx hx p hp=>by
   rcases hp with rfl | hp
   .exact h1 x hx
   .exact h x (by simp[hx]) p hp) h2
  refine this.congr λp =>?_;simp only[ww]
  w_up
  .rintro((h | h) | h)
   .exact .inr (.inl h)
   .exact .inl h
   .exact .inr (.inr h)
  .rintro(h | h | h)
   .exact .inl (.inr h)
   .exact .inl (.inl h)
   .exact .inr h
def z7g (hn:l≠[])(hp:l.Pairwise Lx):Ok (· ∈ l) (z1F l):=by
 match l,hn with
 | v::l,_=>
  obtain⟨h1,h2⟩:=vh.mp hp;have:=z8F l (λp=>p=v) [v] (Ok.one v) (λx hx p hp=>by subst hp;exact h1 x hx) h2;exact this.congr λp=>by simp
def ng (p:P):P:=(-p.1,-p.2)
def z3s (p:P):ng (ng p)=p:=by unfold ng;simp
def zd8 (a b c:P):Qc (ng a) (ng b) (ng c)=Qc a b c:=by unfold Qc ng;grind
def z96:Lx (ng a) (ng b)↔Lx b a:=by unfold Lx ng;simp;lia
theorem zab (v:P):∀s:List P,pops (ng v) (s.map ng)=(pops v s).map ng
 | []=>rfl
 | [_]=>rfl
 | b::a::r=>by
  show (if Qc (ng a) (ng b) (ng v)<=0 then pops (ng v) ((a::r).map ng) else _)=_;rw[zd8,zab v (a::r),pops]
  by_cases h:Qc a b v<=0
  .rw[if_pos h,if_pos h]
  .rw[if_neg h,if_neg h];rfl
theorem zb4:∀(l s:List P),(l.map ng).foldl (λs v=>v::pops v s) (s.map ng)=(l.foldl (λs v=>v::pops v s) s).map ng
 | [],_=>rfl
 | v::l,s=>by
  show (l.map ng).foldl _ (ng v::pops (ng v) (s.map ng))=_;rw[zab];exact zb4 l (v::pops v s)
def zbm (l:List P):z1F (l.map ng)=(z1F l).map ng:=zb4 l []
def dot (a b p:P):Int:=(p.1 - a.1)*(b.1 - a.1)+(p.2 - a.2)*(b.2 - a.2)
structure Edge (S:P->Prop)(a b:P):Prop where
 sa:S a
 sb:S b
 ne:a≠b
 left:∀p,S p->0<=Qc a b p
 btw:∀p,S p->Qc a b p=0->0<=dot a b p/\0<=dot b a p
theorem Edge.ng (e:Edge (λp=>S (Geo.ng p)) a b):Edge S (Geo.ng a) (Geo.ng b):=by
 refine⟨e.sa,e.sb,λz=>e.ne (by have:=congrArg Geo.ng z;rwa [z3s,z3s] at this),λp hp =>?_,λp hp h =>?_⟩
 .have:=e.left (Geo.ng p) (by rw[z3s];exact hp);rw[<- zd8,z3s] at this;exact this
 .have:=e.btw (Geo.ng p) (by rw[z3s];exact hp) (by rw[<- zd8,z3s];exact h);unfold dot Geo.ng at*;dsimp only at*
  w_up
  .have:=this.1;grind
  .have:=this.2;grind
def zfu (a b c:P):Qc a c b = -Qc a b c:=by unfold Qc;grind
def z0c (x:Int):0<=x*x:=by
 rcases(show x<=0\/0<=x by lia) with h | h
 .exact uY h h
 .exact wH h h
def z3c {x y:Int}(h:x*x+y*y=0):x=0/\y=0:=by
 have h1:=z0c x;have h2:=z0c y;have t1:x*x=0:=by omega
 have t2:y*y=0:=by omega
 w_up
 .rcases wK.mp t1 with z | z <;> exact z
 .rcases wK.mp t2 with z | z <;> exact z
def Edge.det {a b c:P}(e:Edge S a b)(f:Edge S a c):b=c:=by
 have h1:=e.left c f.sb;have h2:=f.left b e.sb;have hsw:=zfu a b c;have h0:Qc a b c=0:=by lia
 have h0':Qc a c b=0:=by lia
 have q1:=e.btw c f.sb h0;have q2:=f.btw b e.sb h0';have ne1:=e.ne;have ne2:=f.ne;obtain⟨a1,a2⟩:=a;obtain⟨b1,b2⟩:=b;obtain⟨c1,c2⟩:=c;unfold Qc at h0;unfold dot at q1 q2;simp only[ne_eq,Prod.mk.injEq] at*;obtain⟨q11,q12⟩:=q1;obtain⟨q21,q22⟩:=q2;have k1:(b1 - c1)*(b1 - c1)+(b2 - c2)*(b2 - c2)=0:=by
  generalize hu1:b1 - a1=u1 at*;generalize hu2:b2 - a2=u2 at*;generalize hw1:c1 - a1=w1 at*;generalize hw2:c2 - a2=w2 at*;have e1:b1 - c1=u1 - w1:=by lia
  have e2:b2 - c2=u2 - w2:=by lia
  have e3:c1 - b1=w1 - u1:=by lia
  have e4:c2 - b2=w2 - u2:=by lia
  have e5:a1 - b1 = -u1:=by lia
  have e6:a2 - b2 = -u2:=by lia
  have e7:a1 - c1 = -w1:=by lia
  have e8:a2 - c2 = -w2:=by lia
  rw[e1,e2] at q22 ⊢;rw[e3,e4,e5,e6] at q12;rw[e7,e8] at q22;have A:0<=(u1*u1+u2*u2) - (u1*w1+u2*w2):=by grind
  have B:0<=(w1*w1+w2*w2) - (u1*w1+u2*w2):=by grind
  have C:(u1*u1+u2*u2)*(w1*w1+w2*w2)=(u1*w1+u2*w2)*(u1*w1+u2*w2):=by
   have:(u1*u1+u2*u2)*(w1*w1+w2*w2)=(u1*w1+u2*w2)*(u1*w1+u2*w2)+(u1*w2 - u2*w1)*(u1*w2 - u2*w1):=by grind
   rw[this,h0];lia
  have D:0<=u1*w1+u2*w2:=by grind
  have PX:0<u1*u1+u2*u2:=by
   have n1:=z0c u1;have n2:=z0c u2
   rcases(show u1*u1+u2*u2=0\/0<u1*u1+u2*u2 by lia) with z | z
   .have:=z3c z;lia
   .exact z
  have PY:0<w1*w1+w2*w2:=by
   have n1:=z0c w1;have n2:=z0c w2
   rcases(show w1*w1+w2*w2=0\/0<w1*w1+w2*w2 by lia) with z | z
   .have:=z3c z;lia
   .exact z
  have E:(u1 - w1)*(u1 - w1)+(u2 - w2)*(u2 - w2)=((u1*u1+u2*u2) - (u1*w1+u2*w2))+((w1*w1+w2*w2) - (u1*w1+u2*w2)):=by grind
  rw[E];generalize u1*u1+u2*u2=X at*;generalize w1*w1+w2*w2=Y at*;generalize u1*w1+u2*w2=Z at*;have F:(X - Z)*Y+Z*(Y - Z)=0:=by grind
  have G1:=wH A (show 0<=Y by lia);have G2:=wH D B;have G3:(X - Z)*Y=0:=by omega
  have G4:Z*(Y - Z)=0:=by omega
  rcases wK.mp G3 with h | h
  .rcases wK.mp G4 with h' | h'
   .have:X*Y=0:=by rw[C,h'];rfl
    rcases wK.mp this with h'' | h'' <;> lia
   .lia
  .rcases wK.mp G4 with h' | h' <;> lia
 have:=z3c k1;lia
def Path (R:P->P->Prop):List P->Prop
 | a::b::r=>R a b/\Path R (b::r)
 | _=>True
theorem Path.join:∀{A:List P},Path R (A++[M])->Path R (M::t)->Path R (A++M::t)
 | [],_,h=>h
 | [a],h,q=>⟨h.1,q⟩
 | a::b::A,h,q=>⟨h.1,Path.join (A:=b::A) h.2 q⟩
def Path.snoc (h:Path R (A++[a]))(q:R a b):Path R (A++[a,b]):=Path.join h ⟨q,trivial⟩
theorem Path.rev:∀{l:List P},Path (λx y=>R y x) l->Path R l.reverse
 | [],_=>trivial
 | [_],_=>trivial
 | a::b::r,h=>by
  have:=Path.rev (l:=b::r) h.2;rw[uC] at this ⊢;rw[uC];rw[vZ];exact Path.snoc this h.1
theorem Path.imp {R R':P->P->Prop}(i:∀a b,R a b->R' a b):∀{l:List P},Path R l->Path R' l
 | [],_=>trivial
 | [_],_=>trivial
 | _::_::_,h=>⟨i _ _ h.1,Path.imp i h.2⟩
theorem Path.map {R:P->P->Prop}{f:P->P}:∀{l:List P},Path (λa b=>R (f a) (f b)) l->Path R (l.map f)
 | [],_=>trivial
 | [_],_=>trivial
 | _::b::r,h=>⟨h.1,Path.map (l:=b::r) h.2⟩
def zdI (h:Lx a b)(q:¬ Lx b p)(z:Qc a b p=0):0<=dot b a p:=by
 unfold Lx at h q;unfold Qc at z;unfold dot;have e:(p.1 - b.1)*(a.1 - b.1)+(p.2 - b.2)*(a.2 - b.2)=(b.1 - a.1)*(b.1 - p.1)+(b.2 - a.2)*(b.2 - p.2):=by grind
 rw[e];have z':(b.1 - a.1)*(b.2 - p.2)=(b.2 - a.2)*(b.1 - p.1):=by grind
 generalize hu1:b.1 - a.1=u1 at*;generalize hu2:b.2 - a.2=u2 at*;generalize hw1:b.1 - p.1=w1 at*;generalize hw2:b.2 - p.2=w2 at*
 rcases(show 0<u1\/u1=0/\0<u2 by lia) with h1 | ⟨h1,h2⟩
 .refine z1Z h1 ?_;have:(u1*w1+u2*w2)*u1=w1*(u1*u1+u2*u2):=by grind
  rw[this];have n1:=z0c u1;have n2:=z0c u2;exact wH (by lia) (by lia)
 .subst h1;have:u2*w1=0:=by lia
  rcases wK.mp this with z | z
  .lia
  .subst z;have:=wH (vf h2) (show 0<=w2 by lia);lia
def zf8 (h:Lx a b)(q:¬ Lx p a)(z:Qc a b p=0):0<=dot a b p:=by
 have:=zdI (a:=ng b) (b:=ng a) (p:=ng p) (z96.mpr h) (λy=>q (z96.mp y)) (by rw[zd8];unfold Qc at *;grind);unfold dot ng at*;dsimp only at this
 grind
def zaz {a b c p:P}(h:0<Qc a b c)(q:0<=Qc b c p)(z:Qc a b p=0):0<=dot b a p:=by
 unfold Qc at h q z;unfold dot;have e1:(p.1 - b.1)*(a.1 - b.1)+(p.2 - b.2)*(a.2 - b.2) = -((p.1 - b.1)*(b.1 - a.1)+(p.2 - b.2)*(b.2 - a.2)):=by grind
 rw[e1];have h':0<(b.1 - a.1)*(c.2 - b.2) - (b.2 - a.2)*(c.1 - b.1):=by grind
 have z':(b.1 - a.1)*(p.2 - b.2) - (b.2 - a.2)*(p.1 - b.1)=0:=by grind
 generalize b.1 - a.1=u1 at*;generalize b.2 - a.2=u2 at*;generalize c.1 - b.1=c1 at*;generalize c.2 - b.2=c2 at*;generalize p.1 - b.1=w1 at*;generalize p.2 - b.2=w2 at*;refine z1Z h' ?_;have : -(w1*u1+w2*u2)*(u1*c2 - u2*c1)=(c1*w2 - c2*w1)*(u1*u1+u2*u2) - (u1*w2 - u2*w1)*(c1*u1+c2*u2):=by grind
 rw[this,z',jw,Int.sub_zero];have n1:=z0c u1;have n2:=z0c u2;exact wH q (by lia)
def z8k (h:0<Qc y a b)(q:0<=Qc y a p)(z:Qc a b p=0):0<=dot a b p:=by
 unfold Qc at h q z;unfold dot;have h':0<(a.1 - y.1)*(b.2 - a.2) - (a.2 - y.2)*(b.1 - a.1):=by grind
 have q':0<=(a.1 - y.1)*(p.2 - a.2) - (a.2 - y.2)*(p.1 - a.1):=by grind
 generalize b.1 - a.1=u1 at*;generalize b.2 - a.2=u2 at*;generalize a.1 - y.1=c1 at*;generalize a.2 - y.2=c2 at*;generalize p.1 - a.1=w1 at*;generalize p.2 - a.2=w2 at*;refine z1Z h' ?_;have:(w1*u1+w2*u2)*(c1*u2 - c2*u1)=(c1*w2 - c2*w1)*(u1*u1+u2*u2) - (u1*w2 - u2*w1)*(c1*u1+c2*u2):=by grind
 rw[this,z,jw,Int.sub_zero];have n1:=z0c u1;have n2:=z0c u2;exact wH q' (by lia)
theorem z5u:∀{r:List P}{b a:P},(∀x∈b::a::r,S x)->z52 S (b::a::r)->Conv (b::a::r)->(∀z,(b::a::r).getLast? = some z->∀p,S p->¬ Lx p z)->(∀p,S p->Qc a b p=0->0<=dot b a p)->Path (λx y=>Edge S y x) (b::a::r)
 | [],b,a,hs,he,hc,hl,ht=>⟨⟨hs a (by simp),hs b (by simp),he.2.1.ne,he.1,λp hp z=>⟨zf8 he.2.1 (hl a rfl p hp) z,ht p hp z⟩⟩,trivial⟩
 | y::r,b,a,hs,he,hc,hl,ht=>by
  refine⟨⟨hs a (by simp),hs b (by simp),he.2.1.ne,he.1,λp hp z=>⟨z8k hc.1 (he.2.2.1 p hp) z,ht p hp z⟩⟩,?_⟩;exact z5u (λx hx=>hs x (wm _ hx)) he.2.2 hc.2 (λz hz=>hl z (by rw[uQ];exact hz)) λp hp z=>zaz hc.1 (he.1 p hp) z
def Ok.path (o:Ok S s):Path (Edge S) s.reverse:=by
 refine Path.rev ?_;obtain⟨b,r,rfl,ht⟩:=o.top;obtain⟨z,hz,hl⟩:=o.bot
 cases r with
 | nil=>trivial
 | cons a r=>exact z5u o.sub o.edges o.conv (λz' hz'=>by rw[hz] at hz';injection hz' with e;subst e;exact hl) λp hp z=>zdI o.edges.2.1 (ht p hp) z
def hull (l:List P):List P:=if l.length<=1 then l else (z1F l).reverse.dropLast++(z1F l.reverse).reverse.dropLast
structure z04 (S:P->Prop)(h:List P):Prop where
 ex:∃m t,h=m::t/\S m/\(∀p,S p->¬ Lx p m)/\m ∉ t/\((t=[]/\∀p,S p->p=m)\/(t≠[]/\Path (Edge S) (m::t++[m])))
theorem z3a (det:∀a b c,R a b->R a c->b=c):∀{t t':List P}{a:P},m ∉ t->m ∉ t'->Path R (a::t++[m])->Path R (a::t'++[m])->t=t'
 | [],[],_,_,_,_,_=>rfl
 | [],b::t',a,_,h,p,q=>by
  have:b=m:=det a b m q.1 p.1;exact absurd (by rw[this];simp) h
 | b::t,[],a,h,_,p,q=>by
  have:b=m:=det a b m p.1 q.1;exact absurd (by rw[this];simp) h
 | b::t,c::t',a,h,h',p,q=>by
  have e:b=c:=det a b c p.1 q.1;subst e;rw[z3a det (t:=t) (t':=t') (λz=>h (by simp[z])) (λz=>h' (by simp[z])) p.2 q.2]
def z04.unique {S:P->Prop}{h h':List P}(x:z04 S h)(y:z04 S h'):h=h':=by
 obtain⟨m,t,rfl,sm,lm,nm,e⟩:=x.ex;obtain⟨m',t',rfl,sm',lm',nm',e'⟩:=y.ex;have em:m=m':=z70 (lm' m sm) (lm m' sm');subst em;have one:∀{u:List P},u≠[]->Path (Edge S) (m::u++[m])->(∀p,S p->p=m)->False:=λ{u} hu hp ha=>by
  match u,hu with
  | b::u,_=>
   have e:Edge S m b:=hp.1;exact e.ne (ha b e.sb).symm
 rcases e with ⟨rfl,ha⟩ | ⟨hn,hp⟩
 .rcases e' with ⟨rfl,_⟩ | ⟨hn',hp'⟩
  .rfl
  .exact(one hn' hp' ha).elim
 .rcases e' with ⟨rfl,ha⟩ | ⟨hn',hp'⟩
  .exact(one hn hp ha).elim
  .rw[z3a (R:=Edge S) (λa b c p q=>Edge.det p q) nm nm' hp hp']
def z2F (h:s.getLast? = some z):s.dropLast++[z]=s:=by
 have hn:s≠[]:=λe=>by rw[e] at h;simp at h
 have e:s.getLast hn=z:=by
  rw[List.getLast?_eq_some_getLast hn] at h;exact vk h
 rw[<- e];exact List.dropLast_concat_getLast hn
def zfG {l:List P}(hl:2<=l.length)(hp:l.Pairwise Lx):∃x y,x∈l/\y∈l/\Lx x y:=by
 match l,hl,hp with
 | x::y::r,_,hp=>exact⟨x,y,by simp,by simp,(vh.mp hp).1 y (by simp)⟩
def z5q {l:List P}(hl:2<=l.length)(hp:l.Pairwise Lx):∃m M A B,hull l=m::A++M::B/\m∈l/\M∈l/\Lx m M/\(∀p∈l,¬ Lx p m)/\(∀p∈l,¬ Lx M p)/\
  (m::A++[M]).Pairwise Lx/\(M::B++[m]).Pairwise (λx y=>Lx y x)/\Path (Edge (· ∈ l)) (m::A++[M])/\Path (Edge (· ∈ l)) (M::B++[m]):=by
 have hne:l≠[]:=λz=>by rw[z] at hl;simp at hl
 have o1:=z7g hne hp;have hp2:(l.reverse.map ng).Pairwise Lx:=by
  rw[vp,List.pairwise_reverse];exact hp.imp λh=>z96.mpr h
 have o2:=z7g (l:=l.reverse.map ng) (by simpa using hne) hp2;rw[zbm] at o2;have mem:∀p,p∈l.reverse.map ng↔ng p∈l:=λp=>by
  simp only[wv,List.mem_reverse]
  w_up
  .rintro⟨q,hq,rfl⟩;rw[z3s];exact hq
  .intro h;exact⟨ng p,h,z3s p⟩
 obtain⟨M,r1,e1,t1⟩:=o1.top;obtain⟨m,b1,b1'⟩:=o1.bot;obtain⟨M',r2,e2,t2⟩:=o2.top;obtain⟨m',b2,b2'⟩:=o2.bot;have Ml:M∈l:=o1.sub M (by rw[e1];simp);have ml:m∈l:=o1.sub m (List.mem_of_getLast? b1);have M'l:ng M'∈l:=(mem M').mp (o2.sub M' (by rw[e2];simp));have m'l:ng m'∈l:=(mem m').mp (o2.sub m' (List.mem_of_getLast? b2));have hMm:ng M'=m:=by
  refine z70 (b1' _ M'l) λz =>?_;have:=t2 (ng m) ((mem _).mpr (by rw[z3s];exact ml));exact this (by rw[<- z3s M'];exact z96.mpr z)
 have hmM:ng m'=M:=by
  refine z70 (λz =>?_) (t1 _ m'l);have:=b2' (ng M) ((mem _).mpr (by rw[z3s];exact Ml));exact this (by rw[<- z3s m'];exact z96.mpr z)
 have hlt:Lx m M:=by
  rcases Lx.tri m M with h | h | h
  .exact h
  .exfalso
   subst h;have all:∀p∈l,p=m:=λp hp=>z70 (b1' p hp) (t1 p hp);obtain⟨x,y,hx,hy,this⟩:=zfG hl hp;rw[all x hx,all y hy] at this;exact Lx.irr this
  .exact absurd h (t1 m ml)
 have there:∃A,(z1F l).reverse=m::A++[M]:=by
  rw[e1] at b1 ⊢
  cases r1 with
  | nil=>simp at b1;exact absurd (b1 ▸ hlt) Lx.irr
  | cons c r=>
   rw[uQ] at b1;refine⟨(c::r).dropLast.reverse,?_⟩;rw[uC, <- z2F b1];simp
 obtain⟨A,eA⟩:=there;have ec2:z1F l.reverse=(M'::r2).map ng:=by
  have:((z1F l.reverse).map ng).map ng=(M'::r2).map ng:=by rw[e2]
  rw[vM] at this;simpa[Function.comp_def,z3s] using this
 have back:∃B,(z1F l.reverse).reverse=M::B++[m]:=by
  rw[e2] at b2;rw[ec2]
  cases r2 with
  | nil=>
   simp at b2;rw[b2] at hMm;rw[hMm] at hmM;exact absurd (hmM ▸ hlt) Lx.irr
  | cons c r=>
   rw[uQ] at b2;refine⟨((c::r).dropLast.map ng).reverse,?_⟩;have:(c::r)=(c::r).dropLast++[m']:=(z2F b2).symm;rw[ve,uC,hMm,this,wY];simp[hmM]
 obtain⟨B,eB⟩:=back;refine⟨m,M,A,B,?_,ml,Ml,hlt,b1',t1,?_,?_,?_,?_⟩
 .unfold hull;rw[if_neg (by lia),eA,eB,List.dropLast_concat,List.dropLast_concat]
 .rw[<- eA,List.pairwise_reverse];exact o1.desc
 .rw[<- eB,List.pairwise_reverse];have q:=o2.desc;rw[vp] at q;exact q.imp λh=>z96.mp h
 .rw[<- eA];exact o1.path
 .rw[<- eB];have q:=o2.path;rw[<- uP] at q;have h2:Path (λa b=>Edge (· ∈ l) (ng a) (ng b)) ((z1F l.reverse).map ng).reverse:=by
   rw[<- uP];refine Path.imp (λa b e =>?_) q;refine Edge.ng ?_;have es:(λp=>ng p∈l)=(λp=>p∈l.reverse.map ng):=funext λp=>propext (mem p).symm;rw[es];exact e
  have h3:=Path.map (f:=ng) h2;rw[uP,vM] at h3;simpa[Function.comp_def,z3s] using h3
def zfl (hn:l≠[])(hp:l.Pairwise Lx):z04 (· ∈ l) (hull l):=by
 by_cases h1:l.length<=1
 .match l,hn,h1 with
  | [x],_,_=>exact⟨x,[],rfl,by simp,λp hp=>by rw[wq.mp hp];exact Lx.irr,by simp,.inl ⟨rfl,λp hp=>wq.mp hp⟩⟩
 .obtain⟨m,M,A,B,e,ml,Ml,hlt,hmin,hmax,pa,pb,wa,wb⟩:=z5q (by lia) hp;refine⟨m,A++M::B,e,ml,hmin,λz =>?_,.inr ⟨by simp,?_⟩⟩
  .rcases wG.mp z with z | z
   .exact Lx.irr ((vh.mp pa).1 m (by simp[z]))
   .rcases ww.mp z with z | z
    .exact Lx.irr (z ▸ hlt)
    .have:(M::B++[m]).Pairwise (λx y=>Lx y x):=pb;rw[v3] at this;exact Lx.irr (this.2.2 m (by simp[z]) m (by simp))
  .have:m::(A++M::B)++[m]=(m::A)++M::(B++[m]):=by simp
   rw[this];exact Path.join wa wb
end Geo
open Geo
namespace Lcg
def orb (x:Nat):Nat->Nat
 | 0=>x
 | n+1=>orb x n*5+1
theorem z7F (x m:Nat):∀n,orb x (m+n)=orb (orb x m) n
 | 0=>rfl
 | n+1=>congrArg (· * 5+1) (z7F x m n)
theorem zar:∀k:Nat,∃c d,∀y,orb y (2 ^ k)=y+2 ^ k*(2*d+1+4*c*y)
 | 0=>⟨1,0,λy=>by show y*5+1=_;lia⟩
 | k+1=>by
  obtain⟨c,d,h⟩:=zar k;exact⟨c+2*c*c*2 ^ k,d+(2*d+1)*c*2 ^ k,λy=>by
   rw[Wd,Nat.mul_two,z7F,h,h]
   grind⟩
theorem zas (x e:Nat):∀k,∃n,n<2 ^ k/\orb x n % 2 ^ k=e % 2 ^ k
 | 0=>⟨0,by decide,by lia⟩
 | k+1=>by
  obtain⟨n,h,g⟩:=zas x e k;obtain⟨c,d,t⟩:=zar k;simp only[Wd,Nat.mod_mul]
  by_cases q:orb x n / 2 ^ k % 2=e / 2 ^ k % 2
  .exact⟨n,by lia,by rw[g,q]⟩
  .refine⟨n+2 ^ k,by lia,?_⟩;rw[z7F,t,Nat.add_mul_mod_self_left,g,Nat.add_mul_div_left _ _ (Nat.two_pow_pos k)]
   congr 2
   lia
end Lcg
namespace Tab
open PySem PySem.SetTable
theorem z6m (xs:Array Nat)(j:Nat)(hr:∀a b,a<b->b<xs.size->xs.getD a 0<xs.getD b 0):∀(fuel lo hi:Nat),hi<=xs.size->hi - lo<=fuel->lo<=hi->(∀i,i<lo->xs.getD i 0<j)->(∀i,hi<=i->i<xs.size->j<=xs.getD i 0)->
  below.go xs j fuel lo hi<=xs.size/\(∀i,i<below.go xs j fuel lo hi->xs.getD i 0<j)/\(∀i,below.go xs j fuel lo hi<=i->i<xs.size->j<=xs.getD i 0)
 | 0,lo,hi,h1,h2,h3,h4,h5=>by
  have:lo=hi:=by lia
  subst this;exact⟨h1,h4,h5⟩
 | fuel+1,lo,hi,h1,h2,h3,h4,h5=>by
  rw[below.go]
  by_cases hlt:lo<hi
  .rw[if_pos hlt];have hm:(lo+hi) / 2<xs.size:=by lia
   have e:xs.getD ((lo+hi) / 2) j=xs.getD ((lo+hi) / 2) 0:=by simp[Array.getD,hm]
   k_in;rw[e]
   by_cases hj:xs.getD ((lo+hi) / 2) 0<j
   .rw[if_pos hj];refine z6m xs j hr fuel _ hi h1 (by lia) (by lia) (λi hi' =>?_) h5
    rcases vD i ((lo+hi) / 2) with z | z
    .have:=hr i _ z hm;lia
    .have:i=(lo+hi) / 2:=by lia
     subst this;exact hj
   .rw[if_neg hj];refine z6m xs j hr fuel lo _ (by lia) (by lia) (by lia) h4 (λi hi' hi2 =>?_)
    rcases vD ((lo+hi) / 2) i with z | z
    .have:=hr _ i z hi2;lia
    .have:i=(lo+hi) / 2:=by lia
     subst this;lia
  .rw[if_neg hlt];have:lo=hi:=by lia
   subst this;exact⟨h1,h4,h5⟩
abbrev Rise (xs:Array Nat):Prop:=∀a b,a<b->b<xs.size->xs.getD a 0<xs.getD b 0
def z3U {xs:Array Nat}(hr:Rise xs)(j:Nat):below xs j<=xs.size/\(∀i,i<below xs j->xs.getD i 0<j)/\(∀i,below xs j<=i->i<xs.size->j<=xs.getD i 0):=
 z6m xs j hr xs.size 0 xs.size (wx _) (by lia) (vy _) (λ_ h=>absurd h (jq _)) (λi h1 h2=>absurd h1 (by lia))
def zfp {xs:Array Nat}{i j:Nat}(h:xs[i]? = some j):i<xs.size/\xs.getD i 0=j:=by
 obtain⟨hi,e⟩:=Array.getElem?_eq_some_iff.mp h;exact⟨hi,by simp[Array.getD,hi,e]⟩
def zjW {xs:Array Nat}{i:Nat}(h:i<xs.size):xs[i]? = some (xs.getD i 0):=by simp[Array.getD,h]
def zde {xs:Array Nat}(hr:Rise xs){i j:Nat}(h:xs[i]? = some j):below xs j=i:=by
 obtain⟨h1,h2,h3⟩:=z3U hr j;obtain⟨hi,e⟩:=zfp h
 rcases jV (below xs j) i with z | z | z
 .have:=h3 _ (wx _) (by lia);have:=hr _ _ z hi;lia
 .exact z
 .have:=h2 i z;lia
def z6A {t:SetTable}(hr:Rise t.place){i j:Nat}(h:t.place[i]? = some j):t.slot j = .live i:=by
 unfold SetTable.slot;rw[zde hr h];k_in;rw[h];simp
def z8Q {t:SetTable}(hd:t.dummies = #[]){j:Nat}(h:∀i:Nat,t.place[i]? ≠ some j):t.slot j = .empty:=by
 unfold SetTable.slot;have h1:(t.place[below t.place j]? == some j)=false:=by
  have:=h (below t.place j);o_rec
 have h2:has t.dummies j=false:=by rw[hd];unfold has;simp
 simp only[h1,h2]
 rfl
def adv (mask:Nat)(p:Probe):Probe:=
 if p.more > 0 then { p with j:=p.j+1,more:=p.more - 1 } else
 { p with j:=(leap mask p.i p.perturb).1,more:=runEnd mask (leap mask p.i p.perturb).1 - (leap mask p.i p.perturb).1,i:=(leap mask p.i p.perturb).1,perturb:=(leap mask p.i p.perturb).2 }
def advs (mask:Nat)(p:Probe):Nat->Probe
 | 0=>p
 | n+1=>adv mask (advs mask p n)
theorem z2k (mask:Nat)(p:Probe)(m:Nat):∀n,advs mask p (m+n)=advs mask (advs mask p m) n
 | 0=>rfl
 | n+1=>congrArg (adv mask) (z2k mask p m n)
def z3C (mask:Nat)(p:Probe)(n:Nat):advs mask p (n+1)=advs mask (adv mask p) n:=by
 rw[We,z2k]
 rfl
def z7q (mask:Nat)(p:Probe):(adv mask p).dummy=p.dummy:=by
 unfold adv;split <;> rfl
theorem z5x (mask:Nat)(p:Probe):∀n,(advs mask p n).dummy=p.dummy
 | 0=>rfl
 | n+1=>by rw[advs,z7q,z5x mask p n]
theorem z6n (mask:Nat):∀(p:Probe) (n:Nat),n<=p.more->advs mask p n={ p with j:=p.j+n,more:=p.more - n }
 | p,0,_=>rfl
 | p,n+1,h=>by
  rw[advs,z6n mask p n (by lia)];unfold adv;rw[if_pos (by show p.more - n > 0;lia)];show ({ p with j:=p.j+n+1,more:=p.more - n - 1 }:Probe)=_
  congr 1
def z5G (mask i:Nat):runEnd mask i - i<=9:=by unfold runEnd;split <;> lia
def lp (mask:Nat)(i q:Nat):Nat->Nat × Nat
 | 0=>(i,q)
 | c+1=>leap mask (lp mask i q c).1 (lp mask i q c).2
theorem zaH (mask:Nat)(i q:Nat):∀c,lp mask i q (c+1)=lp mask (leap mask i q).1 (leap mask i q).2 c
 | 0=>rfl
 | c+1=>by
  show leap mask (lp mask i q (c+1)).1 (lp mask i q (c+1)).2=_;rw[zaH mask i q c]
  rfl
def z2Y (mask:Nat)(p:Probe):advs mask p (p.more+1)={ p with j:=(leap mask p.i p.perturb).1,more:=runEnd mask (leap mask p.i p.perturb).1 - (leap mask p.i p.perturb).1,i:=(leap mask p.i p.perturb).1,perturb:=(leap mask p.i p.perturb).2 }:=by
 rw[advs,z6n mask p p.more (wx _)];unfold adv;rw[if_neg (by show ¬ p.more - p.more > 0;lia)]
theorem runs (mask:Nat):∀(c:Nat) (p:Probe),p.more<=9->∃s,s<=10*(c+1)/\(advs mask p s).j=(lp mask p.i p.perturb (c+1)).1/\(advs mask p s).i=(lp mask p.i p.perturb (c+1)).1/\(advs mask p s).perturb=(lp mask p.i p.perturb (c+1)).2/\(advs mask p s).more<=9
 | 0,p,h=>⟨p.more+1,by lia,by rw[z2Y];rfl,by rw[z2Y];rfl,by rw[z2Y];rfl,by rw[z2Y];exact z5G _ _⟩
 | c+1,p,h=>by
  obtain⟨s,h1,h2,h3,h4,h5⟩:=runs mask c p h;refine⟨s+((advs mask p s).more+1),by lia,?_⟩;rw[z2k,z2Y];refine⟨?_,?_,?_,z5G _ _⟩
  .show (leap mask (advs mask p s).i (advs mask p s).perturb).1=_;rw[h3,h4];rfl
  .show (leap mask (advs mask p s).i (advs mask p s).perturb).1=_;rw[h3,h4];rfl
  .show (leap mask (advs mask p s).i (advs mask p s).perturb).2=_;rw[h3,h4];rfl
theorem z3Q (mask i q:Nat):∀c,(lp mask i q c).2=q / 32 ^ c
 | 0=>by simp[lp]
 | c+1=>by
  show (lp mask i q c).2 / 32=_;rw[z3Q mask i q c,Nat.div_div_eq_div_mul,Wd]
theorem zdN {mask i q:Nat}(hq:q=0):∀c:Nat,(lp mask i q c).1 % (mask+1)=Lcg.orb i c % (mask+1)
 | 0=>rfl
 | c+1=>by
  show ((lp mask i q c).1*5+1+(lp mask i q c).2 / 32) % (mask+1) % _=(_*5+1) % _;rw[z3Q,hq,Nat.zero_div,Nat.zero_div,Nat.add_zero,Nat.mod_mod,Nat.add_mod,Nat.mul_mod, <- hq,zdN hq c, <- Nat.mul_mod, <- Nat.add_mod]
theorem zdO (mask i q m:Nat):∀n,lp mask i q (m+n)=lp mask (lp mask i q m).1 (lp mask i q m).2 n
 | 0=>rfl
 | n+1=>by
  show leap mask (lp mask i q (m+n)).1 (lp mask i q (m+n)).2=_;rw[zdO mask i q m n]
  rfl
def zdt {k mask i q e:Nat}(hm:mask+1=2 ^ k)(hq:q<2 ^ 64)(he:e<=mask):∃c,c<=13+mask/\13<=c/\(lp mask i q c).1=e:=by
 have hq13:(lp mask i q 13).2=0:=by
  rw[z3Q];exact Nat.div_eq_of_lt (wT hq (by decide))
 obtain⟨d,hd,e1⟩:=Lcg.zas (lp mask i q 13).1 e k;refine⟨13+d,by lia,by lia,?_⟩;have g := @zdN mask (lp mask i q 13).1 _ hq13 d;rw[hm,e1, <- hm, <- zdO,We,wQ (a:=e) (by lia)] at g;rw[We, <- g];exact(wQ (ut _ (by lia))).symm
def z9F {k mask e:Nat}(hm:mask+1=2 ^ k)(hq:p.perturb<2 ^ 64)(hp:p.more<=9)(he:e<=mask):∃s,s<10*turns mask/\(advs mask p s).j=e:=by
 obtain⟨c,h1,h2,h3⟩:=zdt (i:=p.i) (q:=p.perturb) hm hq he;obtain⟨c',rfl⟩:∃c',c=c'+1:=⟨c - 1,by lia⟩
 obtain⟨s,g1,g2,_⟩:=runs mask c' p hp;exact⟨s,by unfold turns;lia,g2.trans h3⟩
def zim {mask:Nat}(hq:p.perturb<2 ^ 64)(hp:p.more<=9):(adv mask p).perturb<2 ^ 64/\(adv mask p).more<=9:=by
 unfold adv
 split
 .exact⟨hq,by show p.more - 1<=9;lia⟩
 .exact⟨uM (Nat.div_le_self _ _) hq,z5G _ _⟩
theorem z7W {mask:Nat}(hq:p.perturb<2 ^ 64)(hp:p.more<=9):∀n,(advs mask p n).perturb<2 ^ 64/\(advs mask p n).more<=9
 | 0=>⟨hq,hp⟩
 | n+1=>zim (z7W hq hp n).1 (z7W hq hp n).2
def z3n (t:SetTable)(h:Int):(t.probeStart h).perturb<2 ^ 64/\(t.probeStart h).more<=9:=by
 refine⟨?_,z5G _ _⟩;show (h % (2 ^ 64:Int)).toNat<2 ^ 64;have h1:=jr h (show (2 ^ 64:Int)≠0 by decide);have h2:=uN h (show (0:Int)<2 ^ 64 by decide);lia
theorem z8f {t:SetTable}(hd:t.dummies = #[])(hr:Rise t.place)(hashAt:Nat->Int)(h:Int):∀(fuel:Nat) (p:Probe),(∃s,s<fuel/\∀i:Nat,t.place[i]? ≠ some (advs t.mask p s).j)->
  ∃s,(∀m,m<s->∃i:Nat,t.place[i]? = some (advs t.mask p m).j/\hashAt i≠h)/\
   (((∀i:Nat,t.place[i]? ≠ some (advs t.mask p s).j)/\probe.go t hashAt h fuel p=some (.empty (advs t.mask p s).j p.dummy))\/
    ∃i:Nat,t.place[i]? = some (advs t.mask p s).j/\hashAt i=h/\probe.go t hashAt h fuel p=some (.candidate (advs t.mask p s).j i (advs t.mask p (s+1))))
 | 0,p,⟨s,hs,_⟩=>absurd hs (jq _)
 | fuel+1,p,⟨s,hs,he⟩=>by
  by_cases hl:∃i:Nat,t.place[i]? = some p.j
  .obtain⟨i,hi⟩:=hl;have e1:probe.go t hashAt h (fuel+1) p=if hashAt i == h then some (.candidate p.j i (t.advance p)) else probe.go t hashAt h fuel (t.advance p):=by
    rw[probe.go,z6A hr hi]
   by_cases hh:hashAt i=h
   .refine⟨0,λm hm=>absurd hm (jq _),.inr ⟨i,hi,hh,?_⟩⟩;rw[e1,if_pos (by simpa using hh)]
    rfl
   .have hs0:s≠0:=λz=>by subst z;exact he i hi
    obtain⟨s',rfl⟩:∃s',s=s'+1:=⟨s - 1,by lia⟩
    rw[z3C] at he;obtain⟨r,h1,h2⟩:=z8f hd hr hashAt h fuel (adv t.mask p) ⟨s',by lia,he⟩;refine⟨r+1,λm hm =>?_,?_⟩
    .cases m with
     | zero=>exact⟨i,hi,hh⟩
     | succ m=>rw[z3C];exact h1 m (by lia)
    .rw[e1,if_neg (by simpa using hh),z3C,z3C, <- z7q t.mask p];exact h2
  .have hn:∀i:Nat,t.place[i]? ≠ some p.j:=λi z=>hl ⟨i,z⟩;refine⟨0,λm hm=>absurd hm (jq _),.inl ⟨hn,?_⟩⟩;rw[probe.go,z8Q hd hn]
   rfl
theorem z2y:∀{l l':List Nat},l.Nodup->(∀x∈l,x∈l')->l.length<=l'.length
 | [],_,_,_=>vy _
 | a::l,l',h,hs=>by
  obtain⟨h1,h2⟩:=vY.mp h;have ha:=hs a (by simp);have:=z2y (l:=l) (l':=l'.erase a) h2 λx hx=>(List.mem_erase_of_ne (λ(z:x=a)=>h1 (z ▸ hx))).mpr (hs x (by simp[hx]));rw[List.length_erase_of_mem ha] at this;have hp:0<l'.length:=jG ha;simp only[w5];lia
theorem z3q:∀{l l':List Nat},l.Nodup->l'.Nodup->(∀x,x∈l↔x∈l')->l.Perm l'
 | [],l',_,_,h=>by
  cases l' with
  | nil=>exact jY _
  | cons b l'=>exact absurd ((h b).mpr (by simp)) (by simp)
 | a::l,l',h1,h2,h=>by
  obtain⟨n1,n2⟩:=vY.mp h1;have ha:a∈l':=(h a).mp (by simp);have p:=z3q (l:=l) (l':=l'.erase a) n2 (h2.erase a) λx=>by
   w_up
   .intro hx;exact(List.mem_erase_of_ne (λ(z:x=a)=>n1 (z ▸ hx))).mpr ((h x).mp (by simp[hx]))
   .intro hx;have hne:x≠a:=λz=>by
     subst z;exact(List.Nodup.not_mem_erase h2) hx
    rcases ww.mp ((h x).mpr (List.mem_of_mem_erase hx)) with z | z
    .exact absurd z hne
    .exact z
  exact(List.Perm.cons a p).trans (List.perm_cons_erase ha).symm
variable {α:Type}
abbrev Rw (α:Type):=Nat × Int × α
def z9l (mask:Nat)(occ:Nat->Prop)(h:Int)(j:Nat):Prop:=∃n,(advs mask (probeStart { mask:=mask,place := #[],dummies := #[],finger:=0,led:=true,moves:=0,plain:=true } h) n).j=j/\∀m,m<n->occ (advs mask (probeStart { mask:=mask,place := #[],dummies := #[],finger:=0,led:=true,moves:=0,plain:=true } h) m).j
abbrev st0 (mask:Nat)(h:Int):Probe:=probeStart { mask:=mask,place := #[],dummies := #[],finger:=0,led:=true,moves:=0,plain:=true } h
def z9l.mono {mask:Nat}{occ occ':Nat->Prop}{h:Int}{j:Nat}(x:z9l mask occ h j)(i:∀a,occ a->occ' a):z9l mask occ' h j:=by
 obtain⟨n,h1,h2⟩:=x;exact⟨n,h1,λm hm=>i _ (h2 m hm)⟩
structure TabW (t:SetTable)(es:Array (Int × α))(L:List (Rw α)):Prop where
 place:t.place=(L.map (·.1)).toArray
 es:es=(L.map (·.2)).toArray
 rise:L.Pairwise λa b=>a.1<b.1
 le:∀r∈L,r.1<=t.mask
 dum:t.dummies = #[]
 pow:∃k,3<=k/\t.mask+1=2 ^ k
 reach:∀r∈L,z9l t.mask (λj=>∃r'∈L,r'.1=j) r.2.1 r.1
def TabW.occ {t:SetTable}{es:Array (Int × α)}{L:List (Rw α)}(w:TabW t es L){j:Nat}:(∃i:Nat,t.place[i]? = some j)↔∃r∈L,r.1=j:=by
 rw[w.place]
 w_up
 .rintro⟨i,h⟩;have h':(L.map (·.1))[i]? = some j:=by simpa using h
  obtain⟨r,hr,e⟩:=wv.mp (wy h');exact⟨r,hr,e⟩
 .rintro⟨r,hr,rfl⟩;obtain⟨i,hi,e⟩:=vw.mp hr;exact⟨i,by simp[hi,e]⟩
def TabW.riseP {t:SetTable}{es:Array (Int × α)}{L:List (Rw α)}(w:TabW t es L):Rise t.place:=by
 rw[w.place];intro a b hab hb;have hb':b<L.length:=by simpa using hb
 have:=ui.mp w.rise a b (by lia) hb' hab;simpa[Array.getD,show a<L.length by lia,hb'] using this
theorem TabW.size {t:SetTable}{es:Array (Int × α)}{L:List (Rw α)}(w:TabW t es L):t.place.size=L.length/\es.size=L.length/\t.fill=L.length:=by
 refine⟨by rw[w.place];simp,by rw[w.es];simp,?_⟩;unfold fill;rw[w.place,w.dum];simp
def TabW.nodup {t:SetTable}{es:Array (Int × α)}{L:List (Rw α)}(w:TabW t es L):(L.map (·.1)).Nodup:=by
 rw[List.nodup_iff_pairwise_ne,vp];exact w.rise.imp λh=>wV h
def TabW.room {t:SetTable}{es:Array (Int × α)}{L:List (Rw α)}(w:TabW t es L)(h:L.length<=t.mask):∃e,e<=t.mask/\¬ ∃r∈L,r.1=e:=by
 refine vm λhno =>?_;have all:∀e,e<=t.mask->∃r∈L,r.1=e:=λe he=>vm λz=>hno ⟨e,he,z⟩;have:=z2y (l:=List.range (t.mask+1)) (l':=L.map (·.1)) List.nodup_range λx hx=>by
  obtain⟨r,hr,e⟩:=all x (by have:=vI.mp hx;lia);exact wv.mpr ⟨r,hr,e⟩
 simp at this;lia
theorem TabW.probe {t:SetTable}{es:Array (Int × α)}{L:List (Rw α)}(w:TabW t es L)(hroom:L.length<=t.mask)(hashAt:Nat->Int)(h:Int)(n:Nat):
  ∃s,(∀m,n<=m->m<n+s->∃i:Nat,t.place[i]? = some (advs t.mask (st0 t.mask h) m).j/\hashAt i≠h)/\
   (((∀i:Nat,t.place[i]? ≠ some (advs t.mask (st0 t.mask h) (n+s)).j)/\t.probe hashAt h (advs t.mask (st0 t.mask h) n)=some (.empty (advs t.mask (st0 t.mask h) (n+s)).j none))\/
    ∃i:Nat,t.place[i]? = some (advs t.mask (st0 t.mask h) (n+s)).j/\hashAt i=h/\t.probe hashAt h (advs t.mask (st0 t.mask h) n)=some (.candidate (advs t.mask (st0 t.mask h) (n+s)).j i (advs t.mask (st0 t.mask h) (n+s+1)))):=by
 obtain⟨e,he,hne⟩:=w.room hroom;obtain⟨k,_,hk⟩:=w.pow;have ok:=z7W (mask:=t.mask) (z3n t h).1 (z3n t h).2 n;obtain⟨s0,hs0,e0⟩:=z9F (p:=advs t.mask (st0 t.mask h) n) hk ok.1 ok.2 he;obtain⟨s,h1,h2⟩:=z8f w.dum w.riseP hashAt h (10*turns t.mask) (advs t.mask (st0 t.mask h) n) ⟨s0,hs0,λi z=>by
  rw[e0] at z;exact hne (w.occ.mp ⟨i,z⟩)⟩
 refine⟨s,λm hm1 hm2 =>?_,?_⟩
 .obtain⟨d,rfl⟩:∃d,m=n+d:=⟨m - n,by lia⟩
  rw[z2k];exact h1 d (by lia)
 .rw[Nat.add_assoc,z2k,z2k];rw[z5x] at h2;exact h2
def TabW.soon {t:SetTable}{es:Array (Int × α)}{L:List (Rw α)}(w:TabW t es L)(hroom:L.length<=t.mask)(h:Int):∃N,N<10*turns t.mask/\¬ ∃r∈L,r.1=(advs t.mask (st0 t.mask h) N).j:=by
 obtain⟨e,he,hne⟩:=w.room hroom;obtain⟨k,_,hk⟩:=w.pow;obtain⟨s0,hs0,e0⟩:=z9F (p:=st0 t.mask h) hk (z3n t h).1 (z3n t h).2 he;exact⟨s0,hs0,by rw[e0];exact hne⟩
def ins (L:List (Rw α))(p:Nat)(r:Rw α):List (Rw α):=L.take p++r::L.drop p
def z66 {L:List (Rw α)}{p:Nat}{r x:Rw α}:x∈ins L p r↔x=r\/x∈L:=by
 unfold ins;rw[wG,ww]
 w_up
 .rintro(h | h | h)
  .exact .inr (List.mem_of_mem_take h)
  .exact .inl h
  .exact .inr (List.mem_of_mem_drop h)
 .rintro(h | h)
  .exact .inr (.inl h)
  .rw[<- jM p L,wG] at h
   rcases h with h | h
   .exact .inl h
   .exact .inr (.inr h)
def z3x {β:Type}(l:List β){p:Nat}(x:β):insertAt l.toArray p x=(l.take p++x::l.drop p).toArray:=by
 unfold insertAt;apply Array.ext';simp;exact List.take_of_length_le (by simp)
theorem TabW.put {t:SetTable}{es:Array (Int × α)}{L:List (Rw α)}(w:TabW t es L){h:Int}{x:α}{n:Nat}(hocc:∀m,m<n->∃r∈L,r.1=(advs t.mask (st0 t.mask h) m).j)(hemp:¬ ∃r∈L,r.1=(advs t.mask (st0 t.mask h) n).j)(hle:(advs t.mask (st0 t.mask h) n).j<=t.mask):
  TabW (t.put (advs t.mask (st0 t.mask h) n).j).1 (insertAt es (t.put (advs t.mask (st0 t.mask h) n).j).2 (h,x)) (ins L (t.put (advs t.mask (st0 t.mask h) n).j).2 ((advs t.mask (st0 t.mask h) n).j,h,x)):=by
 generalize hj:(advs t.mask (st0 t.mask h) n).j=j at*;obtain⟨b1,b2,b3⟩:=z3U w.riseP j;have hp:(t.put j).2=below t.place j:=rfl;rw[hp];generalize hq:below t.place j=p at*;have hpl:p<=L.length:=by rw[<- w.size.1];exact b1
 have at':∀i (hi:i<L.length),t.place.getD i 0=(L[i]).1:=λi hi=>by rw[w.place];simp[Array.getD,hi]
 have lo:∀r∈L.take p,r.1<j:=λr hr=>by
  obtain⟨i,hi,rfl⟩:=vw.mp hr;have hi':i<p/\i<L.length:=by simp at hi;lia
  have:=b2 i hi'.1;rw[at' i hi'.2] at this;o_rec
 have hi:∀r∈L.drop p,j<r.1:=λr hr=>by
  obtain⟨i,hi,rfl⟩:=vw.mp hr;have hi':p+i<L.length:=by simp at hi;lia
  have h1:=b3 (p+i) (by lia) (by rw[w.size.1];exact hi');rw[at' _ hi'] at h1;have h2:(L[p+i]).1≠j:=λz=>hemp ⟨L[p+i],ua hi',z⟩;simp only[List.getElem_drop];lia
 have hdum:(t.put j).1.dummies = #[]:=by
  show (if has t.dummies j then eraseAt t.dummies (below t.dummies j) else t.dummies) = #[];rw[w.dum];simp[has]
 refine⟨?_,?_,?_,λr hr =>?_,hdum,w.pow,λr hr =>?_⟩
 .show insertAt t.place (below t.place j) j=_;rw[hq,w.place,z3x];unfold ins;rw[wY,ve,List.map_take,List.map_drop]
 .rw[w.es,z3x];unfold ins;rw[wY,ve,List.map_take,List.map_drop]
 .unfold ins;rw[v3];have pw:=w.rise;rw[<- jM p L,v3] at pw;refine⟨pw.1,vh.mpr ⟨λr hr=>hi r hr,pw.2.1⟩,λa ha b hb =>?_⟩
  rcases ww.mp hb with rfl | hb
  .exact lo a ha
  .exact pw.2.2 a ha b hb
 .show r.1<=t.mask
  rcases z66.mp hr with rfl | hr
  .exact hle
  .exact w.le r hr
 .show z9l t.mask _ r.2.1 r.1
  rcases z66.mp hr with rfl | hr
  .exact⟨n,hj,λm hm=>by
    obtain⟨r',hr',e⟩:=hocc m hm;exact⟨r',z66.mpr (.inr hr'),e⟩⟩
  .exact(w.reach r hr).mono λa ⟨r',hr',e⟩=>⟨r',z66.mpr (.inr hr'),e⟩
theorem j_le {mask:Nat}:∀(n:Nat) {p:Probe},p.j+p.more<=mask->(advs mask p n).j+(advs mask p n).more<=mask
 | 0,_,h=>h
 | n+1,p,h=>by
  have ih:=j_le n h;show (adv mask (advs mask p n)).j+(adv mask (advs mask p n)).more<=mask;unfold adv
  split
  .show (advs mask p n).j+1+((advs mask p n).more - 1)<=mask;lia
  .have hl:(leap mask (advs mask p n).i (advs mask p n).perturb).1<=mask:=Nat.le_of_lt_succ (ut _ (Nat.succ_pos _));show (leap mask (advs mask p n).i (advs mask p n).perturb).1+(runEnd mask (leap mask (advs mask p n).i (advs mask p n).perturb).1 - (leap mask (advs mask p n).i (advs mask p n).perturb).1)<=mask;generalize (leap mask (advs mask p n).i (advs mask p n).perturb).1=x at hl;unfold runEnd
   split <;> lia
def z9D (mask:Nat)(h:Int)(n:Nat):(advs mask (st0 mask h) n).j<=mask:=by
 have:(st0 mask h).j+(st0 mask h).more<=mask:=by
  show bits h % (mask+1)+(runEnd mask (bits h % (mask+1)) - bits h % (mask+1))<=mask;have hl:bits h % (mask+1)<=mask:=Nat.le_of_lt_succ (ut _ (Nat.succ_pos _));generalize bits h % (mask+1)=x at hl;unfold runEnd
  split <;> lia
 have:=j_le n this;lia
variable {α:Type}
def rp (mask i q:Nat):Probe:={ j:=i,more:=runEnd mask i - i,i:=i,perturb:=q,dummy:=none }
def zfU (mask:Nat)(h:Int):st0 mask h=rp mask (bits h % (mask+1)) (bits h):=rfl
def z9Z (mask i q:Nat):advs mask (rp mask i q) (runEnd mask i - i+1)=rp mask (leap mask i q).1 (leap mask i q).2:=z2Y mask (rp mask i q)
def zbX (mask i q:Nat)(h:m<=runEnd mask i - i):(advs mask (rp mask i q) m).j=i+m:=by rw[z6n mask (rp mask i q) m h];rfl
def zg6 (mask i:Nat):i<=runEnd mask i:=by unfold runEnd;split <;> lia
theorem z78 {mask:Nat}:∀(fuel i q:Nat),(∃c,c<fuel/\(owner.getD (lp mask i q c).1 (some 0)).isNone=true)->
  ∃s,layClean.free mask owner fuel i q=some (advs mask (rp mask i q) s).j/\(owner.getD (advs mask (rp mask i q) s).j (some 0)).isNone=true/\∀m,m<s->(owner.getD (advs mask (rp mask i q) m).j (some 0)).isNone=false
 | 0,i,q,⟨c,hc,_⟩=>absurd hc (jq _)
 | fuel+1,i,q,⟨c,hc,he⟩=>by
  rw[layClean.free];have hge:=zg6 mask i
  cases hf:(List.range (runEnd mask i+1 - i)).find? λk=>(owner.getD (i+k) (some 0)).isNone with
  | some k=>
   obtain⟨h1,h2,h3⟩:=List.find?_range_eq_some.mp hf;have hk:k<runEnd mask i+1 - i:=by simpa using h2
   k_in;refine⟨k,by rw[zbX mask i q (by lia)],by rw[zbX mask i q (by lia)];exact h1,λm hm =>?_⟩;rw[zbX mask i q (by lia)];have:=h3 m hm;o_rec
  | none=>
   have hn:=List.find?_range_eq_none.mp hf;have all:∀k,k<=runEnd mask i - i->(owner.getD (i+k) (some 0)).isNone=false:=λk hk=>by
    have:=hn k (by lia);o_rec
   have hc0:c≠0:=λz=>by
    subst z;have:=all 0 (vy _);rw[Nat.add_zero] at this;have he':(owner.getD i (some 0)).isNone=true:=he;rw[this] at he'
    cases he'
   obtain⟨c',rfl⟩:∃c',c=c'+1:=⟨c - 1,by lia⟩
   rw[zaH] at he;obtain⟨s,h1,h2,h3⟩:=z78 fuel _ _ ⟨c',by lia,he⟩;rw[<- z9Z, <- z2k] at h1 h2;k_in;refine⟨runEnd mask i - i+1+s,h1,h2,λm hm =>?_⟩
   rcases vD m (runEnd mask i - i+1) with z | z
   .rw[zbX mask i q (by lia)];exact all m (by lia)
   .obtain⟨d,rfl⟩:∃d,m=runEnd mask i - i+1+d:=⟨m - (runEnd mask i - i+1),by lia⟩
    rw[z2k,z9Z];exact h3 d (by lia)
structure Own (mask:Nat)(hs:List Int)(owner:Array (Option Nat))(pos:List Nat):Prop where
 size:owner.size=mask+1
 len:pos.length=hs.length
 le:∀j∈pos,j<=mask
 nd:pos.Nodup
 own:∀j,j<=mask->∀k,owner.getD j (some 0)=some k↔pos[k]? = some j
 reach:∀(k:Nat) (h:Int) (j:Nat),hs[k]? = some h->pos[k]? = some j->z9l mask (· ∈ pos) h j
def Own.free {mask:Nat}{hs:List Int}{owner:Array (Option Nat)}{pos:List Nat}(o:Own mask hs owner pos){j:Nat}(hj:j<=mask):(owner.getD j (some 0)).isNone=true↔j ∉ pos:=by
 w_up
 .intro h z;obtain⟨k,hk,e⟩:=vw.mp z;have:=(o.own j hj k).mpr (by rw[wp hk,e]);rw[this] at h
  cases h
 .intro h
  cases e:owner.getD j (some 0) with
  | none=>rfl
  | some k=>exact absurd (wy ((o.own j hj k).mp e)) h
def Own.add {mask k:Nat}(o:Own mask hs owner pos)(hm:mask+1=2 ^ k)(hroom:hs.length<=mask)(h:Int):
  ∃j,layClean.free mask owner (turns mask) (bits h % (mask+1)) (bits h)=some j/\Own mask (hs++[h]) (owner.setIfInBounds j (some hs.length)) (pos++[j]):=by
 have hex:∃e,e<=mask/\e ∉ pos:=by
  refine vm λhno =>?_;have:=z2y (l:=List.range (mask+1)) (l':=pos) List.nodup_range λx hx=>vm λz=>hno ⟨x,by have:=vI.mp hx;lia,z⟩;rw[jT,o.len] at this;lia
 obtain⟨e,he,hne⟩:=hex;have hq:bits h<2 ^ 64:=(z3n { mask:=mask,place := #[],dummies := #[],finger:=0,led:=true,moves:=0,plain:=true } h).1;obtain⟨c,c1,c2,c3⟩:=zdt (i:=bits h % (mask+1)) (q:=bits h) hm hq he;obtain⟨s,h1,h2,h3⟩:=z78 (mask:=mask) (owner:=owner) (turns mask) (bits h % (mask+1)) (bits h) ⟨c,by unfold turns;lia,by rw[c3];exact(o.free he).mpr hne⟩;rw[<- zfU] at h1 h2 h3;have hjl:=z9D mask h s;refine⟨_,h1,?_⟩;generalize hj:(advs mask (st0 mask h) s).j=j at*;have hjn:j ∉ pos:=(o.free hjl).mp h2;refine⟨by rw[Array.size_setIfInBounds];exact o.size,by rw[wL,wL,o.len];rfl,λx hx =>?_,?_,λx hx n =>?_,λn h' j' e1 e2 =>?_⟩
 .rcases wG.mp hx with z | z
  .exact o.le x z
  .rw[wq.mp z];exact hjl
 .rw[List.nodup_append];exact⟨o.nd,by simp,λa ha b hb z=>hjn (by rw[wq.mp hb] at z;exact z ▸ ha)⟩
 .have hxs:x<owner.size:=by rw[o.size];lia
  have e0:(owner.setIfInBounds j (some hs.length)).getD x (some 0)=if j=x then some hs.length else owner.getD x (some 0):=by
   have hjs:j<owner.size:=by rw[o.size];lia
   rw[Array.getD_eq_getD_getElem?, Array.getD_eq_getD_getElem?, Array.getElem?_setIfInBounds]
   by_cases hxj:j=x
   .subst hxj;rw[if_pos rfl,if_pos hjs,if_pos rfl];rfl
   .rw[if_neg hxj,if_neg hxj]
  rw[e0]
  by_cases hxj:j=x
  .subst hxj;rw[if_pos rfl]
   w_up
   .intro z;have:hs.length=n:=vk z;rw[<- this, <- o.len,w9 (wx _)];simp
   .intro z
    rcases vD n pos.length with hl | hl
    .rw[wN hl] at z;exact absurd (wy z) hjn
    .rw[w9 hl] at z;have hn0:n - pos.length=0:=by
      rcases Nat.eq_zero_or_pos (n - pos.length) with w | w
      .exact w
      .rw[jd (by show 1<=_;lia)] at z;cases z
     rw[<- o.len]
     congr 1
     lia
  .rw[if_neg hxj,o.own x hx n]
   w_up
   .intro z;obtain⟨hn,_⟩:=wu.mp z;rw[wN hn];exact z
   .intro z
    rcases vD n pos.length with hl | hl
    .rw[wN hl] at z;exact z
    .rw[w9 hl] at z;exact absurd (wq.mp (wy z)).symm hxj
 .rcases vD n pos.length with hl | hl
  .rw[wN hl] at e2;rw[wN (by rw[<- o.len];exact hl)] at e1;exact(o.reach n h' j' e1 e2).mono λa ha=>wR _ ha
  .rw[w9 hl] at e2;rw[w9 (by rw[<- o.len];exact hl)] at e1;have z1:=wq.mp (wy e1);have z2:=wq.mp (wy e2);subst z1 z2;refine⟨s,hj,λm hm=>wR _ ?_⟩;have:=h3 m hm;refine vm λz =>?_;rw[(o.free (z9D mask h' m)).mpr z] at this
   cases this
theorem z4u {mask k:Nat}(hm:mask+1=2 ^ k):∀(hs done:List Int) (owner:Array (Option Nat)) (pos:List Nat),Own mask done owner pos->done.length+hs.length<=mask+1->
  ∃owner' pos',(hs.foldl (init:=some (owner,done.length)) λacc h=>do
   let (owner,k) <- acc
   let j <- layClean.free mask owner (turns mask) (bits h % (mask+1)) (bits h)
   pure (owner.setIfInBounds j (some k),k+1))=some (owner',done.length+hs.length)/\Own mask (done++hs) owner' pos'
 | [],done,owner,pos,o,_=>⟨owner,pos,rfl,by rw[v6];exact o⟩
 | h::hs,done,owner,pos,o,hl=>by
  simp only[w5] at hl;obtain⟨j,e,o'⟩:=o.add hm (by lia) h;obtain⟨ow,ps,e2,o2⟩:=z4u hm hs (done++[h]) _ _ o' (by simp;lia);refine⟨ow,ps,?_,by simpa using o2⟩;rw[List.foldl_cons];have:(do
   let (owner,k) <- some (owner,done.length)
   let j <- layClean.free mask owner (turns mask) (bits h % (mask+1)) (bits h)
   pure (owner.setIfInBounds j (some k),k+1))=some (owner.setIfInBounds j (some done.length),(done++[h]).length):=by
   simp[e]
  rw[this,e2];simp;lia
def own0 (mask:Nat):Own mask [] (Array.replicate (mask+1) none) []:=by
 refine⟨by simp,rfl,by simp,by simp,λj hj k =>?_,λk h j e _=>by simp at e⟩;have:(Array.replicate (mask+1) (none:Option Nat)).getD j (some 0)=none:=by simp[Array.getD,show j<mask+1 by lia]
 rw[this];simp
def zff {mask k finger moves:Nat}{led plain:Bool}(hm:mask+1=2 ^ k)(hk:3<=k){es:Array (Int × α)}(hl:es.size<=mask+1):
  ∃t' order L',laid mask finger moves led plain (es.map (·.1))=some (t',order)/\t'.mask=mask/\t'.finger=finger/\t'.moves=moves/\t'.led=led/\t'.plain=plain/\(order.filterMap (es[·]?)).size=es.size/\TabW t' (order.filterMap (es[·]?)) L'/\(order.filterMap (es[·]?)).toList.Perm es.toList:=by
 obtain⟨owner,pos,e,o⟩:=z4u hm (es.map (·.1)).toList [] _ _ (own0 mask) (by simpa using hl);simp only[List.nil_append,v7,je] at e o;have hlay:layClean mask (es.map (·.1))=some owner:=by
  unfold layClean;rw[<- Array.foldl_toList,e]
  rfl
 have hn:(es.map (·.1)).toList.length=es.size:=by simp
 have hpl:pos.length=es.size:=by rw[o.len,hn]
 generalize hlive:((List.range (mask+1)).filterMap λj=>(owner.getD j none).map (j, ·))=live;have gd:∀j,j<=mask->owner.getD j none=owner.getD j (some 0):=λj hj=>by
  have:j<owner.size:=by rw[o.size];lia
  simp[Array.getD,this]
 have mem:∀j n,(j,n)∈live↔pos[n]? = some j:=λj n=>by
  rw[<- hlive,uK]
  w_up
  .rintro⟨x,hx,e⟩;have hx':x<=mask:=by have:=vI.mp hx;lia
   rw[gd x hx'] at e;obtain⟨y,hy,e2⟩:=vL.mp e
   cases e2
   exact(o.own j hx' n).mp hy
  .intro h;have hj:j<=mask:=o.le j (wy h);refine⟨j,vI.mpr (by lia),?_⟩;rw[gd j hj,(o.own j hj n).mpr h]
   rfl
 have sorted:live.Pairwise λa b=>a.1<b.1:=by
  rw[<- hlive];have h1:(List.range (mask+1)).Pairwise (· < ·):=List.pairwise_lt_range;generalize List.range (mask+1)=rg at h1
  induction rg with
  | nil=>simp
  | cons x rg ih=>
   obtain⟨p1,p2⟩:=vh.mp h1;rw[uk]
   cases hx:(owner.getD x none).map (x, ·) with
   | none=>exact ih p2
   | some y=>
    obtain⟨z,_,rfl⟩:=vL.mp hx;refine vh.mpr ⟨λb hb =>?_,ih p2⟩;obtain⟨x',hx',e'⟩:=uK.mp hb;obtain⟨z',_,rfl⟩:=vL.mp e';exact p1 x' hx'
 have nd2:(live.map (·.2)).Nodup:=by
  rw[List.nodup_iff_pairwise_ne,vp];refine List.Pairwise.imp_of_mem ?_ sorted;intro a b ha hb hab z;have h1:=(mem a.1 a.2).mp ha;have h2:=(mem b.1 b.2).mp hb;rw[<- z,h1] at h2;have:a.1=b.1:=vk h2;lia
 have perm:(live.map (·.2)).Perm (List.range es.size):=by
  refine z3q nd2 List.nodup_range λn =>?_;rw[vI]
  w_up
  .intro h;obtain⟨a,ha,rfl⟩:=wv.mp h;obtain⟨hlt,_⟩:=wu.mp ((mem a.1 a.2).mp ha);lia
  .intro h;refine wv.mpr ⟨(pos[n]'(by lia),n),(mem _ _).mpr (wp (by lia)),rfl⟩
 have self:(List.range es.size).filterMap (es[·]?)=es.toList:=by
  have:∀(l:List (Int × α)),(List.range l.length).filterMap (l[·]?)=l:=λl=>by
   have e1:(List.range l.length).map (l[·]?)=l.map some:=by
    apply List.ext_getElem
    .simp
    .intro i h1 h2;simp at h1;simp[h1]
   have e2:(List.range l.length).filterMap (l[·]?)=((List.range l.length).map (l[·]?)).filterMap id:=by rw[List.filterMap_map];rfl
   rw[e2,e1,List.filterMap_map];simp
  have h:=this es.toList;simpa using h
 have pe:(((live.map (·.2)).toArray).filterMap (es[·]?)).toList.Perm es.toList:=by
  have:=perm.filterMap (es[·]?);rw[self] at this;o_rec
 refine⟨{ mask,place:=(live.map (·.1)).toArray,dummies := #[],finger,led,moves,plain },(live.map (·.2)).toArray,live.filterMap λa=>(es[a.2]?).map λx=>(a.1,x),?_,rfl,rfl,rfl,rfl,rfl,?_,?_,pe⟩
 .unfold laid;rw[hlay];simp only[Option.bind_eq_bind,Option.bind_some];rw[hlive]
  rfl
 .have:=pe.length_eq;o_rec
 ·-- each live row has an element
  have has:∀a∈live,∃x,es[a.2]? = some x:=λa ha=>by
   obtain⟨hlt,_⟩:=wu.mp ((mem a.1 a.2).mp ha);exact⟨es[a.2]'(by lia),Array.getElem?_eq_getElem (by lia)⟩
  have e1:∀(l:List (Nat × Nat)),(∀a∈l,∃x,es[a.2]? = some x)->(l.filterMap λa=>(es[a.2]?).map λx=>(a.1,x)).map (·.1)=l.map (·.1)/\(l.filterMap λa=>(es[a.2]?).map λx=>(a.1,x)).map (·.2)=(l.map (·.2)).filterMap (es[·]?):=λl=>by
   induction l with
   | nil=>intro _;exact⟨rfl,rfl⟩
   | cons a l ih=>
    intro h;obtain⟨x,hx⟩:=h a (by simp);obtain⟨i1,i2⟩:=ih λb hb=>h b (by simp[hb]);refine⟨?_,?_⟩
    .rw[uk,hx];simp only[Option.map_some,ve];rw[i1]
    .rw[uk,hx];simp only[Option.map_some,ve,uk,hx];rw[i2]
  have memL:∀r:Rw α,r∈(live.filterMap λa=>(es[a.2]?).map λx=>(a.1,x))->∃n,pos[n]? = some r.1/\es[n]? = some r.2:=λr hr=>by
   obtain⟨a,ha,e⟩:=uK.mp hr;obtain⟨x,hx,rfl⟩:=vL.mp e;exact⟨a.2,(mem a.1 a.2).mp ha,hx⟩
  have occ:∀j,j∈pos->∃r'∈(live.filterMap λa=>(es[a.2]?).map λx=>(a.1,x)),r'.1=j:=λj hj=>by
   obtain⟨n,hn',e⟩:=vw.mp hj;have hlv:(j,n)∈live:=(mem j n).mpr (by rw[wp hn',e]);obtain⟨x,hx⟩:=has _ hlv;exact⟨(j,x),uK.mpr ⟨(j,n),hlv,by rw[show es[(j,n).2]? = some x from hx];rfl⟩,rfl⟩
  refine⟨by rw[(e1 live has).1],?_,?_,λr hr =>?_,rfl,⟨k,hk,hm⟩,λr hr =>?_⟩
  .rw[(e1 live has).2];apply Array.ext';simp
  .have:((live.filterMap λa=>(es[a.2]?).map λx=>(a.1,x)).map (·.1)).Pairwise (· < ·):=by
    rw[(e1 live has).1,vp];exact sorted
   rw[vp] at this;exact this
  .obtain⟨n,h1,_⟩:=memL r hr;exact o.le r.1 (wy h1)
  .obtain⟨n,h1,h2⟩:=memL r hr;exact(o.reach n r.2.1 r.1 (by simp[h2]) h1).mono λa ha=>occ a ha
open PyProof.Rows
section
variable {prog:Program}{w:World}{A:Around}{E:WvP}{s:Shared}
abbrev TK (prog:Program)(w:World)(h:Heap)(k:List Int)(a:Addr):Prop:=IsTupleKey (intKind prog w) h k a
def z7M {v:Value}(h:carriedByValue v=true):ofAClassStatement n v=pure false:=by
 cases v with
 | ref a=>simp[carriedByValue] at h
 | _=>first | rfl | (unfold ofAClassStatement;rfl) | (cases n <;> rfl)
def z1W (hk:TK prog w s.heap ks a)(h:Q false s):wpAny (model prog w) A (ofAClassStatement 8 (.ref a)) Q E s:=by
 have hT:=hk.typeIs;obtain⟨o,z02,n,ho,_,hd,hi⟩:=hk;unfold ofAClassStatement;refine we (Wa hT ?_);k_in;rw[if_pos (by decide)];refine we (wj ?_);simp only[jW,wZ,uv];refine we (uc ho hd ?_);refine we ?_;show wpAny _ _ (forIn z02 _ _) _ _ s;rw[<- Array.forIn_toList];refine j4 _ (λrest r s'=>r.1=none/\s'=s/\∀v∈rest,carriedByValue v=true) _ ?_ ?_ _ _ ⟨rfl,rfl,hi.byValue⟩
 .rintro v rest r s' ⟨hr,rfl,hall⟩;rw[z7M (hall v wJ)];refine we (wj ?_);simp only[wZ,uv];exact wj ⟨rfl,rfl,λu hu'=>hall u (wm _ hu')⟩
 .rintro⟨r1,r2⟩ s' ⟨hr,rfl,_⟩;simp only at hr;subst hr;exact wj h
def z9a {k:Int}{v:Value}(h:(intKind prog w).is k v=true):hashByValue n v=pure true:=by
 obtain⟨t,rfl⟩:=Value.isInt_shape h
 cases n <;> rfl
def z3j (hk:TK prog w s.heap ks a)(h:Q true s):wpAny (model prog w) A (hashByValue 8 (.ref a)) Q E s:=by
 have hT:=hk.typeIs;obtain⟨o,z02,n,ho,_,hd,hi⟩:=hk;unfold hashByValue;refine we (wpAny_specialOf hT F.slot_tuple_hash.lookup ?_);k_in;refine we (uc ho hd ?_);refine we ?_;show wpAny _ _ (forIn z02 _ _) _ _ s;rw[<- Array.forIn_toList];refine j4 _ (λrest r s'=>r.1=none/\s'=s/\∃l,ItemsAre (intKind prog w) l rest) _ ?_ ?_ _ _ ⟨rfl,rfl,ks,hi⟩
 .rintro v rest r s' ⟨hr,rfl,l,hl⟩
  cases hl with
  | cons h1 h2=>
   rw[z9a h1];refine we (wj ?_);simp only[jW,wZ,uv];exact wj ⟨rfl,rfl,_,h2⟩
 .rintro⟨r1,r2⟩ s' ⟨hr,rfl,_⟩;simp only at hr;subst hr;exact wj h
def z8J {ks:List Int}{a:Addr}{stored:List Value}{Q:Bool->Shared->Prop}(hk:TK prog w s.heap ks a)(hst:∀y∈stored,∃b k,y = .ref b/\TK prog w s.heap k b)(h:Q false s):wpAny (model prog w) A (searchCouldBeSeen (.ref a) stored) Q E s:=by
 unfold searchCouldBeSeen;refine we ?_;refine j4 _ (λrest r s'=>r.1=none/\s'=s/\∀y∈rest,∃b k,y = .ref b/\TK prog w s.heap k b) _ ?_ ?_ _ _ ⟨rfl,rfl,hst⟩
 .rintro y rest r s' ⟨hr,rfl,hall⟩;obtain⟨b,k,rfl,hb⟩:=hall y wJ;k_in
  split
  .exact wj ⟨rfl,rfl,λu hu=>hall u (wm _ hu)⟩
  .refine we (wpAny_eqIsQuiet_tuple hk ?_);simp only[jW,wZ,uv];refine we (wpAny_eqIsQuiet_tuple hb ?_);simp only[jW,wZ,uv];refine we (z1W hk ?_);simp only[wZ,uv];refine we (z1W hb ?_);simp only[wZ,uv];exact wj ⟨rfl,rfl,λu hu=>hall u (wm _ hu)⟩
 .rintro⟨r1,r2⟩ s' ⟨hr,rfl,_⟩;simp only at hr;subst hr;exact wj h
structure z7s (prog:Program)(w:World)(h:Heap)(a:Addr)(L:List (Rw Value))(o:Obj)(es:Array (Int × Value))(ep:Nat)(t:SetTable):Prop where
 get:h.get? a=some o
 ex:o.ExactSet
 data:o.data = .set es ep t
 tab:TabW t es L
 room:L.length<=t.mask
 small:t.mask<=8191
 plain:t.plain=true
 led:t.led = !w.params.followText "set-order"
 key:∀r∈L,∃b k,r.2.2 = .ref b/\TK prog w h k b/\r.2.1=tupleKeyHash (intKind prog w) k
theorem z7s.fits (x:z7s prog w h a L o es ep t):t.fits es.size=true:=by
 unfold SetTable.fits;rw[x.tab.size.1,x.tab.size.2.1,x.tab.size.2.2];simp[x.room]
def z7s.odd (x:z7s prog w h a L o es ep t):t.gaveWay=false:=by
 unfold SetTable.gaveWay;obtain⟨k,hk,e⟩:=x.tab.pow;have:2 ^ k=2*2 ^ (k - 1):=by rw[<- Nat.pow_succ'];congr 1;lia
 have h1:t.mask % 2=1:=by lia
 rw[h1]
 rfl
def zdu (w:TabW t es L){i j:Nat}(h:t.place[i]? = some j):∃r,L[i]? = some r/\r.1=j/\es[i]? = some r.2:=by
 have h':(L.map (·.1))[i]? = some j:=by rw[w.place] at h;simpa using h
 rw[wB] at h';obtain⟨r,hr,e⟩:=vL.mp h';refine⟨r,hr,e,?_⟩;rw[w.es];simp[hr]
def z6r (x:z7s prog w s.heap a L o es ep t)(hu:A.units<cLine)(hk:TK prog w s.heap kx b)
  (hN:¬ ∃r∈L,r.1=(advs t.mask (st0 t.mask (tupleKeyHash (intKind prog w) kx)) N).j)
  (hthere:(∃r∈L,∃c,r.2.2 = .ref c/\TK prog w s.heap kx c)->Q (.there none) s)
  (hfree:∀n,(∀m,m<n->∃r∈L,r.1=(advs t.mask (st0 t.mask (tupleKeyHash (intKind prog w) kx)) m).j/\∀c,r.2.2 = .ref c->¬ TK prog w s.heap kx c)->(¬ ∃r∈L,r.1=(advs t.mask (st0 t.mask (tupleKeyHash (intKind prog w) kx)) n).j)->Q (.free (advs t.mask (st0 t.mask (tupleKeyHash (intKind prog w) kx)) n).j false) s):
  ∀(fuel n:Nat) (stand:Option Probe),stand.getD (t.probeStart (tupleKeyHash (intKind prog w) kx))=advs t.mask (st0 t.mask (tupleKeyHash (intKind prog w) kx)) n->N<fuel+n->
   (∀m,m<n->∃r∈L,r.1=(advs t.mask (st0 t.mask (tupleKeyHash (intKind prog w) kx)) m).j/\∀c,r.2.2 = .ref c->¬ TK prog w s.heap kx c)->
   wpAny (model prog w) A (setSearchFrom a (.ref b) (tupleKeyHash (intKind prog w) kx) true fuel stand) Q E s:=by
 intro fuel
 induction fuel with
 | zero=>
  intro n stand hs hl hocc;obtain⟨r,hr,e,_⟩:=hocc N (by lia);exact absurd ⟨r,hr,e⟩ hN
 | succ fuel ih=>
  intro n stand hs hl hocc;generalize hh:tupleKeyHash (intKind prog w) kx=hx at*;unfold setSearchFrom;refine we (vR x.get x.data x.fits ?_);k_in;rw[x.odd];simp only[wZ,uv]
  try refine we (wj ?_)
  rw[hs];obtain⟨f,hf⟩:∃f:Nat->Int,f=λi=>(es[i]?.map (·.1)).getD 0:=⟨_,rfl⟩
  show wpAny (model prog w) A (match t.probe (λi=>(es[i]?.map (·.1)).getD 0) hx (advs t.mask (st0 t.mask hx) n) with
   | some met=>_
   | _=>_) Q E s
  rw[<- hf];have other:∀r∈L,r.2.1≠hx->∀c,r.2.2 = .ref c->¬ TK prog w s.heap kx c:=λr hr hne c e z=>by
   obtain⟨b',k,e',hk',eh⟩:=x.key r hr;rw[e'] at e
   cases e
   rw[hk'.inj z] at eh;exact hne (eh.trans hh)
  obtain⟨d,h1,h2⟩:=x.tab.probe x.room f hx n;have grown:∀m,m<n+d->∃r∈L,r.1=(advs t.mask (st0 t.mask hx) m).j/\∀c,r.2.2 = .ref c->¬ TK prog w s.heap kx c:=λm hm=>by
   rcases vD m n with z | z
   .exact hocc m z
   .obtain⟨i,hi,hne⟩:=h1 m z hm;obtain⟨r,hr,e1,e2⟩:=zdu x.tab hi;have hrL:r∈L:=wy hr;refine⟨r,hrL,e1,other r hrL ?_⟩;rw[hf] at hne;simpa[e2] using hne
  rcases h2 with ⟨hemp,e⟩ | ⟨i,hi,hhash,e⟩
  .rw[e];k_in;exact wj (hfree (n+d) grown <| by
    rintro⟨r,hr,e'⟩;obtain⟨i,hi⟩:=x.tab.occ.mpr ⟨r,hr,e'⟩;exact hemp i hi)
  .rw[e];k_in;obtain⟨r,hr,e1,e2⟩:=zdu x.tab hi;have hrL:r∈L:=wy hr;obtain⟨c,k,ec,hc,ehash⟩:=x.key r hrL;have rest:wpAny (model prog w) A (match es[i]? with
             | some (_,y)=>do
              let equal <- holding [y] (eqBool y (Value.ref b))
              let __x <- setState a
              if (true && equal)=true then pure (SetFound.there none)
               else
                match __x.2.snd.sameMemory t.moves t.mask with
                | some same=>
                 match if same=true then __x.2.snd.slot (advs t.mask (st0 t.mask hx) (n+d)).j else Slot.empty with
                 | Slot.live i'=>
                  match __x.fst[i']? with
                  | some (_,y')=>do
                   let __do_lift <- isSame y' y
                   let still <- pure (if __do_lift=true then some i' else none)
                   match still with
                    | none=>do
                     rule "set.search.anew"
                     setSearchFrom a (Value.ref b) hx true fuel none
                    | some i'=>if equal=true then pure (SetFound.there (some i')) else setSearchFrom a (Value.ref b) hx true fuel (some (advs t.mask (st0 t.mask hx) (n+d+1)))
                  | none=>do
                   let still <- pure none
                   match still with
                    | none=>do
                     rule "set.search.anew"
                     setSearchFrom a (Value.ref b) hx true fuel none
                    | some i'=>if equal=true then pure (SetFound.there (some i')) else setSearchFrom a (Value.ref b) hx true fuel (some (advs t.mask (st0 t.mask hx) (n+d+1)))
                 | _=>do
                  let still <- pure none
                  match still with
                   | none=>do
                    rule "set.search.anew"
                    setSearchFrom a (Value.ref b) hx true fuel none
                   | some i'=>if equal=true then pure (SetFound.there (some i')) else setSearchFrom a (Value.ref b) hx true fuel (some (advs t.mask (st0 t.mask hx) (n+d+1)))
                | _=>unsupported "set.changed-during-lookup:is-the-new-block-at-the-old-address"
             | _=>unsupported "internal:set-entry") Q E s:=by
    rw[e2, <- Prod.eta r.2];k_in;rw[ec];refine we (ud (wpAny_eqBool_tuple hu hc hk ?_));refine we (vR x.get x.data x.fits ?_);k_in
    by_cases hkk:k=kx
    .rw[vC hkk];simp only[Bool.and_self,jF];exact wj (hthere ⟨r,hrL,c,ec,hkk ▸ hc⟩)
    .rw[vG hkk];simp only[Bool.and_false,wZ,uv];have hsm:t.sameMemory t.moves t.mask=some true:=by unfold SetTable.sameMemory;simp
     rw[hsm];k_in;rw[if_pos rfl,z6A x.tab.riseP hi];k_in;rw[e2, <- Prod.eta r.2];k_in;rw[ec];refine we (wpAny_isSame_ref_self ?_);refine we (wj ?_);simp only[jF];refine ih (n+d+1) _ rfl (by lia) λm hm =>?_
     rcases vD m (n+d) with z | z
     .exact grown m z
     .have:m=n+d:=by lia
      subst this;exact⟨r,hrL,e1,λc' e' z=>by
       rw[ec] at e'
       cases e'
       exact hkk (hc.inj z)⟩
   by_cases hled:t.led=true
   .rw[hled];simp only[jW,wZ,uv];exact rest
   .have hled':t.led=false:=by simpa using hled
    rw[hled'];simp only[Bool.not_false,jF];refine we (z8J hk (λy hy =>?_) ?_)
    .obtain⟨p,hp,rfl⟩:=wv.mp hy;have hp':p∈es:=by
      have:=Array.mem_toList_iff.mp hp;exact(Array.mem_filter.mp this).1
     have hp2:p∈L.map (·.2):=by rw[x.tab.es] at hp';simpa using hp'
     obtain⟨r',hr',rfl⟩:=wv.mp hp2;obtain⟨b',k',e',hk',_⟩:=x.key r' hr';exact⟨b',k',e',hk'⟩
    .simp only[wZ,uv];exact rest
end
theorem z3Y (n:Nat):∀(fuel j:Nat),n<2 ^ (j+fuel)->∃k,sizeAbove.go n fuel (2 ^ j)=2 ^ k/\j<=k/\n<2 ^ k/\(k=j\/2 ^ k<=2*n)
 | 0,j,h=>⟨j,rfl,wx _,h,.inl rfl⟩
 | fuel+1,j,h=>by
  rw[sizeAbove.go]
  by_cases hl:2 ^ j<=n
  .rw[if_pos hl, <- Wd];obtain⟨k,h1,h2,h3,h4⟩:=z3Y n fuel (j+1) (by rw[show j+1+fuel=j+(fuel+1) by lia];exact h);refine⟨k,h1,by lia,h3,.inr ?_⟩
   rcases h4 with h4 | h4
   .subst h4;rw[Wd];lia
   .exact h4
  .rw[if_neg hl];exact⟨j,rfl,wx _,by lia,.inl rfl⟩
def z4M (h:n<2 ^ 60):∃k,sizeAbove n=2 ^ k/\3<=k/\n<2 ^ k/\(k=3\/2 ^ k<=2*n):=z3Y n 64 3 (wT h (by decide))
section
variable {prog:Program}{w:World}{A:Around}{E:WvP}{s:Shared}
def TK.stay {h h':Heap}{k:List Int}{a b:Addr}{o:Obj}{es ep t}(x:TK prog w h k b)(ho:h.get? a=some o)(hd:o.data = .set es ep t)(hs:Heap.SameBut a h h'):TK prog w h' k b:=by
 obtain⟨o',z02,n,ho',hc,hd',hi⟩:=x;have hne:b≠a:=by
  rintro rfl;obtain rfl:o'=o:=vk (ho'.symm.trans ho);rw[hd] at hd'
  cases hd'
 exact⟨o',z02,n,(hs.2 b hne).trans ho',hc,hd',hi⟩
structure zby (prog:Program)(w:World)(h:Heap)(a:Addr)(L:List (Rw Value)):Prop where
 ex:∃o es ep t,z7s prog w h a L o es ep t/\L.length*5<t.mask*3
def z6x {h:Heap}{o:Obj}{ep:Nat}(ho:h.get? a=some o)(hd:o.data = .set es ep t)(es':Array (Int × Value))(t':SetTable):
  (h.update a (Obj.putSet es' t')).get? a=some { o with data :=.set es' (ep+1) t' }:=by
 have:=vT (Obj.putSet es' t') ho (by rw[putSet_of es' t' hd];rfl);rw[putSet_of es' t' hd] at this;exact this
def z42 {a b:Addr}{kx:List Int}{L:List (Rw Value)}(x:zby prog w s.heap a L)(hu:A.units<cLine)(hk:TK prog w s.heap kx b)(hlen:L.length<2047){Q:Bool->Shared->Prop}
  (hthere:(∃r∈L,∃c,r.2.2 = .ref c/\TK prog w s.heap kx c)->∀tk,Q false { s with toks:=tk })
  (hnew:(¬ ∃r∈L,∃c,r.2.2 = .ref c/\TK prog w s.heap kx c)->∀h' tk L',Heap.SameBut a s.heap h'->zby prog w h' a L'->(L'.map (·.2)).Perm ((tupleKeyHash (intKind prog w) kx,.ref b)::L.map (·.2))->Q true { s with heap:=h',toks:=tk }):
  wpAny (model prog w) A (setAdd a (.ref b)) Q E s:=by
 obtain⟨o,es,ep,t,y,hfull⟩:=x.ex;unfold setAdd;refine ud (we (wpAny_pyHash_tuple hu hk ?_));generalize hs1:({ s with toks:=s.toks+(kx.length+1) }:Shared)=s1;have y1:z7s prog w s1.heap a L o es ep t:=by rw[<- hs1];exact y
 have hk1:TK prog w s1.heap kx b:=by rw[<- hs1];exact hk
 unfold setAddHashed;refine ud ?_;show wpAny _ _ (setAddHashedIn a (.ref b) _ (99999+1)) _ _ _;unfold setAddHashedIn;refine we (vR y1.get y1.data y1.fits ?_);k_in;have hbs:byScan (Value.ref b) es=false:=by unfold byScan;simp[Value.scannable]
 rw[hbs];simp only[wZ,uv];obtain⟨N,hN,hNe⟩:=y1.tab.soon y1.room (tupleKeyHash (intKind prog w) kx);have hmask:t.mask<=8191:=y1.small;refine we ?_;unfold setSearch;refine z6r (s:=s1) y1 hu hk1 hNe ?_ ?_ 100000 0 none rfl (by unfold turns at hN;lia) (λm hm=>absurd hm (jq _))
 .intro hex;k_in;refine wj ?_;rw[<- hs1] at hex ⊢;exact hthere hex _
 .intro n hocc hemp;k_in;refine we (vR y1.get y1.data y1.fits ?_);k_in;have habs:¬ ∃r∈L,∃c,r.2.2 = .ref c/\TK prog w s1.heap kx c:=by
   rintro⟨r,hr,c,ec,hc⟩;obtain⟨b',k',e',hk',eh⟩:=y1.key r hr;rw[ec] at e'
   cases e'
   have ek:=hk'.inj hc;subst ek;obtain⟨m,e1,e2⟩:=y1.tab.reach r hr;rw[eh] at e1 e2
   rcases jV m n with z | z | z
   .obtain⟨r',hr',e3,e4⟩:=hocc m z;have:r'=r:=by
     have nd:=y1.tab.nodup;have e5:r'.1=r.1:=e3.trans e1;obtain⟨i,hi,ei⟩:=vw.mp hr';obtain⟨j,hj,ej⟩:=vw.mp hr;have hij:i=j:=by
      rcases jV i j with q | q | q
      .have:=ui.mp y1.tab.rise i j hi hj q;rw[ei,ej] at this;lia
      .exact q
      .have:=ui.mp y1.tab.rise j i hj hi q;rw[ei,ej] at this;lia
     subst hij;exact ei.symm.trans ej
    subst this;exact e4 c ec hc
   .subst z;exact hemp ⟨r,hr,e1.symm⟩
   .obtain⟨r',hr',e3⟩:=e2 n z;exact hemp ⟨r',hr',e3⟩
  generalize hh:tupleKeyHash (intKind prog w) kx=hx at*;generalize hj:(advs t.mask (st0 t.mask hx) n).j=j at*;have hjl:j<=t.mask:=by rw[<- hj];exact z9D t.mask hx n
  have tab2:TabW (t.put j).1 (insertAt es (t.put j).2 (hx,Value.ref b)) (ins L (t.put j).2 (j,hx,Value.ref b)):=by
   have:=y1.tab.put (x:=Value.ref b) (h:=hx) (n:=n) (λm hm=>by
    obtain⟨r,hr,e,_⟩:=hocc m hm;exact⟨r,hr,e⟩) (by rw[hj];exact hemp) (by rw[hj];exact hjl)
   rw[hj] at this;exact this
  have hlp:(ins L (t.put j).2 (j,hx,Value.ref b)).length=L.length+1:=by
   unfold ins;rw[wL,w5,vO,jB];lia
  have hmk:(t.put j).1.mask=t.mask:=rfl;have hpl:(t.put j).1.plain=true:=y1.plain;have hperm:((ins L (t.put j).2 (j,hx,Value.ref b)).map (·.2)).Perm ((hx,Value.ref b)::L.map (·.2)):=by
   unfold ins;rw[wY,ve];refine List.perm_middle.trans ?_;refine List.Perm.cons _ ?_;rw[<- wY,jM]
  generalize hT2:(t.put j).1=t2 at*;generalize hL2:ins L (t.put j).2 (j,hx,Value.ref b)=L2 at*;generalize hE2:insertAt es (t.put j).2 (hx,Value.ref b)=es2 at*;have hput:t.put j=(t2,(t.put j).2):=by rw[<- hT2]
  rw[hpl];simp only[jF];refine we (z3j hk1 ?_);simp only[jF];have hsz2:es2.size=L.length+1:=by rw[tab2.size.2.1,hlp]
  refine we (wpAny_storeSet_of y1.get y1.data ?_ (by rw[hsz2];exact fits_of_scanBound (by unfold scanBound;lia)));have g2:=z6x y1.get y1.data es2 t2;have sb2:=uE s1.heap a (Obj.putSet es2 t2);have hled2:t2.led=t.led:=by rw[<- hT2];rfl
  have key2:∀h',Heap.SameBut a s1.heap h'->∀r:Int × Value,r∈(hx,Value.ref b)::L.map (·.2)->∃b' k,r.2 = .ref b'/\TK prog w h' k b'/\r.1=tupleKeyHash (intKind prog w) k:=λh' sb r hr=>by
   rcases ww.mp hr with rfl | hr
   .exact⟨b,kx,rfl,hk1.stay y1.get y1.data sb,hh.symm⟩
   .obtain⟨r',hr',rfl⟩:=wv.mp hr;obtain⟨b',k',e',hk',eh⟩:=y1.key r' hr';exact⟨b',k',e',hk'.stay y1.get y1.data sb,eh⟩
  have fin:∀h' L',Heap.SameBut a s1.heap h'->zby prog w h' a L'->(L'.map (·.2)).Perm ((hx,.ref b)::L.map (·.2))->Q true { s1 with heap:=h' }:=λh' L' sb ok pm=>by
   rw[<- hs1] at sb habs ⊢;exact hnew habs h' _ L' sb ok pm
  have h7:7<=t.mask:=by
   obtain⟨k,hk3,e⟩:=y1.tab.pow;have:2 ^ 3<=2 ^ k:=vN (by decide) hk3;lia
  have at2:z7s prog w (s1.heap.update a (Obj.putSet es2 t2)) a L2 { o with data :=.set es2 (ep+1) t2 } es2 (ep+1) t2:=by
   refine⟨g2,y1.ex,rfl,tab2,?_,?_,hpl,?_,λr hr =>?_⟩
   .rw[hlp,hmk];lia
   .rw[hmk];exact hmask
   .rw[hled2];exact y1.led
   .obtain⟨b',k',e',hk',eh⟩:=key2 _ sb2 r.2 (hperm.mem_iff.mp (wv.mpr ⟨r,hr,rfl⟩));exact⟨b',k',e',hk',eh⟩
  have hfill:t2.fill=L.length+1:=by rw[tab2.size.2.2,hlp]
  by_cases htf:t2.tooFull=true
  .rw[htf];simp only[Bool.not_false,Bool.and_self,jF];obtain⟨k,hk1',hk3,hk4,hk5⟩:=z4M (n:=SetTable.grown (es.size+1)) (by
    have:es.size=L.length:=y1.tab.size.2.1;unfold SetTable.grown;rw[this,if_neg (by lia)];exact wT (show (L.length+1)*4<8192 by lia) (by decide))
   have hgr:SetTable.grown (es.size+1)=(L.length+1)*4:=by
    have:es.size=L.length:=y1.tab.size.2.1;unfold SetTable.grown;rw[this,if_neg (by lia)]
   have hk6:2 ^ k<=8192:=by
    rcases hk5 with z | z
    .subst z;decide
    .rw[hgr] at z
     rcases vD k 14 with y | y
     .exact vN (by decide) (show k<=13 by lia)
     .have:=vN (show 0<2 by decide) y;have:(2:Nat) ^ 14=16384:=by decide
      lia
   have hmk1:2 ^ k - 1+1=2 ^ k:=Nat.sub_add_cancel (Nat.one_le_two_pow);obtain⟨t3,order,L3,hl,m1,m2,m3,m4,m5,m6,tab3,pm3⟩:=zff (es:=es2) (mask:=2 ^ k - 1) (finger:=t2.finger) (moves:=t2.movedTo (2 ^ k - 1)) (led:=t2.led) (plain:=t2.plain) hmk1 hk3 (by rw[hsz2,hmk1];lia);unfold setRelay;refine we (we (vR at2.get at2.data at2.fits ?_));k_in;rw[hk1'];rw[if_neg (show ¬ 2 ^ k > sizeLine by rw[sizeLine_eq];lia)]
   try refine we (wj ?_)
   have hrl:t2.relaid (es2.map (·.1)) (SetTable.grown (es.size+1))=some (t3,order):=by
    unfold SetTable.relaid;rw[hk1'];exact hl
   rw[hrl];refine we ?_;show wpAny _ _ (if (((order.filterMap (es2[·]?)).size != es2.size)=true) then _ else _) _ _ _;rw[if_neg (by rw[m6];simp)];refine wj ?_;k_in;generalize hE3:order.filterMap (es2[·]?)=es3 at*;have hsz3:es3.size=L.length+1:=by rw[m6,hsz2]
   have hl3:L3.length=L.length+1:=by rw[<- tab3.size.2.1,hsz3]
   refine wpAny_storeSet_of at2.get at2.data ?_ (by rw[hsz3];exact fits_of_scanBound (by unfold scanBound;lia));have g3:=z6x at2.get at2.data es3 t3;have sb3:=sb2.trans (uE (s1.heap.update a (Obj.putSet es2 t2)) a (Obj.putSet es3 t3));have e3:es3.toList=L3.map (·.2):=by rw[tab3.es]
   have e2':es2.toList=L2.map (·.2):=by rw[tab2.es]
   have pm:(L3.map (·.2)).Perm ((hx,Value.ref b)::L.map (·.2)):=by
    rw[e3,e2'] at pm3;exact pm3.trans hperm
   refine wj (fin _ L3 sb3 ⟨_,_,_,_,⟨g3,y1.ex,rfl,tab3,?_,?_,m5.trans hpl,?_,λr hr =>?_⟩,?_⟩ pm)
   .rw[hl3,m1];lia
   .rw[m1];lia
   .rw[m4,hled2];exact y1.led
   .obtain⟨b',k',e',hk',eh⟩:=key2 _ sb3 r.2 (pm.mem_iff.mp (wv.mpr ⟨r,hr,rfl⟩));exact⟨b',k',e',hk',eh⟩
   .rw[hl3,m1];lia
  .have htf':t2.tooFull=false:=by simpa using htf
   rw[htf'];simp only[Bool.and_false,wZ,uv];refine wj (fin _ L2 sb2 ⟨_,_,_,_,at2,?_⟩ hperm);unfold SetTable.tooFull at htf';rw[hfill] at htf';rw[hlp];have:=jI htf';lia
end
inductive Two {α β:Type}(R:α->β->Prop):List α->List β->Prop
 | nil:Two R [] []
 | cons {a b l m}:R a b->Two R l m->Two R (a::l) (b::m)
def Two.imp {α β:Type}{R R':α->β->Prop}(i:∀a b,R a b->R' a b){l:List α}{m:List β}(h:Two R l m):Two R' l m:=by
 induction h with
 | nil=>exact .nil
 | cons h _ ih=>exact .cons (i _ _ h) ih
def Two.perm {α β:Type}{R:α->β->Prop}{l l':List α}(p:l.Perm l'):∀{m:List β},Two R l m->∃m',m.Perm m'/\Two R l' m':=by
 induction p with
 | nil=>intro m h;exact⟨m,jY _,h⟩
 | cons x _ ih=>
  intro m h
  cases h with
  | cons h1 h2=>
   obtain⟨m',p',h'⟩:=ih h2;exact⟨_::m',p'.cons _,.cons h1 h'⟩
 | swap x y l=>
  intro m h
  cases h with
  | cons h1 h2=>
   cases h2 with
   | cons h3 h4=>exact⟨_,List.Perm.swap _ _ _,.cons h3 (.cons h1 h4)⟩
 | trans _ _ ih1 ih2=>
  intro m h;obtain⟨m',p',h'⟩:=ih1 h;obtain⟨m'',p'',h''⟩:=ih2 h';exact⟨m'',p'.trans p'',h''⟩
def Two.mem_left {α β:Type}{R:α->β->Prop}{l:List α}{m:List β}(h:Two R l m){a:α}(ha:a∈l):∃b∈m,R a b:=by
 induction h with
 | nil=>simp at ha
 | cons h _ ih=>
  rcases ww.mp ha with rfl | ha
  .exact⟨_,by simp,h⟩
  .obtain⟨b,hb,r⟩:=ih ha;exact⟨b,by simp[hb],r⟩
def Two.mem_right {α β:Type}{R:α->β->Prop}{l:List α}{m:List β}(h:Two R l m){b:β}(hb:b∈m):∃a∈l,R a b:=by
 induction h with
 | nil=>simp at hb
 | cons h _ ih=>
  rcases ww.mp hb with rfl | hb
  .exact⟨_,by simp,h⟩
  .obtain⟨a,ha,r⟩:=ih hb;exact⟨a,by simp[ha],r⟩
section
variable {prog:Program}{w:World}
def IsK (prog:Program)(w:World)(M:Value->Prop)(h:Heap)(v:Value)(k:List Int):Prop:=M v/\∃b,v = .ref b/\TK prog w h k b
structure SetK (prog:Program)(w:World)(M:Value->Prop)(h:Heap)(a:Addr)(kl:List (List Int)):Prop where
 ex:∃L,zby prog w h a L/\Two (IsK prog w M h) (L.map (·.2.2)) kl
 nd:kl.Nodup
def SetK.len {M:Value->Prop}{h:Heap}{a:Addr}{kl:List (List Int)}(x:SetK prog w M h a kl):∃L,zby prog w h a L/\Two (IsK prog w M h) (L.map (·.2.2)) kl/\L.length=kl.length:=by
 obtain⟨L,h1,h2⟩:=x.ex;refine⟨L,h1,h2,?_⟩;have:∀{l:List Value}{m:List (List Int)},Two (IsK prog w M h) l m->l.length=m.length:=by
  intro l m t
  induction t with
  | nil=>rfl
  | cons _ _ ih=>simp[ih]
 have:=this h2;o_rec
def SetK.stay {M:Value->Prop}{h h':Heap}{a:Addr}{kl:List (List Int)}{wr:List Addr}(x:SetK prog w M h a kl)(k:∀b o,b ∉ wr->h.get? b=some o->h'.get? b=some o)(ha:a ∉ wr)(hw:∀b∈wr,∀ks,¬ TK prog w h ks b):SetK prog w M h' a kl:=by
 obtain⟨L,⟨o,es,ep,t,y,hf⟩,h2⟩:=x.ex;have tk:∀{ks:List Int}{b:Addr},TK prog w h ks b->TK prog w h' ks b:=λ{ks b} z=>by
  have hb:b ∉ wr:=λq=>hw b q ks z;obtain⟨o,it,n,e,r⟩:=z;exact⟨o,it,n,k _ _ hb e,r⟩
 refine⟨⟨L,⟨o,es,ep,t,⟨k _ _ ha y.get,y.ex,y.data,y.tab,y.room,y.small,y.plain,y.led,λr hr =>?_⟩,hf⟩,h2.imp λa b ⟨m,c,e,z⟩=>⟨m,c,e,tk z⟩⟩,x.nd⟩;obtain⟨b,ks,e,z,q⟩:=y.key r hr;exact⟨b,ks,e,tk z,q⟩
variable {A:Around}{R:Result->Shared->Prop}{I:Addr}{fp wr:List Addr}{G:Array GenState->Array GenState->Prop}{n:Nat}{P:Nat->Value->Prop}{St:Nat->Shared->Prop}
def z4j {M:Value->Prop}(W:WalksS prog w A.in1 I fp wr G n P St)(S:Addr)(hSf:S ∉ fp)(hu:A.in1.units<cLine)(ks:Nat->List Int)(hn:n<=2040)(hw:∀i s,St i s->∀b∈wr,∀k,¬ TK prog w s.heap k b)(hM:∀j v,P j v->M v):
  ∀(k i:Nat) (s:Shared) (kl:List (List Int)),n - i=k->i<=n->St i s->(∀j v,P j v->∃b,v = .ref b/\TK prog w s.heap (ks j) b)->
   SetK prog w M s.heap S kl->kl.length<=i->(∀x,x∈kl↔∃j,j<i/\ks j=x)->
   (∀s' kl',Moved (S::wr) G s s'->SetK prog w M s'.heap S kl'->kl'.length<=n->(∀x,x∈kl'↔∃j,j<n/\ks j=x)->R (.ok (.ret .none)) s')->
   codeAny (model prog w) A (.builtin "set.update.loop" ⟨[.ref S,.ref I],[]⟩) R s:=by
 have hSw:S ∉ wr:=λh=>hSf (W.sub _ h);have hsub:∀b∈wr,b∈S::wr:=λb hb=>wm _ hb;intro k
 induction k with
 | zero=>
  intro i s kl hk hi hst hP hS hl hm hR;have hin:i=n:=by lia
  subst hin;refine uW F.entry_set_update_loop ?_;rw[uy jz _];show wpAny _ A.in1 (pyNext (.ref I) >>= _) _ _ s;refine we (W.done s _ _ hst λs' hmv =>?_);show wpAny _ A.in1 (ret Value.none) _ _ s';exact wj (hR s' kl (hmv.mono hsub) (hS.stay hmv.heap hSw (hw _ _ hst)) hl hm)
 | succ k ih=>
  intro i s kl hk hi hst hP hS hl hm hR;have hlt:i<n:=by lia
  refine uW F.entry_set_update_loop ?_;rw[uy jz _];show wpAny _ A.in1 (pyNext (.ref I) >>= _) _ _ s;refine we (W.item i s _ _ hlt hst λv s' hPv hst' hmv =>?_);have hS':=hS.stay hmv.heap hSw (hw _ _ hst);have hP':∀j v,P j v->∃b,v = .ref b/\TK prog w s'.heap (ks j) b:=λj u hu'=>by
   obtain⟨b,e,z⟩:=hP j u hu';have hb:b ∉ wr:=λq=>hw _ _ hst b q _ z;obtain⟨o,it,m,e',r⟩:=z;exact⟨b,e,o,it,m,hmv.heap _ _ hb e',r⟩
  obtain⟨b,rfl,hkb⟩:=hP' i v hPv;show wpAny _ A.in1 (holding [Value.ref b] (setAdd S (.ref b)) >>= _) _ _ s';refine we (ud ?_);obtain⟨L,hL,h2,hlen⟩:=hS'.len;have grow:∀(h':Heap) (tk:Nat),s'.toks<=tk->Heap.SameBut S s'.heap h'->St (i+1) { s' with heap:=h',toks:=tk }/\(∀j v,P j v->∃b,v = .ref b/\TK prog w h' (ks j) b)/\∀s'',Moved (S::wr) G { s' with heap:=h',toks:=tk } s''->Moved (S::wr) G s s'':=λh' tk htk hsb=>by
   obtain⟨o,es,ep,t,y,_⟩:=hL.ex;refine⟨W.frame _ s' _ _ hst' htk λc hc o' e =>?_,λj u hu' =>?_,λs'' hm'' =>?_⟩
   .rw[hsb.2 c (λz:c=S=>hSf (by rw[<- z];exact hc))];exact e
   .obtain⟨c,e,z⟩:=hP' j u hu';exact⟨c,e,z.stay y.get y.data hsb⟩
   .refine Moved.trans W.gtrans ((hmv.mono hsub).then_heap htk λc o' hc e =>?_) hm'';rw[hsb.2 c (λz:c=S=>hc (by rw[z];exact wJ))];exact e
  refine wpAny_with_toks (wx s'.toks) ?_;refine z42 hL hu hkb (by lia) ?_ ?_
  .intro hex tk htk;obtain⟨g1,g2,g3⟩:=grow s'.heap tk htk (Heap.SameBut.refl _ _);refine wj ⟨uR jz _,ih (i+1) _ kl (by lia) hlt g1 g2 hS' (by lia) (λx =>?_) λs'' kl' hm''=>hR s'' kl' (g3 s'' hm'')⟩;rw[hm x]
   w_up
   .rintro⟨j,hj,e⟩;exact⟨j,by lia,e⟩
   .rintro⟨j,hj,e⟩
    rcases vD j i with z | z
    .exact⟨j,z,e⟩
    .have:j=i:=by lia
     subst this;obtain⟨r,hr,c,ec,hc⟩:=hex;obtain⟨y,hy,_,c',ec',hc'⟩:=h2.mem_left (wv.mpr ⟨r,hr,rfl⟩);rw[ec] at ec'
     cases ec'
     have:=hc.inj hc';rw[<- e,this];exact(hm y).mp hy
  .intro habs h' tk L' hsb hok pm htk;obtain⟨g1,g2,g3⟩:=grow h' tk htk hsb;obtain⟨o,es,ep,t,y,_⟩:=hL.ex;have t1:Two (IsK prog w M h') (Value.ref b::L.map (·.2.2)) (ks i::kl) :=.cons ⟨hM i _ hPv,b,rfl,hkb.stay y.get y.data hsb⟩ (h2.imp λa k ⟨m,c,e,z⟩=>⟨m,c,e,z.stay y.get y.data hsb⟩);have pm2:(Value.ref b::L.map (·.2.2)).Perm (L'.map (·.2.2)):=by
    have:=pm.symm.map (·.2);simpa[Function.comp_def] using this
   obtain⟨kl',p',t'⟩:=t1.perm pm2;have hnk:ks i ∉ kl:=λz=>by
    obtain⟨a',ha',_,c,e,z'⟩:=h2.mem_right z;obtain⟨r,hr,rfl⟩:=wv.mp ha';exact habs ⟨r,hr,c,e,z'⟩
   have nd':kl'.Nodup:=p'.nodup_iff.mp (vY.mpr ⟨hnk,hS.nd⟩);have hl':kl'.length=kl.length+1:=by rw[<- p'.length_eq];rfl
   refine wj ⟨uR jz _,ih (i+1) _ kl' (by lia) hlt g1 g2 ⟨⟨L',hok,t'⟩,nd'⟩ (by lia) (λx =>?_) λs'' kl'' hm''=>hR s'' kl'' (g3 s'' hm'')⟩;rw[<- p'.mem_iff,ww,hm x]
   w_up
   .rintro(e | ⟨j,hj,e⟩)
    .exact⟨i,by lia,e.symm⟩
    .exact⟨j,by lia,e⟩
   .rintro⟨j,hj,e⟩
    rcases vD j i with z | z
    .exact .inr ⟨j,z,e⟩
    .have:j=i:=by lia
     subst this;exact .inl e.symm
end
section
variable {prog:Program}{w:World}{A:Around}{E:WvP}{s:Shared}
def z5B:isSubtype (.type "tuple") (.type "set")=pure false:=by rw[jZ];kernel_rfl
def z3b:isSubtype (.type "tuple") (.type "frozenset")=pure false:=by rw[jZ];kernel_rfl
abbrev led0 (w:World):Bool := !w.params.followText "set-order"
def z6i (a:Value)
  (h:Q₁ (.ref s.heap.objs.size) { s with heap:=s.heap.push { cls :=.type "set",dict:=none,data :=.set #[] 0 (.fresh 0 0 (led0 w)) } }):
  codeAny (model prog w) A (.call (.builtin "set.__new__") ⟨[.type "set",a],[]⟩) (wants Q₁ E) s:=by
 refine codeAny_of_tree ?_;show wpAny _ A.in1 (do checkBuiltinCall "set.__new__" ⟨[.type "set",a],[]⟩;again (.builtin "set.__new__" ⟨[.type "set",a],[]⟩)) _ _ s;refine we (wpAny_of_eq (F.newCall_set_1 a) (wj ⟨uR F.plain_set_new _,uW F.entry_set_new ?_⟩));rw[uy F.plain_set_new _];unfold Builtin.«set.__new__» Builtin.Frozenset.newClass;have hsub:=sub_set_self;obtain⟨hp,g,d,tk,os⟩:=s;k_in
 wp_walk
 refine j7 (wj ?_);k_in;simp only[newObj];refine we (wpAny_alloc (wj ?_));exact wj h
def z8T (e:h.get? a=some { cls :=.type "set",dict:=none,data :=.set #[] 0 (.fresh 0 0 (led0 w)) }):SetK prog w M h a []:=by
 refine⟨⟨[],⟨_, #[],0,_,⟨e,⟨rfl,rfl,rfl⟩,rfl,⟨rfl,rfl,.nil,(λr hr=>by simp at hr),rfl,⟨3,wx _,rfl⟩,(λr hr=>by simp at hr)⟩,(by show 0<=7;decide),(by show 7<=8191;decide),rfl,rfl,(λr hr=>by simp at hr)⟩,(by show 0*5<7*3;decide)⟩,.nil⟩,.nil⟩
set_option hygiene false in
local macro_rules | `(tactic| walk_at "cs") => `(tactic| (
  obtain⟨c,tl,hmro⟩:=jN.mro;have hmade:=jN.made;have hsub:=jN.sub;refine wpAny_call (codeAny_of_tree ?_);show wpAny _ _ (callAny (.type "set") _) _ _ _;refine wj ⟨Code.quiet_builtin _ (by decide +kernel),uW F.entry_type_call ?_⟩;rw[Around.under_plain (weight_type_call_type "set" [.ref l] []) rfl];have h1:=jN.notType;have h2:=jN.canCreate;have hct:=F.typeCall_set_1 (.ref l)
  repeat (any_goals (first | assumption | wp_step))
  refine codeAny_mono (z6i (.ref l) (E:=E) (Q₁:=λobj s₁=>obj = .ref s.heap.objs.size/\s₁={ s with heap:=s.heap.push { cls :=.type "set",dict:=none,data :=.set #[] 0 (.fresh 0 0 (led0 w)) } }) ⟨rfl,rfl⟩) λr s₁ hr =>?_
  cases r with
  | error e=>exact hr
  | ok fl=>
   cases fl with
   | ret obj=>
    obtain⟨rfl,rfl⟩:=hr;generalize hled:led0 w=led at*;have hS:(s.heap.push { cls :=.type "set",dict:=none,data :=.set #[] 0 (.fresh 0 0 led) }).get? s.heap.objs.size=some { cls :=.type "set",dict:=none,data :=.set #[] 0 (.fresh 0 0 led) }:=wA _ rfl;have hT:Shared.TypeIs { s with heap:=s.heap.push { cls :=.type "set",dict:=none,data :=.set #[] 0 (.fresh 0 0 led) } } (.ref s.heap.objs.size) "set":=⟨_,hS,rfl⟩
    have hli:=jN.init.lookup;have hbi:=jN.init.bind (.ref s.heap.objs.size)
    repeat (any_goals (first | assumption | wp_step))
    refine codeAny_mono (codeAny_call_builtin (R:=wants (λr s₂=>r = .none/\∃h' tk kl,s₂={ s with heap:=h',toks:=tk }/\SetK prog w M h' s.heap.objs.size kl/\kl.length<=z02.size/\(∀x,x∈kl↔x∈ks)/\
      (∀b o,b<s.heap.objs.size->s.heap.get? b=some o->h'.get? b=some o)) E) jN.init.plain F.entry_set_init (check_set_init_1 hT ?_)) λr₂ s₂ hr₂ =>?_
    ·obtain⟨ol,hol,hcl,nl,hdl⟩:=hl;obtain⟨ocls,odict,odata,oslots⟩:=ol;simp only at hcl hdl;subst hcl;subst hdl;have hol':=wo (show Obj from { cls :=.type "set",dict:=none,data :=.set #[] 0 (.fresh 0 0 led) }) hol;unfold Builtin.«set.__init__» noKeywords Builtin.Frozenset.updateFrom;generalize hPI:pyIter=PI
     wp_walk
     subst hPI
     first | refine wpAny_pyIter_list ⟨_,hol',rfl,nl,rfl⟩ ?_ | refine Wg ⟨_,hol',rfl,nl,rfl⟩ ?_
     refine we (wpAny_runValue ?_);have hlS:l<s.heap.objs.size:=wE hol;have hh3:A.in1.in1.in1.handled=none:=by simp[hh]
     have hneI:l≠(s.heap.push { cls :=.type "set",dict:=none,data :=.set #[] 0 (.fresh 0 0 led) }).objs.size:=by
      rw[uF];exact wV (uq hlS)
     have hSf:s.heap.objs.size ∉ [(s.heap.push { cls :=.type "set",dict:=none,data :=.set #[] 0 (.fresh 0 0 led) }).objs.size,l]:=by
      rw[uF];simp only[ww,wq,vn,jc,not_or];exact⟨wV (j5 _),j9 hlS⟩
     have hkat:∀(i:Nat) (v:Value),z02[i]? = some v->M v/\∃b,v = .ref b/\TK prog w s.heap (ks.getD i []) b:=λi v hv=>by
      have hv':z02.toList[i]? = some v:=by simpa using hv
      generalize z02.toList=il at hi hv';clear hv h
      induction hi generalizing i with
      | nil=>simp at hv'
      | cons h0 _ ih=>
       cases i with
       | zero=>
        simp at hv';subst hv';exact h0
       | succ i=>exact ih i (by simpa using hv')
     have hks:ks.length=z02.size:=by
      have:∀{l:List Value}{m:List (List Int)},Two (IsK prog w M s.heap) l m->l.length=m.length:=by
       intro l m t
       induction t with
       | nil=>rfl
       | cons _ _ ih=>simp[ih]
      have:=this hi;simpa using this.symm
     first | refine z4j ((Walks.list hh3 _ l hneI z02).toS) s.heap.objs.size hSf (by simp;lia) (λi=>ks.getD i []) hb ?hw (λj v hv=>(hkat j v hv).1) (z02.size - 0) 0 _ [] (by lia) (vy _) ⟨⟨_,wA _ rfl,rfl,rfl⟩,?hl2⟩ (λj v hv => ?hP) ?hS0 (vy _) (λx=>by simp) ?hR | refine z4j ((Walks.tuple hh3 _ l hneI z02).toS) s.heap.objs.size hSf (by simp;lia) (λi=>ks.getD i []) hb ?hw (λj v hv=>(hkat j v hv).1) (z02.size - 0) 0 _ [] (by lia) (vy _) ⟨⟨_,wA _ rfl,rfl,rfl⟩,?hl2⟩ (λj v hv => ?hP) ?hS0 (vy _) (λx=>by simp) ?hR
     case hl2=>exact⟨_,wo _ hol',rfl,nl,rfl⟩
     case hw=>
      intro i s0 hst b hb' k z;rw[wq.mp hb'] at z;obtain⟨⟨o1,e1,c1,_⟩,_⟩:=hst;obtain⟨o2,_,_,e2,c2,_⟩:=z;rw[e1] at e2
      cases e2
      rw[c1] at c2
      injection c2 with c3
      exact absurd c3 (by decide)
     case hP=>
      obtain⟨_,b,e,o2,it,m,e2,r⟩:=hkat j v hv;exact⟨b,e,o2,it,m,wo _ (wo _ e2),r⟩
     case hS0=>
      refine z8T (h:=(s.heap.push { cls :=.type "set",dict:=none,data :=.set #[] 0 (.fresh 0 0 led) }).push _) ?_;rw[hled];exact wo _ hS
     case hR=>
      intro s' kl hm hS' hkl hmem;obtain⟨h',g',d',tk',os'⟩:=s';have eg:g'=s.gens:=hm.gens;have ed:d'=s.drawn:=hm.drawn;have eo:os'=s.os:=hm.os;subst eg;subst ed;subst eo;show wpAny _ _ _ _ _ _;apply wj;show wpAny _ _ (ret Value.none) _ _ _;refine wj ⟨rfl,h',tk',kl,rfl,hS',hkl,λx =>?_,λb o hb e =>?_⟩
      ·rw[hmem x]
       constructor
       ·rintro⟨j,hj,e⟩;have hj':j<ks.length:=by rw[hks];exact hj
        rw[<- e];show ks.getD j []∈ks;rw[uZ,wp hj'];exact ua hj'
       ·intro hx;obtain⟨j,hj,e⟩:=vw.mp hx;refine⟨j,by rw[<- hks];exact hj,?_⟩;show ks.getD j []=x;rw[uZ,wp hj];exact e
      ·have hb1:b≠s.heap.objs.size:=wV hb;have hb2:b≠(s.heap.push { cls :=.type "set",dict:=none,data :=.set #[] 0 (.fresh 0 0 led) }).objs.size:=by
        rw[uF];exact wV (uq hb)
       exact hm.heap b o (by simp only[ww,wq,vn,jc,not_or];exact⟨hb1,hb2⟩) (wo _ (wo _ e))
    ·cases r₂ with
     | error e=>exact hr₂
     | ok fl₂=>
      cases fl₂ with
      | ret r=>
       obtain⟨rfl,h',tk,kl,rfl,hS',hk1,hk2,hk'⟩:=hr₂
       repeat (any_goals (first | assumption | wp_step))
       exact h _ _ _ hS' hk1 hk2 hk'
      | _=>exact hr₂.elim
   | _=>exact hr.elim))
def z6k {M:Value->Prop}{l:Addr}{z02:Array Value}{ks:List (List Int)}{Q:WvP}
  (hh:A.handled=none) (hu:A.units+8<cLine) (hl:s.heap.IsList l z02) (hi:Two (IsK prog w M s.heap) z02.toList ks) (hb:z02.size<=2040)
  (h:∀(h':Heap) (tk:Nat) (kl:List (List Int)),SetK prog w M h' s.heap.objs.size kl->kl.length<=z02.size->(∀x,x∈kl↔x∈ks)->
   (∀b o,b<s.heap.objs.size->s.heap.get? b=some o->h'.get? b=some o)->Q (.ref s.heap.objs.size) { s with heap:=h',toks:=tk }):
  wpAny (model prog w) A (call (.type "set") [.ref l]) Q E s:=by
 have hsls:=F.sub_list_set;have hslf:=F.sub_list_frozenset;have hne:(Value.type "list" == Value.type "dict")=false:=by decide
 walk_at "cs"
def z51 {M:Value->Prop}{l:Addr}{z02:Array Value}{ks:List (List Int)}{Q:WvP}
  (hh:A.handled=none) (hu:A.units+8<cLine) (hl:s.heap.IsTuple l z02) (hi:Two (IsK prog w M s.heap) z02.toList ks) (hb:z02.size<=2040)
  (h:∀(h':Heap) (tk:Nat) (kl:List (List Int)),SetK prog w M h' s.heap.objs.size kl->kl.length<=z02.size->(∀x,x∈kl↔x∈ks)->
   (∀b o,b<s.heap.objs.size->s.heap.get? b=some o->h'.get? b=some o)->Q (.ref s.heap.objs.size) { s with heap:=h',toks:=tk }):
  wpAny (model prog w) A (call (.type "set") [.ref l]) Q E s:=by
 have hsls:=z5B;have hslf:=z3b;have hne:(Value.type "tuple" == Value.type "dict")=false:=by decide
 walk_at "cs"
end
end Tab
namespace Tim
open PySem PyProof.Rows
section
variable {M:Model}{A:Around}{E:WvP}{s:Shared}{rk:Keyed->Nat}{κ:SortKind}{a₀:Array Keyed}
def Asks (M:Model)(A:Around)(s:Shared)(κ:SortKind)(a₀:Array Keyed)(rk:Keyed->Nat):Prop:=
 ∀x y,x∈a₀.toList->y∈a₀.toList->∀(Q:Bool->Shared->Prop) (E:WvP),Q (decide (rk x<rk y)) s->wpAny M A (keyLt' κ x.1 y.1) Q E s
structure TB (κ:SortKind)(a₀:Array Keyed)(st:SortSt):Prop where
 kind:kindOf st=κ
 failed:failedOf st=none
 perm:(arrOf st).Perm a₀
def zf1 {α:Type}{H P:α->Prop}{G:Prop}(p:∀x,H x->P x)(u:(∀x,H x->P x)->G):G:=u p
def zfD (hL:Asks M A s κ a₀ rk){st:SortSt}(hk:kindOf st=κ)(hx:x∈a₀.toList)(hy:y∈a₀.toList)(h:Q (some (decide (rk x<rk y))) st):
  wpS M A E s (lt' x y) Q st:=by
 rw[lt'_eq];refine v5 (wpS_get ?_);rw[hk];refine v5 (wpS_lift (Wh (hL x y hx hy _ _ ⟨rfl,?_⟩)));exact uG h
def z7Y {st:SortSt}(e:arr[i]? = some p)(h:Q p st):wpS M A E s (elem' arr i) Q st:=by
 rw[elem'_eq,e];exact uG h
theorem TB.size {st:SortSt}(h:TB κ a₀ st):(arrOf st).size=a₀.size:=h.perm.size_eq
def TB.mem {st:SortSt}(h:TB κ a₀ st)(hp:p∈(arrOf st).toList):p∈a₀.toList:=(u4.mp h.perm).mem_iff.mp hp
def Rk (rk:Keyed->Nat)(xs:Array Keyed)(i:Nat):Nat:=match xs[i]? with
 | some p=>rk p
 | none=>0
def z6p (h:xs[i]? = some p):Rk rk xs i=rk p:=by unfold Rk;rw[h]
def z3D (h:xs[i]? = ys[j]?):Rk rk xs i=Rk rk ys j:=by unfold Rk;rw[h]
def zbs {xs:Array Keyed}{i:Nat}(h:i<xs.size):∃p,xs[i]? = some p/\p∈xs.toList:=⟨xs[i],jf xs i h,by simp⟩
theorem TB.setArr {st:SortSt}(h:TB κ a₀ st)(hp:xs.Perm (arrOf st)):TB κ a₀ (setArr st xs):=⟨h.kind,h.failed,hp.trans h.perm⟩
def z3F (hL:Asks M A s κ a₀ rk){st:SortSt}{i j:Nat}{Q:Option Bool->SortSt->Prop}(hB:TB κ a₀ st)(hi:i<a₀.size)(hj:j<a₀.size)
  (h:Q (some (decide (Rk rk (arrOf st) i<Rk rk (arrOf st) j))) st):wpS M A E s (ltAt' i j) Q st:=by
 obtain⟨p,e1,m1⟩:=zbs (xs:=arrOf st) (i:=i) (by rw[hB.size];exact hi);obtain⟨q,e2,m2⟩:=zbs (xs:=arrOf st) (i:=j) (by rw[hB.size];exact hj);rw[z6p e1,z6p e2] at h;rw[ltAt'_eq];refine v5 (wpS_get ?_);exact v5 (z7Y e1 (v5 (z7Y e2 (zfD hL hB.kind (hB.mem m1) (hB.mem m2) h))))
def z1U {σ α:Type}{c:Prop}[Decidable c]{x y:StateT σ Sem α}{Q:α->σ->Prop}{st:σ}(h:c)(k:wpS M A E s x Q st):wpS M A E s (if c then x else y) Q st:=by
 rw[if_pos h];exact k
def z1V {σ α:Type}{c:Prop}[Decidable c]{x y:StateT σ Sem α}{Q:α->σ->Prop}{st:σ}(h:¬ c)(k:wpS M A E s y Q st):wpS M A E s (if c then x else y) Q st:=by
 rw[if_neg h];exact k
end
section
variable {t1 t2 t3 t4 t5 t6 t7 C S:Type}{c:C}{s:S}{G:C->S->Prop}
def elc0 {C:Type}{c F:C}{P:Prop}{G:C->Prop}(h:c=F/\P)(k:P->G F):G c:=by
 obtain⟨rfl,p⟩:=h;exact k p
def elc1 {t1 C:Type}{c:C}{F:t1->C}{P:t1->Prop}{G:C->Prop}(h:∃a,c=F a/\P a)(k:∀a,P a->G (F a)):G c:=by
 obtain⟨a,rfl,p⟩:=h;exact k a p
end
section
variable {M:Model}{A:Around}{E:WvP}{s:Shared}{rk:Keyed->Nat}{κ:SortKind}{a₀:Array Keyed}
def Seg (rk:Keyed->Nat)(xs:Array Keyed)(i j:Nat):Prop:=∀p q,i<=p->p<=q->q<j->Rk rk xs p<=Rk rk xs q
def Gec (rk:Keyed->Nat)(xs:Array Keyed)(i j:Nat):Prop:=∀p q,i<=p->p<=q->q<j->Rk rk xs q<=Rk rk xs p
def Low (xs ys:Array Keyed)(lo:Nat):Prop:=∀k,k<lo->xs[k]? = ys[k]?
def Seg.one {xs:Array Keyed}{i j:Nat}(h:j<=i+1):Seg rk xs i j:=λp q a1 a2 a3=>by
 obtain rfl:p=q:=by lia
 exact wx _
def Low.refl {xs:Array Keyed}{lo:Nat}:Low xs xs lo:=λ_ _=>rfl
theorem Low.trans {xs ys zs:Array Keyed}{lo:Nat}(h:Low xs ys lo)(k:Low ys zs lo):Low xs zs lo:=λi hi=>(h i hi).trans (k i hi)
def z4I (hj:j<=xs.size)(k:Nat):
  Rk rk (mirror xs i j ((j - i) / 2)) k=if i<=k/\k<j then Rk rk xs (i+j - 1 - k) else Rk rk xs k:=by
 have e:=getElem?_mirror_all (i:=i) hj k
 by_cases h1:i<=k/\k<j
 .rw[if_pos h1] at e ⊢;exact z3D e
 .rw[if_neg h1] at e ⊢;exact z3D e
def z0W (hj:j<=xs.size)(heq:∀k,i<=k->k<j->Rk rk xs k=Rk rk xs (j - 1))(k:Nat):
  Rk rk (mirror xs i j ((j - i) / 2)) k=Rk rk xs k:=by
 rw[z4I hj]
 split
 .rw[heq _ (by lia) (by lia),heq k (by lia) (by lia)]
 .rfl
def z33 {i j lo:Nat}(hj:j<=xs.size)(hi:lo<=i):Low (mirror xs i j ((j - i) / 2)) xs lo:=λk hk=>by
 rw[getElem?_mirror_all hj k,if_neg (by lia)]
def z7t (hs:src<xs.size)(hd:d<=src)(k:Nat):
  Rk rk (bubble xs src d) k=if k=src - d then Rk rk xs src else if src - d<k/\k<=src then Rk rk xs (k - 1) else Rk rk xs k:=by
 have e:=getElem?_bubble hs d hd k
 by_cases h1:k=src - d
 .rw[if_pos h1] at e ⊢;exact z3D e
 .rw[if_neg h1] at e ⊢
  by_cases h2:src - d<k/\k<=src
  .rw[if_pos h2] at e ⊢;exact z3D e
  .rw[if_neg h2] at e ⊢;exact z3D e
def z9m {src d lo:Nat}(hs:src<xs.size)(hd:d<=src)(hl:lo<=src - d):Low (bubble xs src d) xs lo:=λk hk=>by
 rw[getElem?_bubble hs d hd k,if_neg (by lia),if_neg (by lia)]
def z28 {st:SortSt}(h:Q () (setArr st (mirror (arrOf st) i j ((j - i) / 2)))):
  wpS M A E s (reverseSlice' i j) Q st:=by
 rw[reverseSlice'_eq];exact wpS_modify h
def z9p {st:SortSt}{lo a nrem:Nat}{k:Option (Option Nat) × Nat->StateT SortSt Sem (Option Nat)}
  (ha:1<=a) (han:a<=nrem) (hs:Seg rk (arrOf st) lo (lo+a))
  (hf:∀x n (R:ForInStep (Option (Option Nat) × Nat)->SortSt->Prop),1<=n->n<nrem->(Rk rk (arrOf st) (lo+n)<Rk rk (arrOf st) (lo+n - 1)->R (.done (none,n)) st)->(Rk rk (arrOf st) (lo+n - 1)<=Rk rk (arrOf st) (lo+n)->R (.yield (none,n+1)) st)->wpS M A E s (f x (none,n)) R st)
  (hk:∀n,a<=n->n<=nrem->Seg rk (arrOf st) lo (lo+n)->(n=nrem\/Rk rk (arrOf st) (lo+n)<Rk rk (arrOf st) (lo+n - 1))->wpS M A E s (k (none,n)) Q st):
  wpS M A E s (forIn [a:nrem] ((none,a):Option (Option Nat) × Nat) f >>= k) Q st:=by
 refine v5 (wpS_mono (Wl (I:=λx c st'=>st'=st/\c=(none,x)/\Seg rk (arrOf st) lo (lo+x))
  (Q:=λc st'=>st'=st/\∃n,c=(none,n)/\a<=n/\n<=nrem/\Seg rk (arrOf st) lo (lo+n)/\(n=nrem\/Rk rk (arrOf st) (lo+n)<Rk rk (arrOf st) (lo+n - 1))) ?step ?fin ⟨rfl,rfl,hs⟩) ?post)
 case fin=>
  rintro c st' ⟨rfl,rfl,hs'⟩;rw[show max a nrem=nrem by lia] at hs' ⊢;exact⟨rfl,nrem,rfl,han,wx _,hs',.inl rfl⟩
 case post=>
  rintro c st' ⟨rfl,n,rfl,h1,h2,h3,h4⟩;exact hk n h1 h2 h3 h4
 case step=>
  rintro x c st' hax hxn ⟨rfl,rfl,hs'⟩;refine hf x x _ (by lia) hxn (λhl=>⟨rfl,x,rfl,hax,by lia,hs',.inr hl⟩) (λhl=>⟨rfl,rfl,λp q h1 h2 h3 =>?_⟩)
  by_cases hq:q<lo+x
  .exact hs' p q h1 h2 hq
  .have e:q=lo+x:=by lia
   subst e
   by_cases hp:p=lo+x
   .subst hp;exact wx _
   .exact wO (hs' p (lo+x - 1) h1 (by lia) (by lia)) hl
def z6q (hL:Asks M A s κ a₀ rk){st:SortSt}{lo nrem:Nat}(hn:lo+nrem<=a₀.size)(h1:1<=nrem)(hB:TB κ a₀ st)
  (h:∀m st',TB κ a₀ st'->pendingOf st'=pendingOf st->1<=m->m<=nrem->Seg rk (arrOf st') lo (lo+m)->Low (arrOf st') (arrOf st) lo->Q (some m) st'):
  wpS M A E s (countRun' lo nrem) Q st:=by
 try dsimp only
 refine z9p (rk:=rk) (lo:=lo) (wx 1) h1 (Seg.one (wx _)) ?f ?k
 case f=>
  intro x n R n1 n2 ha hb;k_in;refine v5 (z3F hL hB (by lia) (by lia) ?_)
  by_cases hl:Rk rk (arrOf st) (lo+n)<Rk rk (arrOf st) (lo+n - 1)
  .refine z1U (by simpa using hl) ?_;exact uG (ha hl)
  .refine z1V (by simpa using hl) ?_;exact uG (hb (by lia))
 case k=>
  intro n hn1 hn2 hsn hor;k_in
  by_cases hnn:n=nrem
  .refine z1U (by simpa using hnn) ?_;exact uG (h n st hB rfl hn1 hn2 hsn Low.refl)
  .refine z1V (by simpa using hnn) ?_;have hlt:=hor.resolve_left hnn;have hsz:lo+n<=(arrOf st).size:=by rw[hB.size];lia
   refine zf1 (H:=λst1:SortSt=>TB κ a₀ st1/\pendingOf st1=pendingOf st/\Gec rk (arrOf st1) lo (lo+n+1)/\Low (arrOf st1) (arrOf st) lo) (P := ?pp1) ?tl1 ?us1
   case us1=>
    intro J
    by_cases hgt:n > 1
    .refine z1U hgt ?_;refine v5 (z3F hL hB (by lia) (by lia) ?_)
     by_cases hrose:Rk rk (arrOf st) lo<Rk rk (arrOf st) (lo+n - 1)
     .refine z1U (by simpa using hrose) ?_;exact uG (h n st hB rfl hn1 hn2 hsn Low.refl)
     refine z1V (by simpa using hrose) ?_;have hall:∀k,lo<=k->k<lo+n->Rk rk (arrOf st) k=Rk rk (arrOf st) (lo+n - 1):=by
      intro k k1 k2;have a1:=hsn lo k (by lia) (by lia) k2;have a2:=hsn k (lo+n - 1) (by lia) (by lia) (by lia);lia
     refine v5 (z28 ?_);obtain⟨st1,e1,hB1,hp1,hG1,hl1⟩:∃st1:SortSt,st1=setArr st (mirror (arrOf st) lo (lo+n) ((lo+n - lo) / 2))/\TB κ a₀ st1/\pendingOf st1=pendingOf st/\Gec rk (arrOf st1) lo (lo+n+1)/\Low (arrOf st1) (arrOf st) lo:=by
      refine⟨_,rfl,hB.setArr (mirror_perm _ _ _ _),rfl,λp q p1 p2 p3 =>?_,z33 hsz (wx _)⟩;show Rk rk (mirror (arrOf st) _ _ _) q<=Rk rk (mirror (arrOf st) _ _ _) p;rw[z0W hsz hall,z0W hsz hall]
      by_cases hq:q<lo+n
      .rw[hall p (by lia) (by lia),hall q (by lia) hq];exact wx _
      .have e:q=lo+n:=by lia
       subst e
       by_cases hp:p=lo+n
       .subst hp;exact wx _
       .rw[hall p (by lia) (by lia)];lia
     rw[<- e1];exact J st1 ⟨hB1,hp1,hG1,hl1⟩
    .refine z1V hgt ?_;refine J st ⟨hB,rfl,λp q p1 p2 p3 =>?_,Low.refl⟩
     by_cases hp:p=q
     .subst hp;exact wx _
     .obtain rfl:p=lo:=by lia
      obtain rfl:q=p+n:=by lia
      obtain rfl:n=1:=by lia
      rw[show p+1 - 1=p by lia] at hlt;lia
   rintro st1 ⟨hB1,hp1,hG1,hl1⟩;refine v5 (wpS_lift (jU ⟨rfl,?_⟩));refine v5 (wpS_mono (Wl (I:=λx c st2=>∃neq,c=(none,x,neq)/\TB κ a₀ st2/\pendingOf st2=pendingOf st/\Low (arrOf st2) (arrOf st) lo/\Gec rk (arrOf st2) lo (lo+x)/\neq+1<=x/\
     (∀i,lo+x - (neq+1)<=i->i<lo+x->Rk rk (arrOf st2) i=Rk rk (arrOf st2) (lo+x - 1)))
    (Q:=λc st2=>∃m neq,c=(none,m,neq)/\m<=nrem/\TB κ a₀ st2/\pendingOf st2=pendingOf st/\Low (arrOf st2) (arrOf st) lo/\Gec rk (arrOf st2) lo (lo+m)/\neq+1<=m/\
     (∀i,lo+m - (neq+1)<=i->i<lo+m->Rk rk (arrOf st2) i=Rk rk (arrOf st2) (lo+m - 1))) ?step ?fin ⟨0,rfl,hB1,hp1,hl1,hG1,by lia,λi h1 h2=>by congr 1;lia⟩) ?post)
   case fin=>
    rintro c st2 hI1;apply elc1 (c:=c) hI1;intro neq p1;have hB2:=p1.1;have hp2:=p1.2.1;have hl2:=p1.2.2.1;have hG2:=p1.2.2.2.1;have hq:=p1.2.2.2.2.1;have he:=p1.2.2.2.2.2;clear p1 hI1;refine⟨_,neq,rfl,by lia,hB2,hp2,hl2,hG2,hq,he⟩
   case step=>
    rintro x c st2 hax hxn hI2;apply elc1 (c:=c) hI2;intro neq p2;have hB2:=p2.1;have hp2:=p2.2.1;have hl2:=p2.2.2.1;have hG2:=p2.2.2.2.1;have hq:=p2.2.2.2.2.1;have he:=p2.2.2.2.2.2;clear p2 hI2;k_in;have hsz2:lo+x<=(arrOf st2).size:=by rw[hB2.size];lia
    refine v5 (z3F hL hB2 (by lia) (by lia) ?_)
    by_cases hless:Rk rk (arrOf st2) (lo+x)<Rk rk (arrOf st2) (lo+x - 1)
    .refine z1U (by simpa using hless) ?_;have step1:∀xs:Array Keyed,(∀k,Rk rk xs k=Rk rk (arrOf st2) k)->Gec rk xs lo (lo+(x+1)):=by
      intro xs hk p q p1 p2 p3;rw[hk,hk]
      by_cases hq':q<lo+x
      .exact hG2 p q p1 p2 hq'
      .obtain rfl:q=lo+x:=by lia
       by_cases hp':p=lo+x
       .subst hp';exact wx _
       .exact wO (um hless) (hG2 p (lo+x - 1) p1 (by lia) (by lia))
     by_cases hneq:neq > 0
     .refine z1U hneq ?_;refine v5 (z28 (uG ⟨0,rfl,hB2.setArr (mirror_perm _ _ _ _),hp2,(z33 hsz2 (by lia)).trans hl2,step1 _ (z0W hsz2 he),by lia,λi h1 h2=>by congr 1;lia⟩))
     .refine z1V hneq ?_;exact uG ⟨0,rfl,hB2,hp2,hl2,step1 _ (λ_=>rfl),by lia,λi h1 h2=>by congr 1;lia⟩
    .refine z1V (by simpa using hless) ?_;refine v5 (z3F hL hB2 (by lia) (by lia) ?_)
     by_cases hlarger:Rk rk (arrOf st2) (lo+x - 1)<Rk rk (arrOf st2) (lo+x)
     .refine z1U (by simpa using hlarger) ?_;exact uG ⟨x,neq,rfl,by lia,hB2,hp2,hl2,hG2,hq,he⟩
     .refine z1V (by simpa using hlarger) ?_;have heqx:Rk rk (arrOf st2) (lo+x)=Rk rk (arrOf st2) (lo+x - 1):=by lia
      refine uG ⟨neq+1,rfl,hB2,hp2,hl2,λp q p1 p2 p3 =>?_,by lia,λi h1 h2 =>?_⟩
      .by_cases hq':q<lo+x
       .exact hG2 p q p1 p2 hq'
       .obtain rfl:q=lo+x:=by lia
        by_cases hp':p=lo+x
        .subst hp';exact wx _
        .rw[heqx];exact hG2 p (lo+x - 1) p1 (by lia) (by lia)
      .rw[show lo+(x+1) - 1=lo+x by lia]
       by_cases hix:i=lo+x
       .subst hix;rfl
       .rw[heqx];exact he i (by lia) (by lia)
   case post=>
    rintro c st2 ⟨m,neq,rfl,hm,hB2,hp2,hl2,hG2,hq,he⟩;k_in;have hsz2:lo+m<=(arrOf st2).size:=by rw[hB2.size];lia
    refine zf1 (H:=λst3:SortSt=>TB κ a₀ st3/\pendingOf st3=pendingOf st/\Low (arrOf st3) (arrOf st) lo/\Gec rk (arrOf st3) lo (lo+m)) (P := ?pp2) ?tl2 ?us2
    case us2=>
     intro J
     by_cases hneq:neq > 0
     .refine z1U hneq ?_;refine v5 (z28 ?_);obtain⟨st3,e3,hB3,hp3,hl3,hG3⟩:∃st3:SortSt,st3=setArr st2 (mirror (arrOf st2) (lo+m - (neq+1)) (lo+m) ((lo+m - (lo+m - (neq+1))) / 2))/\TB κ a₀ st3/\pendingOf st3=pendingOf st/\Low (arrOf st3) (arrOf st) lo/\Gec rk (arrOf st3) lo (lo+m):=by
       refine⟨_,rfl,hB2.setArr (mirror_perm _ _ _ _),hp2,(z33 hsz2 (by lia)).trans hl2,λp q p1 p2 p3 =>?_⟩;show Rk rk (mirror (arrOf st2) _ _ _) q<=Rk rk (mirror (arrOf st2) _ _ _) p;rw[z0W hsz2 he,z0W hsz2 he];exact hG2 p q p1 p2 p3
      rw[<- e3];exact J st3 ⟨hB3,hp3,hl3,hG3⟩
     .refine z1V hneq ?_;exact J st2 ⟨hB2,hp2,hl2,hG2⟩
    rintro st3 ⟨hB3,hp3,hl3,hG3⟩;have hsz3:lo+m<=(arrOf st3).size:=by rw[hB3.size];lia
    refine v5 (z28 ?_);have hB4:TB κ a₀ (setArr st3 (mirror (arrOf st3) lo (lo+m) ((lo+m - lo) / 2))):=hB3.setArr (mirror_perm _ _ _ _);refine z9p (rk:=rk) (lo:=lo) (by lia) hm (λp q p1 p2 p3 =>?_) ?f ?k
    case f=>
     intro x n R n1 n2 ha hb;k_in;refine v5 (z3F hL hB4 (by lia) (by lia) ?_)
     by_cases hl:Rk rk (mirror (arrOf st3) lo (lo+m) ((lo+m - lo) / 2)) (lo+n)<Rk rk (mirror (arrOf st3) lo (lo+m) ((lo+m - lo) / 2)) (lo+n - 1)
     .refine z1U (by simpa using hl) ?_;exact uG (ha hl)
     .refine z1V (by simpa using hl) ?_;exact uG (hb (Nat.le_of_not_lt hl))
    case k=>
     intro n hn1 hn2 hsn _;exact uG (h n _ hB4 hp3 (by lia) hn2 hsn ((z33 hsz3 (wx _)).trans hl3))
    show Rk rk (mirror (arrOf st3) lo (lo+m) ((lo+m - lo) / 2)) p<=Rk rk (mirror (arrOf st3) lo (lo+m) ((lo+m - lo) / 2)) q;rw[z4I hsz3,z4I hsz3,if_pos (by lia),if_pos (by lia)];exact hG3 _ _ (by lia) (by lia) (by lia)
def z4K (hL:Asks M A s κ a₀ rk){st:SortSt}{lo n ok:Nat}(hn:lo+n<=a₀.size)(hok:ok<=n)(h1:1<=ok)(hB:TB κ a₀ st)(hs:Seg rk (arrOf st) lo (lo+ok))
  (h:∀st',TB κ a₀ st'->pendingOf st'=pendingOf st->Seg rk (arrOf st') lo (lo+n)->Low (arrOf st') (arrOf st) lo->Q true st'):wpS M A E s (binarySort' lo n ok) Q st:=by
 refine v5 (wpS_mono (Wl (I:=λk c st'=>c=(none,())/\TB κ a₀ st'/\pendingOf st'=pendingOf st/\Seg rk (arrOf st') lo (lo+k)/\Low (arrOf st') (arrOf st) lo)
  (Q:=λc st'=>c=(none,())/\TB κ a₀ st'/\pendingOf st'=pendingOf st/\Seg rk (arrOf st') lo (lo+n)/\Low (arrOf st') (arrOf st) lo) ?step ?fin ?init) ?post)
 case post=>
  rintro c st' hI1;apply elc0 (c:=c) hI1;intro p1;have hB':=p1.1;have hp':=p1.2.1;have hs':=p1.2.2.1;have hl':=p1.2.2.2;clear p1 hI1;exact uG (h st' hB' hp' hs' hl')
 case init=>
  rw[show max ok 1=ok by lia];exact⟨rfl,hB,rfl,hs,Low.refl⟩
 case fin=>
  rintro c st' ⟨hc,hB',hp',hs',hl'⟩;rw[show max (max ok 1) n=n by lia] at hs';exact⟨hc,hB',hp',hs',hl'⟩
 case step=>
  rintro k c st' hak hkn hI2;apply elc0 (c:=c) hI2;intro p2;have hB':=p2.1;have hp':=p2.2.1;have hs':=p2.2.2.1;have hl':=p2.2.2.2;clear p2 hI2;k_in;have hk:lo+k<a₀.size:=by lia
  refine v5 (wpS_mono (Wl (I:=λx c st''=>st''=st'/\∃l r,c=(none,l,r)/\l<=r/\r<=k/\r - l<=k - x/\
    (∀i,i<l->Rk rk (arrOf st') (lo+i)<=Rk rk (arrOf st') (lo+k))/\(∀i,r<=i->i<k->Rk rk (arrOf st') (lo+k)<Rk rk (arrOf st') (lo+i)))
   (Q:=λc st''=>st''=st'/\∃l r,c=(none,l,r)/\l<=k/\
    (∀i,i<l->Rk rk (arrOf st') (lo+i)<=Rk rk (arrOf st') (lo+k))/\(∀i,l<=i->i<k->Rk rk (arrOf st') (lo+k)<Rk rk (arrOf st') (lo+i))) ?istep ?ifin ?iinit) ?ipost)
  case iinit=>exact⟨rfl,0,k,rfl,by lia,by lia,by lia,λi hi=>by lia,λi h1 h2=>by lia⟩
  case ifin=>
   rintro c st'' ⟨rfl,l,r,rfl,hlr,hrk,hm,hlo,hhi⟩;obtain rfl:l=r:=by lia
   exact⟨rfl,l,l,rfl,hrk,hlo,hhi⟩
  case istep=>
   rintro x c st'' _ hxk ⟨rfl,l,r,rfl,hlr,hrk,hm,hlo,hhi⟩;k_in
   by_cases hge:l>=r
   .refine z1U hge ?_;obtain rfl:l=r:=by lia
    exact uG ⟨rfl,l,l,rfl,hrk,hlo,hhi⟩
   .refine z1V hge ?_;refine v5 (z3F hL hB' hk (by lia) ?_)
    by_cases hless:Rk rk (arrOf st'') (lo+k)<Rk rk (arrOf st'') (lo+(l+r) / 2)
    .refine z1U (by simpa using hless) ?_;refine uG ⟨rfl,l,(l+r) / 2,rfl,by lia,by lia,by lia,hlo,λi h1 h2 =>?_⟩;exact wT hless (hs' _ _ (by lia) (by lia) (by lia))
    .refine z1V (by simpa using hless) ?_;refine uG ⟨rfl,(l+r) / 2+1,r,rfl,by lia,by lia,by lia,λi h1 =>?_,hhi⟩;exact wO (hs' (lo+i) (lo+(l+r) / 2) (by lia) (by lia) (by lia)) (Nat.le_of_not_lt hless)
  case ipost=>
   rintro c st'' ⟨rfl,l,r,rfl,hlk,hlo,hhi⟩;k_in;show wpS M A E s (moveDown' _ _ >>= _) _ _;rw[moveDown'_eq];have hks:lo+k<(arrOf st'').size:=by rw[hB'.size];exact hk
   refine v5 (wpS_modify (uG ⟨rfl,hB'.setArr (bubble_perm _ _ _),hp',?_,(z9m hks (by lia) (by lia)).trans hl'⟩));intro i j hi hij hj;show Rk rk (bubble (arrOf st'') (lo+k) (lo+k - (lo+l))) i<=Rk rk (bubble (arrOf st'') (lo+k) (lo+k - (lo+l))) j;rw[z7t hks (by lia),z7t hks (by lia),show lo+k - (lo+k - (lo+l))=lo+l by lia];have hlo':∀i,lo<=i->i<lo+l->Rk rk (arrOf st'') i<=Rk rk (arrOf st'') (lo+k):=λi h1 h2=>by
    have:=hlo (i - lo) (by lia)
    rwa [show lo+(i - lo)=i by lia] at this
   have hhi':∀i,lo+l<=i->i<lo+k->Rk rk (arrOf st'') (lo+k)<Rk rk (arrOf st'') i:=λi h1 h2=>by
    have:=hhi (i - lo) (by lia) (by lia)
    rwa [show lo+(i - lo)=i by lia] at this
   repeat' split
   all_goals first
    | (exfalso;lia)
    | exact wx _
    | exact hlo' _ (by lia) (by lia)
    | exact um (hhi' _ (by lia) (by lia))
    | exact hs' _ _ (by lia) (by lia) (by lia)
def Up (rk:Keyed->Nat)(l:List Keyed):Prop:=l.Pairwise λx y=>rk x<=rk y
def zdo (h:Seg rk a i j)(hj:j<=a.size):Up rk (a.extract i j).toList:=by
 refine ui.mpr λp q hp hq hpq =>?_;have hp':p<(a.extract i j).size:=by rw[<- vA];exact hp
 have hq':q<(a.extract i j).size:=by rw[<- vA];exact hq
 have hsz:(a.extract i j).size=j - i:=by rw[Array.size_extract];lia
 have:=h (i+p) (i+q) (by lia) (by lia) (by lia);rw[z6p (jf a (i+p) (by lia)),z6p (jf a (i+q) (by lia))] at this;simpa[Array.getElem_extract] using this
def z4h (hL:Asks M A s κ a₀ rk){st:SortSt}(hB:TB κ a₀ st)(hp:pendingOf st = #[])(h1:1<=a₀.size)(h64:a₀.size<64)
  (h:∀st',TB κ a₀ st'->Seg rk (arrOf st') 0 a₀.size->Q () st'):wpS M A E s sortRuns' Q st:=by
 refine v5 (wpS_get ?_);k_in;have hz:(PyProof.Rows.arrOf st).size=a₀.size:=hB.size;rw[hz];have emr:minRun' a₀.size a₀.size 0=a₀.size:=by
  cases e:a₀.size with
  | zero=>rfl
  | succ f=>rw[minRun'_succ,if_pos (by lia)]
 delta minRun' at emr
 rw[emr];refine v5 (wpS_mono (Wl
  (I:=λx c st'=>TB κ a₀ st'/\(c=(none,0)/\x=0/\pendingOf st' = #[]\/c=(none,a₀.size)/\(pendingOf st').size=1/\Seg rk (arrOf st') 0 a₀.size))
  (Q:=λc st'=>c=(none,a₀.size)/\TB κ a₀ st'/\(pendingOf st').size=1/\Seg rk (arrOf st') 0 a₀.size) ?step ?fin ⟨hB,.inl ⟨rfl,rfl,hp⟩⟩) ?post)
 case fin=>
  rintro c st' ⟨hB',⟨_,e,_⟩ | ⟨rfl,e,q⟩⟩
  .lia
  .exact⟨rfl,hB',e,q⟩
 case step=>
  rintro x c st' _ hx ⟨hB',⟨rfl,rfl,e⟩ | ⟨rfl,e,q⟩⟩
  .k_in;rw[if_neg (by lia)];refine v5 (z6q hL (by lia) (by lia) hB' λm st1 hB1 hp1 m1 m2 hs1 hl1 =>?_);k_in;refine zf1 (H:=λst2:SortSt=>TB κ a₀ st2/\pendingOf st2 = #[]/\Seg rk (arrOf st2) 0 a₀.size) (P := ?pp1) ?tl1 ?us1
   case us1=>
    intro J
    by_cases c2:m<a₀.size
    .rw[if_pos c2];refine v5 (wpS_lift (jU ⟨rfl,?_⟩));refine v5 (z4K hL (by lia) (by lia) m1 hB1 hs1 λst2 hB2 hp2 hs2 hl2 =>?_);simp only[jW,wZ,uv];rw[show min (a₀.size - 0) a₀.size=a₀.size by lia] at hs2 ⊢;rw[je] at hs2;exact J st2 ⟨hB2,by rw[hp2,hp1,e],hs2⟩
    .rw[if_neg c2];obtain rfl:m=a₀.size:=by lia
     rw[je] at hs1;exact J st1 ⟨hB1,by rw[hp1,e],hs1⟩
   rintro st2 ⟨hB2,hp2,hs2⟩;refine v5 (wpS_get ?_)
   split
   .rename_i eb
    replace eb:(pendingOf st2).back? = some _:=eb
    rw[hp2] at eb
    cases eb
   .refine v5 (wpS_modify (uG ⟨⟨hB2.kind,hB2.failed,hB2.perm⟩,.inr ⟨by rw[je],?_,hs2⟩⟩));show ((pendingOf st2).push _).size=1;rw[hp2]
    rfl
  .k_in;rw[if_pos (wx _)];exact uG ⟨rfl,hB',e,q⟩
 case post=>
  rintro c st' ⟨rfl,hB',hz',hs'⟩;k_in;refine v5 (wpS_mono (Wl (I:=λy c st3=>c=(none,())/\st3=st') (Q:=λc st3=>c=(none,())/\st3=st') ?fstep (λ_ _ z=>z) ⟨rfl,rfl⟩) ?fpost)
  case fpost=>
   rintro c st3 ⟨rfl,rfl⟩;exact uG (h st3 hB' hs')
  case fstep=>
   rintro y c st3 _ _ ⟨rfl,rfl⟩;refine v5 (wpS_get ?_);rw[if_pos (by rw[hz'];exact wx _)];exact uG ⟨rfl,rfl⟩
end
open PySem.W HT
theorem z67:∀k:List Int,z0j k k=false
 | []=>rfl
 | x::xs=>by rw[z1e,if_pos rfl];exact z67 xs
theorem zaK:∀{a b c:List Int},z0j a b=true->z0j b c=true->z0j a c=true
 | [],[],_,h,_=>by cases h
 | [],_::_,[],_,k=>by cases k
 | [],_::_,_::_,_,_=>rfl
 | _::_,[],_,h,_=>by cases h
 | _::_,_::_,[],_,k=>by cases k
 | x::xs,y::ys,z::zs,h,k=>by
  rw[z1e] at h k ⊢
  by_cases e1:x=y
  .subst e1
   by_cases e2:x=z
   .subst e2;rw[if_pos rfl] at h k ⊢;exact zaK h k
   .rw[if_neg e2] at k ⊢;exact k
  .rw[if_neg e1] at h;have h':=ur h
   by_cases e2:y=z
   .subst e2;rw[if_neg e1];exact h
   .rw[if_neg e2] at k;have k':=ur k;rw[if_neg (by omega)];exact vC (by omega)
theorem z7O:∀(a b:List Int),z0j a b=false->z0j b a=false->a=b
 | [],[],_,_=>rfl
 | [],_::_,h,_=>by cases h
 | _::_,[],_,k=>by cases k
 | x::xs,y::ys,h,k=>by
  rw[z1e] at h k
  by_cases e:x=y
  .subst e;rw[if_pos rfl] at h k;rw[z7O xs ys h k]
  .rw[if_neg e] at h;rw[if_neg (vU e)] at k;have h':=jI h;have k':=jI k;omega
def rkL (l:List (List Int))(k:List Int):Nat:=l.countP λq=>z0j q k
def z7d {α:Type}{p q:α->Bool}{l:List α}(h:∀x,p x=true->q x=true){a:α}(ha:a∈l)(hp:p a=false)(hq:q a=true):l.countP p<l.countP q:=by
 induction l with
 | nil=>cases ha
 | cons y l ih=>
  rw[List.countP_cons,List.countP_cons];have hle:l.countP p<=l.countP q:=List.countP_mono_left λx _ hx=>h x hx
  rcases ww.mp ha with rfl | ha
  .rw[hp,hq];simp;omega
  .have:=ih ha
   by_cases py:p y=true
   .rw[py,h y py];simp;omega
   .rw[if_neg py];split <;> omega
def z89 {l:List (List Int)}{a b:List Int}(ha:a∈l)(hb:b∈l):z0j a b=decide (rkL l a<rkL l b):=by
 cases q:z0j a b with
 | true=>
  symm
  apply vC;exact z7d (λx hx=>zaK hx q) ha (z67 a) q
 | false=>
  symm
  apply vG;intro hlt
  cases q2:z0j b a with
  | true=>
   have:=z7d (p:=λx=>z0j x b) (q:=λx=>z0j x a) (λx hx=>zaK hx q2) hb (z67 b) q2;unfold rkL at hlt;omega
  | false=>
   rw[z7O a b q q2] at hlt;omega
section
variable {prog:Program}{w:World}{A:Around}{E:WvP}{s:Shared}
theorem z3f {b fin:Bool}{Q:Bool->Shared->Prop}:∀{vs ws:List Value}{ns ms:List Int}(i:Nat),IntsAre vs ns->IntsAre ws ms->fin=decide (ns.length<ms.length)->Q (z0j ns ms) s->KatLex prog w A b fin Q (vs.zip ws) i s
 | _,_,_,_,i,.nil,.nil,hf,h=>by
  refine kat_nil ?_;rw[hf];exact h
 | _,_,_,_,i,.nil,.cons m u r,hf,h=>by
  refine kat_nil ?_;rw[hf];rw[show decide (([]:List Int).length<(m::_).length)=true by simp];exact h
 | _,_,_,_,i,.cons n t r,.nil,hf,h=>by
  refine kat_nil ?_;rw[hf];rw[show decide ((n::_).length<([]:List Int).length)=false by simp];exact h
 | _,_,_,_,i,.cons n t r,.cons m u r2,hf,h=>by
  refine kat_cons (wpAny_eqBool_int ?_);rw[z1e] at h
  by_cases e:n=m
  .subst e;rw[if_pos rfl] at h;rw[show (n == n)=true by simp];exact kat_yes (z3f (i+1) r r2 (by rw[hf];simp) h)
  .rw[if_neg e] at h;rw[show (n == m)=false by simpa using e];refine kat_no ?_
   cases hb:(b && i == 0) with
   | true=>exact oneLt_int h
   | false=>exact kat_one _ _ (lt_int h)
def TI (h:Heap)(v:Value)(k:List Int):Prop:=∃a o z02 n,v = .ref a/\h.get? a=some o/\o.cls = .type "tuple"/\o.data = .seq z02 n/\IntsAre z02.toList k
def TI.keep {h h':Heap}{v:Value}{k:List Int}(x:TI h v k)(g:∀b o,h.get? b=some o->o.cls = .type "tuple"->h'.get? b=some o):TI h' v k:=by
 obtain⟨a,o,z02,n,e,h1,h2,h3,h4⟩:=x;exact⟨a,o,z02,n,e,g _ _ h1 h2,h2,h3,h4⟩
def zdh {vs:List Value}{key:Value->List Int}(hk:∀v∈vs,TI s.heap v (key v))(b:Bool):Asks (model prog w) A s (tuples' b) (pairsOf vs) (λp=>rkL (vs.map key) (key p.1)):=by
 intro x y hx hy Q E h;rw[pairsOf_toList] at hx hy;have mx:=(mem_zip_self hx).2;have my:=(mem_zip_self hy).2;rw[<- z89 (wv.mpr ⟨_,mx,rfl⟩) (wv.mpr ⟨_,my,rfl⟩)] at h;obtain⟨a1,o1,i1,n1,e1,g1,c1,d1,k1⟩:=hk _ mx;obtain⟨a2,o2,i2,n2,e2,g2,c2,d2,k2⟩:=hk _ my;rw[e1] at h k1;rw[e2] at h k2;rw[e1,e2];exact kat_lt g1 d1 g2 d2 (z3f 0 k1 k2 (by rw[<- IntsAre.length k1, <- IntsAre.length k2,vA,vA]) h)
theorem z4v {h:Heap}{key:Value->List Int}:∀{vs:List Value},(∀v∈vs,TI h v (key v)/\key v≠[])->∃fs:List Value,KatTups h vs fs/\fs.length=vs.length/\∀f∈fs,∃n t,f = .int n t
 | [],_=>⟨[],.nil,rfl,λ_ h=>by cases h⟩
 | v::vs,hk=>by
  obtain⟨fs,q1,q2,q3⟩:=z4v (vs:=vs) (λv hv=>hk v (wm _ hv));obtain⟨⟨a,o,z02,n,e,h1,h2,h3,h4⟩,hne⟩:=hk v (wJ ..);subst e;obtain⟨x,xs,ex⟩:∃x xs,key (.ref a)=x::xs:=by
   cases hq:key (.ref a) with
   | nil=>exact(hne hq).elim
   | cons x xs=>exact⟨x,xs,rfl⟩
  rw[ex] at h4;generalize hi:z02.toList=il at h4
  cases h4 with
  | cons _ t r=>
   refine⟨.int x t::fs,.cons h1 h2 h3 ?_ q1,by simp[q2],λf hf =>?_⟩
   .rw[<- uI,hi];rfl
   .rcases ww.mp hf with rfl | hf
    .exact⟨_,_,rfl⟩
    .exact q3 f hf
def z8r {vs:List Value}{key:Value->List Int}{Q:SortKind->Shared->Prop}(hk:∀v∈vs,TI s.heap v (key v)/\key v≠[])(hne:0<vs.length)(h:Q (tuples' true) s):wpAny (model prog w) A (keyKind' vs.toArray) Q E s:=by
 obtain⟨fs,q1,q2,q3⟩:=z4v hk;refine kat_kind (T :=.type "int") q1 (by omega) (λv hv =>?_) rfl h;obtain⟨n,t,rfl⟩:=q3 v hv;exact Looks.now
def z8e {α:Type}{R:α->α->Prop}{l:List α}(h:l.length<2):l.Pairwise R:=by
 match l,h with
 | [],_=>exact List.Pairwise.nil
 | [x],_=>exact List.pairwise_singleton _ _
def z7r (prog:Program)(w:World)(h:Heap)(vs:List Value)(rk:Value->Nat):Prop:=∀(A:Around) (s:Shared),(∀b o,h.get? b=some o->o.cls = .type "tuple"->s.heap.get? b=some o)->
 Asks (model prog w) A s (tuples' true) (pairsOf vs) (λp=>rk p.1)/\(1<vs.length->∀(Q:SortKind->Shared->Prop) (E:WvP),Q (tuples' true) s->wpAny (model prog w) A (keyKind' vs.toArray) Q E s)
def z7r.keep {h h':Heap}{vs:List Value}{rk:Value->Nat}(x:z7r prog w h vs rk)(k:∀b o,h.get? b=some o->h'.get? b=some o):z7r prog w h' vs rk:=λA s k'=>x A s λb o e c=>k' b o (k b o e) c
def z7r.tups {h:Heap}{vs:List Value}{key:Value->List Int}(hk:∀v∈vs,TI h v (key v)/\key v≠[]):z7r prog w h vs (λv=>rkL (vs.map key) (key v)):=λA s k=>
 ⟨zdh (λv hv=>(hk v hv).1.keep k) true,λhl Q E q=>z8r (λv hv=>⟨(hk v hv).1.keep k,(hk v hv).2⟩) (by omega) q⟩
def z72 {vs:List Value}{rk:Value->Nat}{n:Nat}{P:PySem.Fin->Shared->Prop}(ho:s.heap.get? a=some (seqObj "list" vs.toArray n))(hz:vs.length<=sizeLine)(h64:vs.length<64)
  (hk:z7r prog w s.heap vs rk)
  (h:∀out:List Value,out.Perm vs->out.Pairwise (λx y=>rk x<=rk y)->P (.done (.ret .none)) { s with heap:=sortedHeap s.heap a vs out.toArray }):
  wpAny (model prog w) A (Builtin.«list.sort» ⟨[.ref a],[]⟩) P E s:=by
 rw[list_sort_plain];have ha:a<s.heap.objs.size:=wE ho;refine we (listItems_at ho rfl ?_);refine we (jX ho rfl ?_ (by rw[wD];omega) (vy _));obtain⟨e1,ho1⟩:∃e1,(s.heap.update a (Obj.mapSeq λ_ => #[])).get? a=some (seqObj "list" #[] e1):=⟨_,Wi ho (λ_ => #[])⟩
 refine we (seqEpoch_at ho1 rfl ?_);refine we (wpAny_newTuple ?_ (by show vs.length<=_;omega));refine we (wpAny_newList ?_ (vy _));refine ud ?_;have ho6:(((s.heap.update a (Obj.mapSeq λ_ => #[])).push (seqObj "tuple" vs.toArray 0)).push (seqObj "list" #[] 0)).get? a=some (seqObj "list" #[] e1):=by
  rw[uU _ _ _ (by rw[size_push',u6];exact wV (uq ha)),uU _ _ _ (by rw[u6];exact wV ha)];exact ho1
 have keep:∀b o,s.heap.get? b=some o->o.cls = .type "tuple"->(((s.heap.update a (Obj.mapSeq λ_ => #[])).push (seqObj "tuple" vs.toArray 0)).push (seqObj "list" #[] 0)).get? b=some o:=λb o hb hc=>by
  have hlt:b<s.heap.objs.size:=wE hb;have hne:b≠a:=by
   rintro rfl;rw[ho] at hb
   cases hb
   exact absurd (show Value.type "list"=Value.type "tuple" from hc) (by decide)
  rw[uU _ _ _ (by rw[size_push',u6];exact wV (uq hlt)),uU _ _ _ (by rw[u6];exact wV hlt),v8 _ _ _ _ hne];exact hb
 show wpAny (model prog w) A _ P E { s with heap:=((s.heap.update a (Obj.mapSeq λ_ => #[])).push (seqObj "tuple" vs.toArray 0)).push (seqObj "list" #[] 0) };k_in;have hsz:vs.toArray.size=vs.length:=by simp
 have snd:∀st':SortSt,(arrOf st').Perm (pairsOf vs)->∃out:List Value,(arrOf st').map (·.2)=out.toArray/\out.Perm vs/\(arrOf st').toList.map (·.1)=out:=λst' hp=>by
  refine⟨(arrOf st').toList.map (·.2),?_,?_,?_⟩
  .apply Array.toList_inj.mp;rw[Array.toList_map]
  .have:=(u4.mp hp).map (·.2);rw[pairsOf_toList] at this;refine this.trans ?_;rw[List.map_snd_zip (wx _)]
  .apply List.map_congr_left;intro p hp';have:=(u4.mp hp).mem_iff.mp hp';rw[pairsOf_toList] at this;exact(mem_zip_self this).1
 have outsz:∀st':SortSt,(arrOf st').Perm (pairsOf vs)->((arrOf st').map (·.2)).size<=sizeLine:=λst' hp=>by
  rw[Array.size_map,hp.size_eq,pairsOf_size];exact hz
 by_cases h2:vs.toArray.size<2
 .rw[if_pos h2,if_pos h2];refine we (wj ?_);rw[StateT.run_pure];refine we (wj ?_);k_in;refine we (seqEpoch_at ho6 rfl ?_);have hp0:(arrOf (SortSt.mk' general' (vs.toArray.zip vs.toArray) #[] 7 none)).Perm (pairsOf vs):=Array.Perm.refl _;refine we (jX ho6 rfl ?_ (vy _) (jS (outsz _ hp0)));simp only[bne_self_eq_false,wZ,uv];obtain⟨out,o1,o2,o3⟩:=snd _ hp0;have ee:sortedHeap s.heap a vs out.toArray=sortedHeap s.heap a vs ((arrOf (SortSt.mk' general' (vs.toArray.zip vs.toArray) #[] 7 none)).map (·.2)):=by rw[o1]
  have hfin:=h out o2 (by
   have hl:out.length<2:=by rw[o2.length_eq];omega
   exact z8e hl)
  rw[ee] at hfin;exact wj hfin
 .rw[if_neg h2,if_neg h2];obtain⟨ka,kk⟩:=hk A { s with heap:=((s.heap.update a (Obj.mapSeq λ_ => #[])).push (seqObj "tuple" vs.toArray 0)).push (seqObj "list" #[] 0) } keep;refine we (kk (by omega) _ _ ?_);refine we (vK (z4h (a₀:=pairsOf vs) (κ:=tuples' true) (rk:=λp=>rk p.1) (st:=SortSt.mk' (tuples' true) (vs.toArray.zip vs.toArray) #[] 7 none)
   (Q:=λ_ st'=>TB (tuples' true) (pairsOf vs) st'/\Seg (λp=>rk p.1) (arrOf st') 0 (pairsOf vs).size)
   ka ⟨rfl,rfl,Array.Perm.refl _⟩ rfl (by rw[pairsOf_size];omega) (by rw[pairsOf_size];exact h64) λst' b1 b2=>⟨b1,b2⟩) ?_ λ_ _ e=>e)
  rintro⟨⟨⟩,st'⟩ s' ⟨rfl,hB,hs⟩;dsimp only at hB hs ⊢;refine we (seqEpoch_at ho6 rfl ?_);refine we (jX ho6 rfl ?_ (vy _) (jS (outsz st' hB.perm)));rw[hB.failed];simp only[bne_self_eq_false,wZ,uv];obtain⟨out,o1,o2,o3⟩:=snd st' hB.perm;have hfin:=h out o2 (by
   have hup:Up (λp=>rk p.1) (arrOf st').toList:=by
    have:=zdo hs (by rw[hB.perm.size_eq];exact wx _);rw[<- hB.perm.size_eq] at this;o_rec
   rw[<- o3];exact vp.mpr hup)
  rw[<- o1] at hfin;exact wj hfin
def zio (prog:Program)(w:World)(rk:Value->Nat)(Q:WvP)(vs:List Value)(s1:Shared):Prop:=
 vs.length<64/\z7r prog w s1.heap vs rk/\∀out:List Value,out.Perm vs->out.Pairwise (λx y=>rk x<=rk y)->
  ∀h',(∀b o,s1.heap.get? b=some o->h'.get? b=some o)->(∃e,h'.get? s1.heap.objs.size=some (seqObj "list" out.toArray e))->Q (.ref s1.heap.objs.size) { s1 with heap:=h' }
def z9E {v:Value}(hcol:∀E',wpAny (model prog w) A.in1 (collect v) (λvs s1=>∃rk,zio prog w rk Q vs s1) E' s):wpAny (model prog w) A (call (.builtin "sorted") [v]) Q E s:=by
 refine Calls.call_function_entry kind_sorted plain_sorted entry_sorted (args_sorted1 _) ?_;unfold Builtin.«sorted»;refine we (m:=checkCount "sorted" 1 1 _) (wj ?_);refine we (vK (hcol _) (λvs s1 q =>?_) λ_ _ e=>e);obtain⟨rk,h64,hk,h⟩:=q;have hz:vs.length<=sizeLine:=wO (um h64) (by decide);refine we (wpAny_newList ?_ hz);have hoL:(s1.heap.push (seqObj "list" vs.toArray 0)).get? s1.heap.objs.size=some (seqObj "list" vs.toArray 0):=wA _ rfl;have keep:∀b o,s1.heap.get? b=some o->(s1.heap.push (seqObj "list" vs.toArray 0)).get? b=some o:=λb o q=>wo _ q;show wpAny _ _ _ _ _ { s1 with heap:=s1.heap.push (seqObj "list" vs.toArray 0) };refine we (ud (v9 slot_list_sort ⟨_,hoL,rfl⟩ entry_list_sort (z72 hoL hz h64 (hk.keep keep) λout o1 o2=>⟨_,rfl,?_⟩) (args_list_sort _)));refine wj ⟨_,rfl,h out o1 o2 _ (λb o g =>?_) ?_⟩
 .have hlt:b<s1.heap.objs.size:=wE g;rw[sortedHeap_old (wV hlt) (by rw[size_push'];exact uq hlt)];exact keep b o g
 .exact sortedHeap_at hoL
def zin (key:Value->List Int)(Q:WvP)(vs:List Value)(s1:Shared):Prop:=
 vs.length<64/\(∀x∈vs,TI s1.heap x (key x)/\key x≠[])/\∀out:List Value,out.Perm vs->out.Pairwise (λx y=>z0j (key y) (key x)=false)->
  ∀h',(∀b o,s1.heap.get? b=some o->h'.get? b=some o)->(∃e,h'.get? s1.heap.objs.size=some (seqObj "list" out.toArray e))->Q (.ref s1.heap.objs.size) { s1 with heap:=h' }
def z7y {v:Value}(hcol:∀E',wpAny (model prog w) A.in1 (collect v) (zin key Q) E' s):wpAny (model prog w) A (call (.builtin "sorted") [v]) Q E s:=
 z9E λE'=>vK (hcol E') (λvs s1 ⟨hz,hk,h⟩=>⟨_,hz,z7r.tups hk,λout o2 pw=>h out o2 (pw.imp_of_mem λ{x y} hx hy hxy=>by
  rw[z89 (wv.mpr ⟨_,o2.mem_iff.mp hy,rfl⟩) (wv.mpr ⟨_,o2.mem_iff.mp hx,rfl⟩)];exact vG (Nat.not_lt.mpr hxy))⟩) λ_ _ e=>e
end
end Tim
namespace Tab
open PySem PySem.SetTable PyProof.Rows
def z50:entryFor table "set.__iter__"=some Builtin.«frozenset.__iter__»:=
 entryFor_alias (id':="frozenset.__iter__") (by kernel_rfl) rfl (by decide +kernel) (by kernel_rfl)
def z1d:Slot "set_iterator" "__next__" "set_iterator.__next__":=
 .of (owner:="set_iterator") (n:="__next__") (by rw[typeLookup_type,jO];kernel_rfl) (by decide +kernel) (by decide +kernel) (by decide +kernel)
  (by first | exact .inl (by decide +kernel) | exact .inr (by decide +kernel)) (by rw[jZ];kernel_rfl)
def z3X:Slot "set_iterator" "__iter__" "set_iterator.__iter__":=
 .of (owner:="set_iterator") (n:="__iter__") (by rw[typeLookup_type,jO];kernel_rfl) (by decide +kernel) (by decide +kernel) (by decide +kernel)
  (by first | exact .inl (by decide +kernel) | exact .inr (by decide +kernel)) (by rw[jZ];kernel_rfl)
def z3y:entryFor table "set_iterator.__next__"=some Builtin.«set_iterator.__next__»:=entryFor_of_fast (by kernel_rfl)
def z41 (a:Value):argsOk "set_iterator.__next__" ⟨[a],[]⟩:=by unfold argsOk;kernel_rfl
section
variable {prog:Program}{w:World}{A:Around}{E:WvP}{s:Shared}
def z26 (h:Heap)(it S:Addr)(slot i n ep:Nat):Prop:=∃o,h.get? it=some o/\o.cls = .type "set_iterator"/\o.data = .fields #[.int slot 0,.int i 0,.ref S,.int n 0,.int ep 0]
def z26.typeIs {it S:Addr}{slot i n ep:Nat}(x:z26 s.heap it S slot i n ep):s.TypeIs (.ref it) "set_iterator":=let ⟨o,ho,hc,_⟩:=x;⟨o,ho,hc⟩
def z43 (ho:s.heap.get? S=some o)(hc:o.cls = .type "set")(hd:o.data = .set es ep t)(hf:t.fits es.size=true)(hp:t.plain=true)
  (h:Q (.ref s.heap.objs.size) { s with heap:=s.heap.push { cls :=.type "set_iterator",data :=.fields #[.int 0 0,.int 0 0,.ref S,.int es.size 0,.int ep 0] } }):wpAny (model prog w) A (pyIter (.ref S)) Q E s:=by
 have hT:s.TypeIs (.ref S) "set":=⟨o,ho,hc⟩
 refine wpAny_pyIter_slot hT F.slot_set_iter (v9 F.slot_set_iter hT z50 ?_ (F.args_set_iter_1 _));show wpAny _ _ (Builtin.Frozenset.sizeOf S >>= _) _ _ s;unfold Builtin.Frozenset.sizeOf setEntries setDrawn setEpoch;refine we (we (we (vR ho hd hf (wj (wj ?_)))));refine we (we (vR ho hd hf ?_));show wpAny _ _ (setsByText >>= λbyText=>pure (!byText && (!t.plain && decide (es.size > 1)))) _ _ s;unfold setsByText;refine we (we (j7 (wj (wj ?_))));rw[hp];simp only[jW,Bool.false_and,Bool.and_false,wZ,uv];refine we (wj (we (we (vR ho hd hf (wj ?_)))));exact we (vo (wj ⟨_,rfl,"set_iterator",_,⟨_,wA _ rfl,rfl⟩,z1d.lookup,h⟩))
def nxt (w:World)(S:Addr)(es:Array (Int × Value))(ep:Nat)(t:SetTable)(slot i:Nat):Option (Value × Nat):=
 if w.params.followText "set-order"=true then ((pickOrder (w.params.setOrder S ep) es)[i]?).map λe=>(e.2,slot) else
  match es[below t.place slot]?, t.place[below t.place slot]? with
  | some (_,x),some j=>some (x,j+1)
  | _,_=>none
def z3i {ep:Nat}{slot i:Nat}(ho:s.heap.get? S=some o)(hd:o.data = .set es ep t)(hf:t.fits es.size=true)(hp:t.plain=true)(hl:t.led = !w.params.followText "set-order")
  (h:Q (nxt w S es ep t slot i) s):wpAny (model prog w) A (setNext S slot i ep) Q E s:=by
 unfold setNext;refine we (vR ho hd hf ?_);show wpAny _ _ (setsByText >>= _) _ _ s;unfold setsByText;refine we (we (j7 (wj ?_)));unfold nxt at h
 by_cases c:w.params.followText "set-order"=true
 .have c':(model prog w).w.params.followText "set-order"=true:=c;rw[if_pos c] at h;rw[if_pos c'];rw[if_neg (by simp)];unfold setWalk;refine we (we (vR ho hd hf ?_));show wpAny _ _ (setsByText >>= _) _ _ s;unfold setsByText;refine we (we (j7 (wj ?_)));rw[if_pos c'];exact we (j7 (wj (wj h)))
 .have c':¬ (model prog w).w.params.followText "set-order"=true:=c;rw[if_neg c] at h;rw[if_neg c'];have hled:t.led=true:=by rw[hl];simpa using c
  show wpAny _ _ (if (!t.plain && decide (es.size > 1))=true then _ else _) _ _ s;rw[hp,if_neg (by simp)];show wpAny _ _ ((if (!t.led && !es.isEmpty)=true then unsupported "set:maker-not-led" else pure PUnit.unit) >>= _) _ _ s;rw[hled,if_neg (by simp)];exact we (wj (wj h))
def z2H {ep:Nat}{slot i slot':Nat}(hit:z26 s.heap it S slot i es.size ep)
  (ho:s.heap.get? S=some o) (hd:o.data = .set es ep t) (hf:t.fits es.size=true) (hp:t.plain=true) (hl:t.led = !w.params.followText "set-order") (hx:nxt w S es ep t slot i=some (x,slot'))
  (hQ:∀h',z26 h' it S slot' (i+1) es.size ep->Heap.SameBut it s.heap h'->Q (some x) { s with heap:=h' }):wpAny (model prog w) A (pyNext (.ref it)) Q E s:=by
 obtain⟨oi,hoi,hci,hdi⟩:=id hit;unfold pyNext;refine we (Wh (vW (name:=Str.ofString "__next__") hit.typeIs z1d
  (v9 z1d hit.typeIs z3y ?_ (z41 _))))
 show wpAny _ _ (fieldsOf (.ref it) >>= _) _ _ s;refine we (wpAny_fieldsOf hoi hdi ?_);show wpAny _ _ (setEntries S >>= _) _ _ s;unfold setEntries;refine we (we (vR ho hd hf (wj ?_)));rw[if_neg (by simp)];show wpAny _ _ (setNext S (slot:Int).toNat (i:Int).toNat (ep:Int).toNat >>= _) _ _ s;simp only[Int.toNat_natCast];refine we (z3i ho hd hf hp hl ?_);rw[hx];k_in;refine we (Wj hoi hdi (by simp) ?_);have g1:=vT (Obj.mapFields (·.setIfInBounds 0 (rawInt (slot':Int)))) hoi (Obj.isFreed_of_fields (ux hdi _));refine we (Wj g1 (ux hdi _) (by simp) ?_);refine wj ⟨x,rfl,wj (hQ _ ?_ ((uE ..).trans (uE ..)))⟩;refine⟨_,vT _ g1 (Obj.isFreed_of_fields (ux (ux hdi _) _)),((Obj.cls_mapFields ..).trans (Obj.cls_mapFields ..)).trans hci,?_⟩;rw[ux (ux hdi _)];simp[rawInt]
def z34 {ep:Nat}{slot i:Nat}(hh:A.handled=none)(hit:z26 s.heap it S slot i es.size ep)
  (ho:s.heap.get? S=some o) (hd:o.data = .set es ep t) (hf:t.fits es.size=true) (hp:t.plain=true) (hl:t.led = !w.params.followText "set-order") (hx:nxt w S es ep t slot i=none)
  (hQ:∀h',Heap.ExtBut it s.heap h'->Q none { s with heap:=h' }):wpAny (model prog w) A (pyNext (.ref it)) Q E s:=by
 obtain⟨oi,hoi,hci,hdi⟩:=id hit;unfold pyNext;refine we (Wh (vW (name:=Str.ofString "__next__") hit.typeIs z1d
  (v9 z1d hit.typeIs z3y ?_ (z41 _))))
 show wpAny _ _ (fieldsOf (.ref it) >>= _) _ _ s;refine we (wpAny_fieldsOf hoi hdi ?_);show wpAny _ _ (setEntries S >>= _) _ _ s;unfold setEntries;refine we (we (vR ho hd hf (wj ?_)));rw[if_neg (by simp)];show wpAny _ _ (setNext S (slot:Int).toNat (i:Int).toNat (ep:Int).toNat >>= _) _ _ s;simp only[Int.toNat_natCast];refine we (z3i ho hd hf hp hl ?_);rw[hx];k_in;refine we (Wj hoi hdi (by simp) ?_);show wpAny _ _ (newExc (.type "StopIteration") [] >>= _) _ _ _;refine we ?_;simp only[newExc,newTuple];refine we (vo ?_ (by size_fits));refine we (m:=firstArgMember _ _) (wpAny_of_eq (a:=Value.none) (by first | rfl | (simp only[firstArgMember];rfl)) ?_);refine vo ?_ (by size_fits);simp only[raiseNew];refine we (wpAny_handled ?_)
 first | rw[show A.in1.handled=none from hh] | rw[hh]
 refine we (wj (wpAny_throw ?_));refine we (wpAny_isInstance (T:="StopIteration") (b:=true) ⟨_,wA _ rfl,rfl⟩ isSubtype_stop ?_);exact wj (hQ _ (((uE ..).extBut.push _).push _))
end
theorem z6K {α:Type}(next:Nat->Nat):∀(n k:Nat) (left:List α) (out:Array α),left.length=n->(pickOrder.go next n k left out).toList.Perm (out.toList++left)
 | 0,k,left,out,h=>by
  rw[List.eq_nil_of_length_eq_zero h,v6];exact jY _
 | n+1,k,left,out,h=>by
  have hlt:next k % left.length<left.length:=ut _ (by lia);rw[pickOrder.go,wp hlt];refine(z6K next n (k+1) _ _ (by rw[List.length_eraseIdx_of_lt hlt];lia)).trans ?_;rw[Array.toList_push,vZ];refine jg _ ?_;show (left[next k % left.length]::left.eraseIdx (next k % left.length)).Perm left;rw[List.eraseIdx_eq_take_drop_succ];refine(List.perm_middle.symm).trans ?_;rw[<- vJ hlt,jM]
def z4N {α:Type}(next:Nat->Nat)(xs:Array α):(pickOrder next xs).toList.Perm xs.toList:=by
 have:=z6K next xs.size 0 xs.toList #[] (by simp);simpa[pickOrder] using this
def ordE (w:World)(S:Addr)(es:Array (Int × Value))(ep:Nat):Array (Int × Value):=if w.params.followText "set-order"=true then pickOrder (w.params.setOrder S ep) es else es
def z6P (w:World)(S:Addr)(es:Array (Int × Value))(ep:Nat):(ordE w S es ep).toList.Perm es.toList:=by
 unfold ordE
 split
 .exact z4N _ _
 .exact jY _
def z4q (w:World)(S:Addr)(es:Array (Int × Value))(ep:Nat):(ordE w S es ep).size=es.size:=by
 rw[<- vA,(z6P w S es ep).length_eq,vA]
def z4n (w:World)(t:SetTable)(i:Nat):Nat:=if w.params.followText "set-order"=true then 0 else if i=0 then 0 else t.place.getD (i - 1) 0+1
def z5w {t:SetTable}(hr:Rise t.place){i:Nat}(hi:i<=t.place.size):below t.place (if i=0 then 0 else t.place.getD (i - 1) 0+1)=i:=by
 obtain⟨h1,h2,h3⟩:=z3U hr (if i=0 then 0 else t.place.getD (i - 1) 0+1);generalize below t.place (if i=0 then 0 else t.place.getD (i - 1) 0+1)=k at*
 by_cases e:i=0
 .subst e;rw[if_pos rfl] at h2
  by_cases z:k=0
  .exact z
  .have:=h2 0 (by lia);lia
 .rw[if_neg e] at h2 h3
  by_cases c:k<i
  .have:=h3 (i - 1) (by lia) (by lia);lia
  .by_cases c2:i<k
   .have a1:=h2 i c2;have a2:=hr (i - 1) i (by lia) (by lia);lia
   .lia
def zcE (hr:Rise t.place)(hsz:t.place.size=es.size)(hi:i<es.size):
  ∃e,(ordE w S es ep)[i]? = some e/\nxt w S es ep t (z4n w t i) i=some (e.2,z4n w t (i+1)):=by
 have hlt:i<(ordE w S es ep).size:=by rw[z4q];exact hi
 refine⟨(ordE w S es ep)[i],jf _ i hlt,?_⟩;unfold nxt z4n
 by_cases c:w.params.followText "set-order"=true
 .simp only[if_pos c];have e1:ordE w S es ep=pickOrder (w.params.setOrder S ep) es:=by unfold ordE;rw[if_pos c]
  rw[<- e1,jf _ i hlt]
  rfl
 .simp only[if_neg c];have e1:ordE w S es ep=es:=by unfold ordE;rw[if_neg c]
  rw[z5w hr (by lia),jf es i hi,zjW (xs:=t.place) (by lia)];simp only[Nat.add_sub_cancel,if_neg (Nat.succ_ne_zero i)]
  congr 1
  simp only[e1]
def zf6 (hr:Rise t.place)(hsz:t.place.size=es.size):nxt w S es ep t (z4n w t es.size) es.size=none:=by
 unfold nxt z4n
 by_cases c:w.params.followText "set-order"=true
 .simp only[if_pos c];have e1:ordE w S es ep=pickOrder (w.params.setOrder S ep) es:=by unfold ordE;rw[if_pos c]
  rw[<- e1,getElem?_neg _ _ (by rw[z4q];lia)]
  rfl
 .simp only[if_neg c];rw[z5w hr (by lia),getElem?_neg es es.size (by lia)]
def z6f:entryFor table "set_iterator.__iter__"=some Builtin.«dict_keyiterator.__iter__»:=
 entryFor_alias (id':="dict_keyiterator.__iter__") (by kernel_rfl) rfl (by decide +kernel) (by kernel_rfl)
def z7p (a:Value):argsOk "set_iterator.__iter__" ⟨[a],[]⟩:=by unfold argsOk;kernel_rfl
section
variable {prog:Program}{w:World}{A:Around}{E:WvP}{s:Shared}
def z4i {slot i n ep:Nat}(hit:z26 s.heap it S slot i n ep)(h:Q (.ref it) s):wpAny (model prog w) A (pyIter (.ref it)) Q E s:=by
 refine wpAny_pyIter_slot hit.typeIs z3X (v9 z3X hit.typeIs z6f ?_ (z7p _));show wpAny _ _ (ret (.ref it)) _ _ s;exact wj ⟨_,rfl,"set_iterator",_,hit.typeIs,z1d.lookup,h⟩
theorem Walks.set (hh:A.handled=none)(I S:Addr)(hne:S≠I){o:Obj}{es:Array (Int × Value)}{ep:Nat}{t:SetTable}(hd:o.data = .set es ep t)(hf:t.fits es.size=true)(hp:t.plain=true)(hl:t.led = !w.params.followText "set-order")(hr:Rise t.place)(hsz:t.place.size=es.size):
  Walks prog w A I [I,S] [I] es.size (λi v=>∃e,(ordE w S es ep)[i]? = some e/\v=e.2) (λi h=>z26 h I S (z4n w t i) i es.size ep/\h.get? S=some o) where
 sub:=λb hb=>by simp at hb;simp[hb]
 frame:=λi h h' st hk=>⟨let ⟨o',g1,g2⟩:=st.1;⟨o',hk I (by simp) _ g1,g2⟩,hk S (by simp) _ st.2⟩
 item:=λi s Q E hi st hQ=>by
  obtain⟨e,e1,e2⟩:=zcE (w:=w) (S:=S) (ep:=ep) hr hsz hi;refine z2H st.1 st.2 hd hf hp hl e2 λh' hit' hs' =>?_;exact hQ _ h' s.toks ⟨e,e1,rfl⟩ ⟨hit',hs'.extBut S _ hne st.2⟩ λb o hb e=>hs'.extBut b o (λh=>hb (by simp[h])) e
 done:=λs Q E st hQ=>z34 hh st.1 st.2 hd hf hp hl (zf6 hr hsz) λh' he'=>hQ h' s.toks λb o hb e=>he' b o (λh=>hb (by simp[h])) e
 self:=λ_ _ _ _ st hQ=>z4i st.1 hQ
def z7T (hh:A.handled=none)(ho:s.heap.get? S=some o)(hc:o.cls = .type "set")(hd:o.data = .set es ep t)(hf:t.fits es.size=true)(hp:t.plain=true)(hl:t.led = !w.params.followText "set-order")(hr:Rise t.place)(hsz:t.place.size=es.size)(hz:es.size<=sizeLine)
  (h:∀s',(∀b o,s.heap.get? b=some o->s'.heap.get? b=some o)->s'.gens=s.gens->s'.drawn=s.drawn->s'.os=s.os->s.toks<=s'.toks->Q ((ordE w S es ep).toList.map (·.2)) s'):wpAny (model prog w) A (collect (.ref S)) Q E s:=by
 have hlt:S<s.heap.objs.size:=wE ho;unfold collect;refine we (wpAny_runValue (uW F.entry_proto_collect ?_));rw[uy F.plain_proto_collect _];show wpAny _ A.in1 (newList [] >>= λl=>again (.builtin "list.__iadd__" ⟨[l,.ref S],[]⟩)) _ _ s;refine we (vo ?_);refine wj ⟨uR F.plain_list_iadd _,uW F.entry_list_iadd ?_⟩;rw[uy F.plain_list_iadd _];show wpAny _ A.in1 (Builtin.List.listExtendWith (.ref s.heap.objs.size) (.ref S) (.ref s.heap.objs.size)) _ _ _;unfold Builtin.List.listExtendWith;have ho1:(s.heap.push { cls :=.type "list",data :=.seq ([]:List Value).toArray }).get? S=some o:=wo _ ho;have hT1:Shared.TypeIs { s with heap:=s.heap.push { cls :=.type "list",data :=.seq ([]:List Value).toArray } } (.ref S) "set":=⟨o,ho1,hc⟩
 refine we (Wa hT1 ?_);have h1:Builtin.List.listSameRef (.ref s.heap.objs.size) (.ref S)=false:=by simp[Builtin.List.listSameRef];exact j9 hlt
 have h2:(Value.type "set" == Value.type "list")=false:=by decide
 have h3:(Value.type "set" == Value.type "tuple")=false:=by decide
 simp only[h1,h2,h3,Bool.or_false,wZ,uv];refine we (z43 ho1 hc hd hf hp ?_);refine we (ud ?_);generalize hH:s.heap.push { cls :=.type "list",data :=.seq ([]:List Value).toArray }=H at*;have hHs:H.objs.size=s.heap.objs.size+1:=by rw[<- hH,uF]
 k_in;have hT2:Shared.TypeIs { s with heap:=H.push { cls :=.type "set_iterator",data :=.fields #[.int 0 0,.int 0 0,.ref S,.int es.size 0,.int ep 0] } } (.ref S) "set":=⟨o,wo _ ho1,hc⟩
 unfold Builtin.List.listLengthHint;refine we (wpAny_specialOf hT2 F.slot_set_len.lookup ?_)
 wp_delta
 refine we (wpAny_isInstance (b:=true) hT2 (by rw[jZ];kernel_rfl) ?_);show wpAny _ A.in1 (typeOf (Value.ref S) >>= _) _ _ _;refine we (Wa hT2 ?_);refine wj ?_;rw[if_pos (by decide)];refine we (jU ?_);refine we ?_;show wpAny _ A.in1 (updateSeq s.heap.objs.size (·.push .none) >>= λ_=>updateSeq s.heap.objs.size (·.pop)) _ _ _;generalize hO:({ cls :=.type "set_iterator",data :=.fields #[.int 0 0,.int 0 0,.ref S,.int es.size 0,.int ep 0] }:Obj)=io at*;have hS₁:(H.push io).get? s.heap.objs.size=some { cls :=.type "list",data :=.seq ([]:List Value).toArray }:=wo _ (hH ▸ wA _ rfl);refine we (jP hS₁ rfl ?_);have hS₂:=vT (Obj.mapSeq (·.push Value.none)) hS₁ rfl;refine jP hS₂ rfl ?_;have hS₃:=vT (Obj.mapSeq (·.pop)) hS₂ rfl;have oth:∀b o,b≠s.heap.objs.size->(H.push io).get? b=some o->(((H.push io).update s.heap.objs.size (Obj.mapSeq (·.push Value.none))).update s.heap.objs.size (Obj.mapSeq (·.pop))).get? b=some o:=
  λb o hb e=>(v4 _ _ (vU hb)).trans ((v4 _ _ (vU hb)).trans e)
 have hneS:S≠s.heap.objs.size:=wV hlt;have hneI:H.objs.size≠s.heap.objs.size:=by rw[hHs];exact j9 (j5 _)
 have hSI:S≠H.objs.size:=by rw[hHs];exact wV (uq hlt)
 have hSf:s.heap.objs.size ∉ [H.objs.size,S]:=by
  simp only[ww,vn,jc,not_or];exact⟨vU hneI,vU hneS⟩
 have hio:(H.push io).get? H.objs.size=some io:=wA _ (by rw[<- hO];rfl);refine wj ⟨uR F.plain_extend_loop _,codeAny_extend_loopS (Walks.set (A:=A.in1) (w:=w) (prog:=prog) hh H.objs.size S hSI hd hf hp hl hr hsz).toS hz _ hSf _ es.size 0 _ _ _ rfl (vy _)
  ⟨⟨io,oth _ _ hneI hio,by rw[<- hO],by rw[<- hO];simp[z4n]⟩,oth _ _ hneS (wo _ ho1)⟩ hS₃ (ItemsOf.nil _) λs' acc' c' hm hS' hacc =>?_⟩
 show wpAny _ A (load s.heap.objs.size >>= _) _ _ s';refine we (wpAny_load hS' ?_);have hq:acc'.toList=(ordE w S es ep).toList.map (·.2):=by
  apply List.ext_getElem?;intro k;rw[uI,wB,uI]
  by_cases hk:k<es.size
  .have hk':k<acc'.size:=by rw[hacc.1];exact hk
   obtain⟨e,e1,e2⟩:=hacc.2 k acc'[k] (jf acc' k hk');rw[jf acc' k hk',e1,e2];rfl
  .rw[getElem?_neg acc' k (by rw[hacc.1];exact hk),getElem?_neg (ordE w S es ep) k (by rw[z4q];exact hk)];rfl
 have hfin:=h s' (λb ob e=>hm.heap b ob (λhb =>?_) (oth b ob (wV (wE e)) (wo _ (hH ▸ wo _ e)))) hm.gens hm.drawn hm.os hm.toks
 .rw[<- hq] at hfin;exact wj hfin
 .have hlt:=wE e
  rcases ww.mp hb with h | h
  .exact absurd hlt (h ▸ uj _)
  .rw[wq.mp h,hHs] at hlt;exact absurd hlt (Nat.not_lt.mpr (Nat.le_succ _))
def z99 {k:List Int}{vs:List Value}(h:ItemsAre (intKind prog w) k vs):IntsAre vs k:=by
 induction h with
 | nil=>exact .nil
 | cons h1 _ ih=>
  obtain⟨t,rfl⟩:=Value.isInt_shape h1;exact .cons _ _ ih
def TK.ti {k:List Int}(x:TK prog w h k b):Tim.TI h (.ref b) k:=by
 obtain⟨o,z02,n,h1,h2,h3,h4⟩:=x;exact⟨b,o,z02,n,rfl,h1,h2,h3,z99 h4⟩
def zfL {v:Value}{k k':List Int}(x:Tim.TI h v k)(y:Tim.TI h v k'):k=k':=by
 obtain⟨a,o,z02,n,e,h1,h2,h3,h4⟩:=x;obtain⟨a',o',items',n',e',g1,g2,g3,g4⟩:=y;rw[e] at e';cases e';rw[h1] at g1;cases g1;rw[h3] at g3;cases g3;exact(IntsAre.nums h4).symm.trans (IntsAre.nums g4)
def z27 (h:Heap)(v:Value):List Int:=by
 classical exact if c:∃k,Tim.TI h v k then c.choose else []
def z3u {v:Value}{k:List Int}(x:Tim.TI h v k):z27 h v=k:=by
 unfold z27;have c:∃k,Tim.TI h v k:=⟨k,x⟩
 rw[dif_pos c];exact zfL c.choose_spec x
def zbC (t:Two (IsK prog w M h) l m):l.map (z27 h)=m:=by
 induction t with
 | nil=>rfl
 | cons h1 _ ih=>
  obtain⟨_,b,rfl,z⟩:=h1;rw[ve,ih,z3u (TK.ti z)]
def z8P (hh:A.handled=none)(x:SetK prog w M s.heap S kl)(hne:∀k∈kl,k≠[])(hz:kl.length<64)
  (h:∀s' (out:List Value),(∀b o,s.heap.get? b=some o->s'.heap.get? b=some o)->s'.gens=s.gens->s'.drawn=s.drawn->s'.os=s.os->s.toks<=s'.toks->
   (out.map (z27 s.heap)).Perm kl->(∀v∈out,M v/\Tim.TI s.heap v (z27 s.heap v))->(out.map (z27 s.heap)).Pairwise (λa b=>HT.z0j b a=false)->
   ∀D,s.heap.get? D=none->(∃e,s'.heap.get? D=some (seqObj "list" out.toArray e))->Q (.ref D) s'):wpAny (model prog w) A (call (.builtin "sorted") [.ref S]) Q E s:=by
 obtain⟨L,hL,h2,hlen⟩:=x.len;obtain⟨o,es,ep,t,y,_⟩:=hL.ex;have esz:es.size=L.length:=by rw[y.tab.es];simp
 have hkeys:=zbC h2;have hti:∀v∈L.map (·.2.2),Tim.TI s.heap v (z27 s.heap v):=λv hv=>by
  obtain⟨k,_,_,b,rfl,z⟩:=h2.mem_left hv;rw[z3u (TK.ti z)];exact TK.ti z
 have hvs:((ordE w S es ep).toList.map (·.2)).Perm (L.map (·.2.2)):=by
  refine((z6P w S es ep).map (·.2)).trans ?_;rw[y.tab.es];simp only[vM];exact jY _
 refine Tim.z7y (key:=z27 s.heap) λE' =>?_;refine z7T (A:=A.in1) hh y.get y.ex.1 y.data y.fits y.plain y.led y.tab.riseP (by rw[y.tab.place,esz];simp) (wO (show es.size<=64 by omega) (by decide)) λs1 k1 g1 g2 g3 g4 =>?_;refine⟨by rw[hvs.length_eq,wg];lia,λv hv =>?_,λout p1 p2 h' keep hD =>?_⟩
 .have hv':=hvs.mem_iff.mp hv;refine⟨(hti v hv').keep λb o g _=>k1 b o g,hne _ ?_⟩;rw[<- hkeys];exact wv.mpr ⟨v,hv',rfl⟩
 .refine h { s1 with heap:=h' } out (λb o g=>keep b o (k1 b o g)) g1 g2 g3 g4 ?_ (λv hv=>⟨(h2.mem_left (hvs.mem_iff.mp (p1.mem_iff.mp hv))).choose_spec.2.1,hti v (hvs.mem_iff.mp (p1.mem_iff.mp hv))⟩) (vp.mpr p2) s1.heap.objs.size ?_ hD
  .rw[<- hkeys];exact(p1.trans hvs).map _
  .cases hq:s.heap.get? s1.heap.objs.size with
   | none=>rfl
   | some o=>exact absurd (wE (k1 _ _ hq)) (uj _)
end
end Tab
namespace Pu
open PySem PySem.Spec PyProof.Rows L2 Tab
def SetO (P:Program)(w:World)(a:Addr)(L:List (Rw Value))(h:Heap):Prop:=∃o es ep t,h.get? a=some o/\o.ExactSet/\o.data = .set es ep t/\TabW t es L/\L.length<=t.mask/\t.mask<=8191/\t.plain=true/\t.led=(!w.params.followText "set-order")/\L.length*5<t.mask*3
def Mem (K:W.Frag)(P:Program)(w:World)(G:Hp)(L:List (Rw Value))(kl:List (List Int)):Prop:=Two (λ(r:Rw Value) (k:List Int)=>∃b,r.2.2 = .ref b/\SqT K G b (k.map V.int)/\r.2.1=tupleKeyHash (intKind P w) k) L kl
def Tis (K:W.Frag)(G:Hp)(xs:List V)(ks:List (List Int)):Prop:=Two (λ(x:V) (k:List Int)=>∃b,x = .ref b/\SqT K G b (k.map V.int)) xs ks
def MemV (K:W.Frag)(G:Hp)(v:Value):Prop:=∃b k,v = .ref b/\SqT K G b ((k:List Int).map V.int)
def z9x {α β:Type}{R:α->β->Prop}{l:List α}{m:List β}(h:Two R l m):l.length=m.length:=by
 induction h with
 | nil=>rfl
 | cons _ _ ih=>simp[ih]
theorem z9w {α β γ:Type}{R:α->β->Prop}{f:γ->α}:∀{l:List γ}{m:List β},Two R (l.map f) m->Two (λc b=>R (f c) b) l m
 | [],_,h=>by cases h;exact .nil
 | c::l,_,h=>by
  cases h with
  | cons h1 h2=>exact .cons h1 (z9w h2)
theorem zaF {α β γ:Type}{R:α->β->Prop}{f:γ->α}:∀{l:List γ}{m:List β},Two (λc b=>R (f c) b) l m->Two R (l.map f) m
 | [],_,h=>by cases h;exact .nil
 | c::l,_,h=>by
  cases h with
  | cons h1 h2=>exact .cons h1 (zaF h2)
def ze3 {α β:Type}{R:α->β->Prop}{S:α->Prop}{l:List α}{m:List β}(h:Two R l m)(a:∀x∈l,S x):Two (λx y=>R x y/\S x) l m:=by
 induction h with
 | nil=>exact .nil
 | cons h1 _ ih=>exact .cons ⟨h1,a _ wJ⟩ (ih λx hx=>a x (wm _ hx))
def zbE {K:W.Frag}{G:Hp}{R:Value->List Int->Prop}(hR:∀b k,SqT K G b (k.map V.int)->R (.ref b) k){xs:List V}{ks:List (List Int)}(t:Tis K G xs ks):∀{its:List Value},Vals xs its->Two R its ks:=by
 unfold Tis at t
 induction t with
 | nil=>intro its r;cases r;exact .nil
 | cons h1 _ ih=>
  intro its r;obtain⟨b,rfl,hb⟩:=h1
  cases r with
  | cons r1 r2=>
   cases r1
   exact .cons (hR b _ hb) (ih r2)
def z1c.there {P:Program}{w:World}{H:Hp}{h:Heap}{a:Addr}{o:HO}(x:z1c P w H h a o):∃u,h.get? a=some u:=by
 cases o with
 | lst xs=>obtain⟨_,_,_,_,e⟩:=x;exact⟨_,e⟩
 | tup xs=>obtain⟨_,_,_,⟨o,e,_⟩,_⟩:=x;exact⟨_,e⟩
 | dK kvs=>obtain⟨_,_,_,_,o,_,_,e,_⟩:=x;exact⟨_,e⟩
 | dT kvs=>obtain⟨_,_,_,_,o,_,_,e,_⟩:=x;exact⟨_,e⟩
 | set S n=>obtain⟨o,_,_,_,e,_⟩:=x;exact⟨_,e⟩
 | ins C dx fs=>obtain⟨_,_,_,e,_⟩:=x;exact⟨_,e⟩
 | own y=>exact x
 | xd fs=>obtain⟨_,⟨_,_,_,e,_⟩,_⟩:=x;exact⟨_,e⟩
 | rng lo hi=>obtain⟨_,_,_,e⟩:=x;exact⟨_,e⟩
 | frz ob u=>obtain⟨e,_⟩:=x;exact⟨_,e⟩
 | tbl ps=>rcases x with e | ⟨_,_,_,_,_,_,_,_,_,_,_,e,_⟩ <;> exact⟨_,e⟩
 | met f y=>exact⟨_,(show h.get? a=some _ from x)⟩
 | ext φ=>obtain⟨_,z,_⟩:=x;exact z
def _root_.L2.HOk.none_of {P:Program}(x:HOk P w H h)(e:h.get? a=none):H a=none:=by
 cases q:H a with
 | none=>rfl
 | some u=>
  obtain⟨v,z⟩:=z1c.there (x a u q);rw[e] at z;cases z
def _root_.L2.Inv.laid' (I:Inv X pins σ H s)(k:∀b u,s.heap.get? b=some u->h'.get? b=some u)(hp:s.heap.get? a=none)(new:z1c X.prog X.w (upd H a o) h' a o):
  Inv X pins σ (upd H a o) { s with heap:=h',toks:=t' }:=by
 have hn:=I.hok.none_of hp;have ne:∀b u,s.heap.get? b=some u->b≠a:=λb u e z=>by rw[z,hp] at e;cases e
 have neH:∀b u,H b=some u->b≠a:=λb u e z=>by rw[z,hn] at e;cases e
 refine I.un ⟨λb o e q _ _=>k b o e,λb o e q _ _=>⟨o.slots,k b o e⟩,λb o e q _=>by rw[z05 (ne b o e)];exact q,λb o e _=>⟨o,k b o e⟩,λb xs e=>by rw[z05 (neH b _ e)];exact e,λb o u e=>by rw[z05 (neH b _ e)];exact e,λb ps e=>⟨#[],by rw[z05 (neH b _ e),Array.append_empty];exact e⟩⟩ λb u e =>?_
 by_cases hb:b=a
 .subst hb;rw[z0b] at e;cases e;exact new
 .rw[z05 hb] at e;exact(I.hok b u e).stay (λc v _ q=>k c v q) (λc q=>by rw[z05 (neH c _ q)];exact q) (λc xs q=>by rw[z05 (neH c _ q)];exact q) λc _ _ q=>by rw[z05 (neH c _ q)];exact q
section
variable {X:Cx}{G H:Hp}{pins:List (Addr × Obj)}{σ:L2.St}{s:Shared}
theorem z5o {P:Program}:∀{ns:List Int}{us:List Value},Vals (ns.map V.int) us->ItemsAre (intKind P w) ns us
 | [],_,r=>by cases r;exact .nil
 | n::ns,_,r=>by
  cases r with
  | cons r1 r2=>
   obtain⟨t,rfl⟩:=r1;exact .cons (by simp[intKind,Value.isInt]) (z5o r2)
def z8N {b:Addr}{k:List Int}(I:Inv X pins σ H s)(g:Same G H)(h:SqT X.K G b (k.map V.int)):TK X.prog X.w s.heap k b:=by
 obtain⟨its,r,⟨o,ho,hc,n,hd⟩,_⟩:=I.tuple (z0F g h);exact⟨o,its.toArray,n,ho,hc,hd,by simpa using z5o r⟩
def zee {kl:List (List Int)}(I:Inv X pins σ H s)(g:Same G H)(hp:H p=some (.ext (SetO X.prog X.w p L)))(hm:Mem X.K X.prog X.w G L kl)(nd:kl.Nodup):SetK X.prog X.w (MemV X.K G) s.heap p kl:=by
 obtain⟨o,es,ep,t,h1,h2,h3,h4,h5,h6,h7,h8,h9⟩:SetO X.prog X.w p L s.heap:=(show z1c X.prog X.w H s.heap p (.ext (SetO X.prog X.w p L)) from I.hok p _ hp).1;refine⟨⟨L,⟨o,es,ep,t,⟨h1,h2,h3,h4,h5,h6,h7,h8,λr hr =>?_⟩,h9⟩,zaF (hm.imp λr k ⟨b,e,hb,_⟩=>⟨⟨b,k,e,hb⟩,b,e,z8N I g hb⟩)⟩,nd⟩;obtain⟨k,_,b,e,hb,hh⟩:=Two.mem_left hm hr;exact⟨b,k,e,z8N I g hb,hh⟩
def rSet (K:W.Frag)(P:Program)(w:World):List V->Hp->VK->Prop:=λvs H Q=>∃G a xs ks,vs=[.ref a]/\Same G H/\(SqL K G a xs\/SqT K G a xs)/\Tis K G xs ks/\xs.length<=63/\
 ∀p L kl,H p=none->Mem K P w G L kl->kl.Nodup->(∀x,x∈kl↔x∈ks)->Q (.ref p) (upd H p (.ext (SetO P w p L)))
def zdb (hc:X.calm=true)(hu:X.A.units+64<cLine):z1n X (.type "set") (rSet X.K X.prog X.w):=by
 rintro pins s σ H xs us Q I rv ⟨G,a,ys,ks,e,g,hS,ht,hl,q⟩;subst e;obtain⟨u,rfl,rx⟩:=z3k rv
 cases rx
 have hh:X.A.handled=none:=I.ok.hd hc;have isk:∀{its:List Value},Vals ys its->Two (IsK X.prog X.w (MemV X.K G) s.heap) its ks:=λr=>zbE (λb k hb=>⟨⟨b,k,rfl,hb⟩,b,rfl,z8N I g hb⟩) ht r;have fin:∀(h':Heap) (tk:Nat) (kl:List (List Int)),SetK X.prog X.w (MemV X.K G) h' s.heap.objs.size kl->(∀x,x∈kl↔x∈ks)->(∀b o,b<s.heap.objs.size->s.heap.get? b=some o->h'.get? b=some o)->EP X pins σ Q (.ref s.heap.objs.size) { s with heap:=h',toks:=tk }:=by
  intro h' tk kl hK hm keep;have keep':∀b o,s.heap.get? b=some o->h'.get? b=some o:=λb o e=>keep b o (wE e) e;obtain⟨L,⟨o,es,ep,t,y,hf⟩,h2⟩:=hK.ex;have so:SetO X.prog X.w s.heap.objs.size L h':=⟨o,es,ep,t,y.get,y.ex,y.data,y.tab,y.room,y.small,y.plain,y.led,hf⟩
  refine⟨.ref s.heap.objs.size,_,I.laid (o :=.ext (SetO X.prog X.w s.heap.objs.size L)) (t':=tk) keep' (wx _) ⟨so,⟨o,y.get⟩,λh1 h2 ⟨o,es,ep,t,z,r⟩ st=>⟨o,es,ep,t,st _ z,r⟩⟩,rfl,q _ L kl (I.hok.fresh (wx _)) ?_ hK.nd hm⟩;refine(ze3 (z9w h2) (S:=λr=>∃b k,r.2.2 = .ref b/\TK X.prog X.w h' k b/\r.2.1=tupleKeyHash (intKind X.prog X.w) k) y.key).imp λr k z9 =>?_;obtain⟨⟨⟨b,k1,e1,hb⟩,b2,e2,z2⟩,b3,k3,e3,z3,hk⟩:=z9;rw[e1] at e2 e3
  cases e2;cases e3
  have z1:TK X.prog X.w h' k1 b:=by
   obtain⟨o,it,n,w1,w2⟩:=z8N I g hb;exact⟨o,it,n,keep' _ _ w1,w2⟩
  have:=z1.inj z2;subst this;have:=z1.inj z3;subst this;exact⟨b,e1,hb,hk⟩
 rcases hS with hS | hS
 .obtain⟨its,r,pl,hz⟩:=I.list (z13 g hS);have hlen:=r.length;exact z6k (M:=MemV X.K G) (ks:=ks) hh (by lia) pl.isList (by simpa using isk r) (by simp only[wD] <;> lia) λh' tk kl hK _ hm keep=>fin h' tk kl hK hm keep
 .obtain⟨its,r,pl,hz⟩:=I.tuple (z0F g hS);have hlen:=r.length;exact z51 (M:=MemV X.K G) (ks:=ks) hh (by lia) pl (by simpa using isk r) (by simp only[wD] <;> lia) λh' tk kl hK _ hm keep=>fin h' tk kl hK hm keep
def zgd (K:W.Frag)(P:Program)(w:World):List V->Hp->VK->Prop:=λvs H Q=>∃G p L kl,vs=[.ref p]/\Same G H/\H p=some (.ext (SetO P w p L))/\Mem K P w G L kl/\kl.Nodup/\(∀k∈kl,k≠[])/\kl.length<=63/\
 ∀D out kl',H D=none->Tis K G out kl'->kl'.Perm kl->kl'.Pairwise (λa b=>HT.z0j b a=false)->Q (.ref D) (upd H D (.lst out))
def z9j (hc:X.calm=true):z1n X (.builtin "sorted") (zgd X.K X.prog X.w):=by
 rintro pins s σ H xs us Q I rv ⟨G,p,L,kl,e,g,hp,hm,nd,hne,hz,q⟩;subst e;obtain⟨u,rfl,rx⟩:=z3k rv
 cases rx
 have hn:=z8o;have hle:(63:Nat)<=sizeLine:=by decide
 refine z8P (M:=MemV X.K G) (I.ok.hd hc) (zee I g hp hm nd) hne (by lia) λs' out keep g1 g2 g3 g4 perm hti pw D hD he =>?_;obtain⟨e,he⟩:=he;obtain⟨h',g',d',tk',os'⟩:=s';dsimp only at g1 g2 g3 keep he;subst g1;subst g2;subst g3;have hti':∀v∈out,MemV X.K G v:=λv hv=>(hti v hv).1;have hx:∃ys:List V,Vals ys out/\Tis X.K G ys (out.map (z27 s.heap)):=by
  clear perm pw he hti
  induction out with
  | nil=>exact⟨[],.nil,.nil⟩
  | cons v out ih=>
   obtain⟨ys,y1,y2⟩:=ih λv hv=>hti' v (wm _ hv);obtain⟨b,k,rfl,hb⟩:=hti' v wJ;refine⟨.ref b::ys,.cons rfl y1,.cons ⟨b,rfl,?_⟩ y2⟩;rw[z3u (TK.ti (z8N I g hb))];exact hb
 obtain⟨ys,y1,y2⟩:=hx;have hl:ys.length=kl.length:=by rw[<- perm.length_eq,wg,y1.length]
 exact⟨.ref D,upd H D (.lst ys),I.laid' (o :=.lst ys) (t':=tk') keep hD ⟨by lia,out,e,y1,he⟩,rfl,q D ys _ (I.hok.none_of hD) y2 perm pw⟩
end
abbrev tupD (k:List Int):D :=.tup (k.map .int)
structure Rows (ks kl:List (List Int)):Prop where
 up:kl.Pairwise (λa b=>HT.z0j a b=true)
 mem:∀x,x∈kl↔x∈ks
def z8S (d:D)(P:List (List Int)->Prop):Prop:=match d with
 | .lst l=>∃ks,l=ks.map tupD/\l.length<=63/\P ks
 | .tup l=>∃ks,l=ks.map tupD/\l.length<=63/\P ks
 | _=>False
def z8R {P P':List (List Int)->Prop}(m:∀k,P k->P' k)(h:z8S d P):z8S d P':=by
 cases d with
 | lst l=>obtain⟨ks,a,b,c⟩:=h;exact⟨ks,a,b,m _ c⟩
 | tup l=>obtain⟨ks,a,b,c⟩:=h;exact⟨ks,a,b,m _ c⟩
 | _=>exact h.elim
def zcU (d:D)(Q:DK):Prop:=z8S d λks=>(∀k∈ks,k≠[])/\∀kl,Rows ks kl->Q (.lst (kl.map tupD))
def z4d:Fn:=fn1 zcU λd Q Q' m h=>z8R (λks q=>⟨q.1,λkl z=>m _ (q.2 kl z)⟩) h
section
variable {X:Cx}{K:W.Frag}{mg:WmP}{E:XK}{G H:Hp}
theorem z5H:∀{ks:List (List Int)}{xs:List V},RDs K mg G (ks.map tupD) xs->Tis K G xs ks
 | [],_,h=>by rw[Wk,RDs] at h;subst h;exact .nil
 | k::ks,_,h=>by
  rw[ve,RDs] at h;obtain⟨x,r,rfl,h1,h2⟩:=h;obtain⟨a,ys,rfl,h3,h4⟩:=z1o h1;rw[z2X k h4] at h3;exact .cons ⟨a,rfl,h3⟩ (z5H h2)
def ze6:∀{ks:List (List Int)}{xs:List V},Tis K G xs ks->RDs K mg G (ks.map tupD) xs:=by
 intro ks xs h;unfold Tis at h
 induction h with
 | nil=>exact RDs.nil
 | cons h1 _ ih=>
  obtain⟨b,rfl,hb⟩:=h1;exact RDs.cons (RD.ofT hb (z69 _)) ih
def zbL {d:D}{v:V}{P:List (List Int)->Prop}(r:RD K mg G d v)(h:z8S d P):∃a xs ks,v = .ref a/\(SqL K G a xs\/SqT K G a xs)/\Tis K G xs ks/\xs.length<=63/\P ks:=by
 cases d with
 | lst l=>
  obtain⟨ks,rfl,hl,q⟩:=h;obtain⟨a,xs,rfl,h1,h2⟩:=z1p r;exact⟨a,xs,ks,rfl,.inl h1,z5H h2,by rw[h2.len];exact hl,q⟩
 | tup l=>
  obtain⟨ks,rfl,hl,q⟩:=h;obtain⟨a,xs,rfl,h1,h2⟩:=z1o r;exact⟨a,xs,ks,rfl,.inr h1,z5H h2,by rw[h2.len];exact hl,q⟩
 | _=>exact h.elim
def zdv {kl:List (List Int)}(nd:kl.Nodup)(h:kl.Pairwise (λa b=>HT.z0j b a=false)):kl.Pairwise (λa b=>HT.z0j a b=true):=by
 induction kl with
 | nil=>exact .nil
 | cons a l ih=>
  rw[vh] at h ⊢;rw[vY] at nd;refine⟨λb hb =>?_,ih nd.2 h.2⟩
  cases z:HT.z0j a b with
  | true=>rfl
  | false=>
   have e:a=b:=Tim.z7O a b z (h.1 b hb);exact absurd (e ▸ hb) nd.1
theorem z0N {α:Type}[DecidableEq α]:∀{l m:List α},l.Nodup->(∀x∈l,x∈m)->l.length<=m.length
 | [],_,_,_=>vy _
 | a::l,m,nd,h=>by
  rw[vY] at nd;have ha:=h a wJ;have:=z0N (m:=m.erase a) nd.2 λx hx=>(List.mem_erase_of_ne (λ(e:x=a)=>nd.1 (by rw[<- e];exact hx))).mpr (h x (wm _ hx));rw[List.length_erase_of_mem ha] at this;have:=jG ha;simp only[w5];lia
def zcO {ks kl:List (List Int)}(nd:kl.Nodup)(h:∀x,x∈kl↔x∈ks):kl.length<=ks.length:=z0N nd λx hx=>(h x).mp hx
def z8X {e:Expr}{x:Ex}{p1 p2 p3 p4:Pos}(hu:X.A.units+64<cLine)(hc:X.calm=true)(hg:Gl X "sorted")(hm:X.mg "sorted"=none)(hg2:Gl X "set")(hm2:X.mg "set"=none)(ha:QXA X E [e] [x])
  (hs1:starEach [e] X.env=(false,eval e X.env)::starEach [] X.env:=by rfl) (hs2:starEach [.Call (.Name "set" p2) [e] [] p3] X.env=(false,eval (.Call (.Name "set" p2) [e] [] p3) X.env)::starEach [] X.env:=by rfl):QF X E (.Call (.Name "sorted" p1) [.Call (.Name "set" p2) [e] [] p3] [] p4) (.op z4d [x]):=
 QE.imp (z5I (z9j hc) hg hm (by rfl) (z4p (z2O (zdb hc hu) hg2 hm2 (by rfl) ha (by decide) (by decide) hs1 (by rfl)) z8d hs2) (by decide) (by decide) hs2 (by rfl)) <| by
  kt_k;refine⟨G,ρ,λds=>z4d.run ds Q0 X0,X0,hs,ab,hr,λds vs G1 H1 q g1 g2 g3 rds =>?_,hx⟩;obtain⟨d,rfl,q'⟩:=z2h q;obtain⟨v,rfl,rd⟩:=rds1 rds;obtain⟨a,xs,ks,rfl,h1,h2,h3,hne,h4⟩:=zbL rd q';refine⟨G1,a,xs,ks,rfl,g2,h1,h2,h3,λp L kl hp hM nd hmem =>?_⟩;have s1:Same H1 (upd H1 p (.ext (SetO X.prog X.w p L))):=z0i hp _;have hlen:ks.length=xs.length:=(z9x h2).symm;refine⟨G1,p,L,kl,rfl,z01 g2 s1,z0b,hM,nd,λk hk=>hne k ((hmem k).mp hk),by have:=zcO nd hmem;lia,λD out kl' hD ht pm pw =>?_⟩;have hD1:H1 D=none:=by
   cases z:H1 D with
   | none=>rfl
   | some o=>rw[s1 D o z] at hD;cases hD
  have hD0:H D=none:=by
   cases z:H D with
   | none=>rfl
   | some o=>rw[g3 D o z] at hD1;cases hD1
  have s2:=z0i (H:=upd H1 p (.ext (SetO X.prog X.w p L))) hD (.lst out);refine hk (.lst (kl'.map tupD)) D G1 _ (h4 kl' ⟨zdv (pm.nodup_iff.mpr nd) pw,λz=>by rw[pm.mem_iff];exact hmem z⟩) g1 (z01 g2 (z01 s1 s2)) (z01 g3 (z01 s1 s2)) hD0 (z0Y g2 hD1) ⟨out,z0b,ze6 ht⟩
end
end Pu
namespace Rev
open PySem PyProof.Rows
def zhI:typeLookup (.type "list_reverseiterator") "__len__"=pure none:=by
 rw[typeLookup_type,jO]
 kernel_rfl
def zcP:typeLookup (.type "list_reverseiterator") "__length_hint__"=pure (some (.builtin "list_reverseiterator.__length_hint__")):=by
 rw[typeLookup_type,jO]
 kernel_rfl
section
variable {prog:Program}{w:World}{A:Around}{E:WvP}{s:Shared}{R:Result->Shared->Prop}{r:Addr}
def zfn (ty:s.TypeIs (.ref r) "list_reverseiterator")(q:Q false s):wpAny (model prog w) A (Builtin.List.listLengthHint (.ref r)) Q E s:=by
 unfold Builtin.List.listLengthHint;refine we (wpAny_specialOf ty zhI ?_);show wpAny _ A (specialOf (.ref r) (Str.ofString "__length_hint__") >>= _) Q E s;refine we (wpAny_specialOf ty zcP ?_);generalize hn:("list_reverseiterator.__length_hint__":String)=n0
 wp_delta
 rw[show splitId n0=some ("list_reverseiterator","__length_hint__") from by rw[<- hn];decide +kernel];refine we (wpAny_isInstance (b:=true) ty (by rw[jZ];kernel_rfl) ?_);subst hn;exact wj q
def z9d {fp wr:List Addr}{P:Nat->Value->Prop}{St:Nat->Shared->Prop}(W:WalksS prog w A.in1 r fp wr G n P St)(ty:∀i s,St i s->s.TypeIs (.ref r) "list_reverseiterator")(S:Addr)(res:Value)(c0:Nat)(st:St 0 s)(out:S ∉ fp)(mine:r∈fp)(hz:n<=sizeLine)
  (at_:s.heap.get? S=some { cls :=.type "list",data :=.seq #[] c0 }) (q:∀s' acc c,Moved (S::wr) G s s'->s'.heap.get? S=some { cls :=.type "list",dict:=none,data :=.seq acc c,slots := #[] }->ItemsOf P acc n->R (.ok (.ret res)) s'):
  wpAny (model prog w) A.in1 (Builtin.List.listExtendWith (.ref S) (.ref r) res) (λfin s'=>match fin with | .done f=>R (.ok f) s' | .again c'=>c'.quiet=true/\codeAny (model prog w) A c' R s') (λe s'=>R (.error e) s') s:=by
 have ne:S≠r:=λe=>out (by rw[e];exact mine);unfold Builtin.List.listExtendWith;refine we (Wa (ty 0 s st) ?_);have k1:Builtin.List.listSameRef (.ref S) (.ref r)=false:=by simp[Builtin.List.listSameRef,ne]
 have k2:(Value.type "list_reverseiterator" == .type "list")=false:=by decide
 have k3:(Value.type "list_reverseiterator" == .type "tuple")=false:=by decide
 rw[k1,k2,k3];refine we (W.self 0 s _ _ st (we (ud (zfn (ty 0 s st) ?_))));exact wj ⟨uR F.plain_extend_loop _,codeAny_extend_loopS W hz S out res n 0 s #[] c0 rfl (vy _) st at_ (ItemsOf.nil P) q⟩
def zcT {fp wr:List Addr}{P:Nat->Value->Prop}{St:Nat->Shared->Prop}(W:WalksS prog w A.in1 r fp wr G n P St)(ty:∀i s,St i s->s.TypeIs (.ref r) "list_reverseiterator")(S:Addr)(st:St 0 s)(out:S ∉ fp)(mine:r∈fp)(hz:n<=sizeLine)
  (at_:s.heap.get? S=some { cls :=.type "list",data :=.seq #[] }) (q:∀s' acc c,Moved (S::wr) G s s'->s'.heap.get? S=some { cls :=.type "list",dict:=none,data :=.seq acc c,slots := #[] }->ItemsOf P acc n->R (.ok (.ret .none)) s'):
  wpAny (model prog w) A.in1 (Builtin.«list.__init__» ⟨[.ref S,.ref r],[]⟩) (λfin s'=>match fin with | .done f=>R (.ok f) s' | .again c'=>c'.quiet=true/\codeAny (model prog w) A c' R s') (λe s'=>R (.error e) s') s:=by
 show wpAny _ A.in1 (Builtin.List.listItems (.ref S) >>= λold=>Builtin.List.listUpdate (.ref S) (λ_ => #[]) >>= λ_=>letGo old.toList.reverse >>= λ_=>Builtin.List.listExtendWith (.ref S) (.ref r) .none) _ _ s;unfold Builtin.List.listItems;refine we (we (uc at_ rfl (wj ?_)));refine we (m:=updateSeq S λ_ => #[]) (jP at_ rfl (we (jQ ?_)));have keep:∀b o,b≠S->s.heap.get? b=some o->(s.heap.update S (Obj.mapSeq λ_=>(#[]:Array Value))).get? b=some o:=λb o z e=>by rw[v4 _ _ (vU z)];exact e
 refine z9d W ty S .none _ (W.frame 0 s _ s.toks st (wx _) λb hb o e=>keep b o (λz=>out (z ▸ hb)) e) out mine hz (vT _ at_ rfl) λs' acc c mv e it=>q s' acc c ?_ e it;exact Moved.trans W.gtrans ((Moved.refl W.grefl).then_heap (wx _) λb o hb e=>keep b o (λz=>hb (by rw[z];exact wJ)) e) mv
end
end Rev
namespace Pu
open PySem PySem.Spec PyProof.Rows L2 Tab
def Ex.callv (T:Nat->Fn)(i:Nat)(es:List Ex):Ex:=⟨λρ Q Xp=>∃n,ρ.get i=some (.fn n)/\runs es ρ (λds=>(T n).run ds Q Xp) Xp,λρ Q Q' Xp X' m mx ⟨n,e,q⟩=>⟨n,e,z2N es ρ _ _ Xp X' (λds q1=>(T n).mono ds Q Q' Xp X' m mx q1) mx q⟩⟩
def FTab (P:Program)(w:World)(K:W.Frag)(mg:WmP)(base:Heap)(CX:CXT)(k:Nat)(T:Nat->Fn):Prop:=∀n f,mg (z7a n)=some (.ref f)->∃j fd ps,j<=k/\FnOk P w K mg base CX j f fd ps (spP K mg (T n))/\W.keepIn K (.ref f)=true/\z53 K fd ps []
def FTab.mk {P:Program}{w:World}{K:W.Frag}{mg:WmP}{base:Heap}{CX:CXT}{k:Nat}{T:Nat->Fn}(hz:mg ""=none)
  (h:∀n<4,∀f,mg (z7a n)=some (.ref f)->∃j fd ps,j<=k/\FnOk P w K mg base CX j f fd ps (spP K mg (T n))/\W.keepIn K (.ref f)=true/\z53 K fd ps []):FTab P w K mg base CX k T:=λn f e=>by
 by_cases hn:n<4
 .exact h n hn f e
 .rw[show z7a n="" from by
   match n,hn with
   | 0,h=>exact absurd (by decide) h
   | 1,h=>exact absurd (by decide) h
   | 2,h=>exact absurd (by decide) h
   | 3,h=>exact absurd (by decide) h
   | n+4,_=>rfl,hz] at e
  cases e
def _root_.L2.Cal.tab {P:Program}{w:World}{K:W.Frag}{mg:WmP}{base:Heap}{CX:CXT}{j k:Nat}{x:Str}{ps:List Str}{F:Fn}(C:Cal P w K mg base CX j x ps (spP K mg F))(h:j<=k)(f:Addr)(e:mg x=some (.ref f)):∃j fd ps,j<=k/\FnOk P w K mg base CX j f fd ps (spP K mg F)/\W.keepIn K (.ref f)=true/\z53 K fd ps []:=by
 obtain⟨f',fd,F',hm,hk,hb⟩:=C.ex;rw[hm] at e;cases e;exact⟨j,fd,ps,h,F',hk,hb⟩
section
variable {X:Cx}{E:XK}{CX:CXT}{e:Expr}{es:List Expr}{xs:List Ex}{pos:Pos}
def zfR (X:Cx)(CX:CXT)(E:XK)(i:Nat)(t:TA):TE:=λσ H Q=>∃f fd ps sp k,σ[i]? = some (some (.ref f))/\FnOk X.prog X.w X.K X.mg X.base CX k f fd ps sp/\Room k X.A/\W.keepIn X.K (.ref f)=true/\z53 X.K fd ps []/\t σ H λvs H1=>sp (vs++[]) H1 Q E
def zcq (hx:z3E CX X E)(hv:PE X (.Name x p) (tVar i))(ha:PA X (e::es) t)(he:starEach (e::es) X.env=(false,eval e X.env)::starEach es X.env:=by rfl)(hpl:(backTo pos (starEach es X.env)).any (·.1)=false:=by rfl):
  PE X (.Call (.Name x p) (e::es) [] pos) (zfR X CX E i t):=by
 rintro pins s σ H Q I ⟨f,fd,ps,sp,k,hσ,F,hr,hk,hb,h⟩;refine ja (thn (hv pins s σ H (λv H1=>v = .ref f/\t σ H1 λvs H1=>sp (vs++[]) H1 Q E) I ⟨_,hσ,rfl,h⟩) λu s1 z9 =>?_);obtain⟨v,H1,I1,rv,ev,q⟩:=z9;subst ev
 cases rv
 exact W.callWith_K (h₀:=X.base) I1.ok.mod.kin hk (thn (ha pos pins s1 σ H1 _ I1 q) λus s2 ⟨vs,H2,I2,r,q2⟩=>⟨I2.kIn,zds F hr hb .nil hx I2 r q2⟩) he hpl
def zc8 {k:Nat}(tb:FTab X.prog X.w X.K X.mg X.base CX k T)(hr:Room k X.A)(hx:z3E CX X E)(hv:QE X (.Name x p) (tVar i))(ha:QXA X E (e::es) xs)
  (he:starEach (e::es) X.env=(false,eval e X.env)::starEach es X.env:=by rfl) (hpl:(backTo pos (starEach es X.env)).any (·.1)=false:=by rfl):QX X E (.Call (.Name x p) (e::es) [] pos) (.callv T i xs):=
 ⟨PE.imp (zcq hx hv.p ha.p he hpl) <| by
  rintro σ H Q ⟨G,ρ,Q0,X0,hs,ab,⟨n,hn,hr'⟩,hk,hx'⟩;obtain⟨v,h1,h2⟩:=ab i _ hn;rw[RD] at h2;obtain⟨f,rfl,hm⟩:=h2;obtain⟨j,fd,ps,hj,F,hkp,hb⟩:=tb n f hm;refine⟨f,fd,ps,_,j,h1,F,hr.mono hj,hkp,hb,G,ρ,_,X0,hs,ab,hr',λds vs G' H' q g1 g2 g3 rds =>?_,hx'⟩;show spP X.K X.mg (T n) (vs++[]) H' Q E;rw[v6];exact⟨G',ds,Q0,X0,g2,rds,q,hk.same g1 g3,hx'.same g3⟩⟩
def z8c {n k:Nat}{ps:List Str}(hn:z7a n=x)(hg:Gl X x)(C:Cal X.prog X.w X.K X.mg X.base CX k x ps sp)(hd:(x == ("__debug__":Str))=false):QX X E (.Name x p) (.c (.fn n)):=by
 obtain⟨f,fd,F',hm,hk,hb⟩:=C.ex;exact qx_c (v :=.ref f) ⟨zal hg hm rfl hd⟩ λ_=>by rw[RD];exact⟨f,rfl,by rw[hn];exact hm⟩
end
def _root_.L2.Inv.spent (I:Inv X pins σ (upd H r (.ext φ)) s)(hr:H r=none)(h0:X.s₀.heap.objs.size<=r)(k:∀b u,b≠r->s.heap.get? b=some u->h'.get? b=some u)(hp:s.heap.get? a=none)
  (new:z1c X.prog X.w (upd H a o) h' a o):Inv X pins σ (upd H a o) { s with heap:=h',toks:=t' }:=by
 have Hr:upd H r (.ext φ) r=some (.ext φ):=z0b;have back:∀b (u:HO),upd H r (.ext φ) b=some u->(∀ψ,u ≠ .ext ψ)->H b=some u/\b≠r:=λb u e z=>by
  have hb:b≠r:=λy=>by rw[y,Hr] at e;cases e;exact z φ rfl
  rw[z05 hb] at e;exact⟨e,hb⟩
 have hn0:=I.hok.none_of hp;have har:a≠r:=λy=>by rw[y,Hr] at hn0;cases hn0
 have hn:H a=none:=by rw[z05 har] at hn0;exact hn0
 have ne:∀b u,s.heap.get? b=some u->b≠a:=λb u e z=>by rw[z,hp] at e;cases e
 have neH:∀b u,H b=some u->b≠a:=λb u e z=>by rw[z,hn] at e;cases e
 have out:∀b,upd H r (.ext φ) b=none->b≠r/\H b=none:=λb e=>by
  have hb:b≠r:=λy=>by rw[y,Hr] at e;cases e
  rw[z05 hb] at e;exact⟨hb,e⟩
 have same:∀b (u:HO),upd H r (.ext φ) b=some u->(∀ψ,u ≠ .ext ψ)->upd H a o b=some u:=λb u e z=>by
  obtain⟨e',_⟩:=back b u e z;rw[z05 (neH b u e')];exact e'
 refine I.step (g':=s.gens) (d':=s.drawn) (ch:=[r]) (λb hb =>?_) (λb u _ _ hc e _=>k b u (λz=>hc (by simp[z])) e) (λb u _ _ hc e _=>⟨u.slots,k b u (λz=>hc (by simp[z])) e⟩) (λb u _ e q=>by rw[z05 (ne b u e)];exact(out b q).2)
  (λb u hc e=>⟨u,k b u (λz=>hc (by simp[z])) e⟩) (λb xs e=>same b _ e λ_=>nofun) (λb u v e=>same b _ e λ_=>nofun) (λb ps e=>⟨#[],by rw[same b _ e λ_=>nofun,Array.append_empty]⟩) (λm hm =>?_) (λb u e =>?_) I.bare
 .have e:b=r:=by simpa using hb
  subst e;exact⟨.inr h0,(λz=>(out _ I.free).1 z.symm),λx c e=>(out c (I.freeC x c e)).1,λp hp=>(out _ (I.pin p hp).2.1).1⟩
 .obtain⟨u,es,ep,ho,q⟩:=hm;exact⟨u,es,ep,k _ u (out _ I.free).1 ho,q⟩
 by_cases hb:b=a
 .subst hb;rw[z0b] at e;cases e;exact new
 rw[z05 hb] at e;have hbr:b≠r:=λz=>by rw[z,hr] at e;cases e
 have e':upd H r (.ext φ) b=some u:=by rw[z05 hbr];exact e
 refine(I.hok b u e').stay (λc v hc q=>k c v ?_ q) (λc q=>same c _ q λ_=>nofun) (λc xs q=>same c _ q λ_=>nofun) λc _ _ q=>same c _ q λ_=>nofun
 rcases hc with rfl | hc
 .exact hbr
 .exact(back c _ hc λ_=>nofun).2
def RevO (r a:Addr)(n:Nat)(h:Heap):Prop:=h.IsRevIter r a ((n:Int) - 1)
section
variable {X:Cx}{E:XK}
def rRev (X:Cx):List V->Hp->VK->Prop:=λvs H Q=>∃a ys,vs=[.ref a]/\SqL X.K H a ys/\∀r,H r=none->X.s₀.heap.objs.size<=r->Q (.ref r) (upd H r (.ext (RevO r a ys.length)))
def zdc:z1n X (.type "reversed") (rRev X):=by
 rintro pins s σ H xs us Q I rv ⟨a,ys,e,hS,q⟩;subst e;obtain⟨u,rfl,rx⟩:=z3k rv
 cases rx
 obtain⟨its,r,pl,hz⟩:=I.list hS;have hlen:=r.length;refine call_reversed_list pl.isList ⟨.ref s.heap.objs.size,_,I.laid (o :=.ext (RevO s.heap.objs.size a ys.length)) (t':=s.toks) (λb o e=>wo _ e) (wx _) ⟨⟨_,wA _ rfl,rfl,by simp[revObj,hlen]⟩,⟨_,wA _ rfl⟩,λh1 h2 x st=>x.at st⟩,rfl,q _ (I.hok.fresh (wx _)) I.sz⟩
def zc2 (X:Cx):List V->Hp->VK->Prop:=λvs H Q=>∃r a ys H1,vs=[.ref r]/\H=upd H1 r (.ext (RevO r a ys.length))/\H1 r=none/\X.s₀.heap.objs.size<=r/\SqL X.K H1 a ys/\∀d,H1 d=none->Q (.ref d) (upd H1 d (.lst ys.reverse))
def z7h (hc:X.calm=true):z1n X (.type "list") (zc2 X):=by
 rintro pins s σ H xs us Q I rv ⟨r,a,ys,H1,e,eH,hr,h0,hS1,q⟩;subst e;subst eH;have hS:=z13 (z0i hr (.ext (RevO r a ys.length))) hS1;obtain⟨u,rfl,rx⟩:=z3k rv
 cases rx
 have hh:X.A.handled=none:=I.ok.hd hc;obtain⟨its,rv',pl,hz⟩:=I.list hS;have hlen:=rv'.length;have hR:s.heap.IsRevIter r a ((ys.length:Int) - 1):=(show z1c X.prog X.w _ s.heap r (.ext (RevO r a ys.length)) from I.hok r _ z0b).1;have hra:a≠r:=by
  obtain⟨o,ho,hc',_⟩:=hR;obtain⟨o',ho',hc'',_⟩:=pl.isList;intro z;rw[z,ho] at ho';cases ho';rw[hc'] at hc''
  injection hc'' with h
  exact absurd h (by decide)
 have W:=(Walks.listRev (prog:=X.prog) (w:=X.w) (A:=X.A.in1.in1) (by simp[hh]) r a hra its.toArray).toS;have sz:its.toArray.size=ys.length:=by simp[hlen]
 refine callType_codes (Q₁:=λv s1=>v = .ref s.heap.objs.size/\s1={ s with heap:=s.heap.push { cls :=.type "list",data :=.seq #[] } }) F.called_list (F.typeCall_list_1 _) F.entry_list_init (code_list_new _ ⟨rfl,rfl⟩) λv s1 hv =>?_;obtain⟨rfl,rfl⟩:=hv;have hD:(s.heap.push { cls :=.type "list",data :=.seq #[] }).get? s.heap.objs.size=some { cls :=.type "list",data :=.seq #[] }:=wA _ rfl;have hlt:∀{b:Addr}{o:Obj},s.heap.get? b=some o->b≠s.heap.objs.size:=λe=>wV (wE e);obtain⟨o1,ho1,hc1,hd1⟩:=hR;obtain⟨o2,ho2,n2⟩:=pl.isList;refine⟨⟨_,hD,rfl⟩,F.args_list_init_2 _ _,Rev.zcT (A:=X.A.in1) W (λi s st=>st.2.1.typeIs) s.heap.objs.size ⟨vy _,⟨o1,wo _ ho1,hc1,by rw[hd1,sz];simp⟩,⟨o2,wo _ ho2,n2⟩⟩ (by
  simp only[ww,vn,jc,not_or];exact⟨vU (hlt ho1),vU (hlt ho2)⟩) (by simp) (by rw[sz];exact hz) hD λs' acc c mv hS' it=>⟨rfl,?_⟩⟩
 have keep:∀b o,b≠r->s.heap.get? b=some o->s'.heap.get? b=some o:=λb o hb e=>mv.heap b o (by
  simp only[ww,vn,jc,not_or];exact⟨hlt e,hb⟩) (wo _ e)
 obtain⟨h',g',d',tk',os'⟩:=s';have eg:g'=s.gens:=mv.gens;have ed:d'=s.drawn:=mv.drawn;have eo:os'=s.os:=mv.os;subst eg;subst ed;subst eo;have acc':acc.toList=its.reverse:=by
  apply List.ext_getElem?;intro k
  by_cases hk:k<its.length
  .have hk':k<acc.size:=by rw[it.1,sz,hlen];exact hk
   have:=it.2 k acc[k] (jf acc k hk');rw[uI,jf acc k hk',List.getElem?_reverse hk, <- this];simp
  .have hk':¬ k<acc.size:=by rw[it.1,sz,hlen];exact hk
   rw[uI,getElem?_neg acc k hk',jd (by simp;lia)]
 have hsz:s.heap.get? s.heap.objs.size=none:=by
  cases z:s.heap.get? s.heap.objs.size with
  | none=>rfl
  | some o=>exact absurd (wE z) (uj _)
 have hn1:H1 s.heap.objs.size=none:=by
  have:=I.hok.none_of hsz
  cases z:H1 s.heap.objs.size with
  | none=>rfl
  | some o=>rw[z0i hr _ _ _ z] at this;cases this
 refine⟨.ref s.heap.objs.size,_,I.spent (o :=.lst ys.reverse) (t':=tk') hr h0 keep hsz ⟨by simpa using hz,its.reverse,c,rv'.reverse,?_⟩,rfl,q _ hn1⟩;rw[<- acc'];exact hS'
end
section
variable {X:Cx}{K:W.Frag}{mg:WmP}{E:XK}{G H:Hp}
def zcV (d:D)(Q:DK):Prop:=isLs d λl=>Q (.lst l.reverse)
def z1u:Fn:=fn1 zcV λd Q Q' m h=>zaP (λl q=>m _ q) h
def zaO {P:List D->Prop}(h:isLs d P):∃l,d = .lst l/\P l:=by
 cases d with
 | lst l=>exact⟨l,rfl,h⟩
 | _=>exact h.elim
def z3I (hc:X.calm=true)(hg:Gl X "list")(hm:X.mg "list"=none)(hg2:Gl X "reversed")(hm2:X.mg "reversed"=none)(ha:QXA X E [e] [x])
  (hs1:starEach [e] X.env=(false,eval e X.env)::starEach [] X.env:=by rfl) (hs2:starEach [.Call (.Name "reversed" p2) [e] [] p3] X.env=(false,eval (.Call (.Name "reversed" p2) [e] [] p3) X.env)::starEach [] X.env:=by rfl):QF X E (.Call (.Name "list" p1) [.Call (.Name "reversed" p2) [e] [] p3] [] p4) (.op z1u [x]):=
 QE.imp (z2O (z7h hc) hg hm (by rfl) (z4p (z2O zdc hg2 hm2 (by rfl) ha (by decide) (by decide) hs1 (by rfl)) z8d hs2) (by decide) (by decide) hs2 (by rfl)) <| by
  kt_k;refine⟨G,ρ,λds=>z1u.run ds Q0 X0,X0,hs,ab,hr,λds vs G1 H1 q g1 g2 g3 rds =>?_,hx⟩;obtain⟨d,rfl,q'⟩:=z2h q;obtain⟨v,rfl,rd⟩:=rds1 rds;obtain⟨l,rfl,q2⟩:=zaO q';f_int;refine⟨a,xs,rfl,z13 g2 h1,λr hr0 hr1=>⟨r,a,xs,H1,rfl,rfl,hr0,hr1,z13 g2 h1,λd hd =>?_⟩⟩;have hd0:H d=none:=by
   cases z:H d with
   | none=>rfl
   | some o=>rw[g3 d o z] at hd;cases hd
  exact hk (.lst l.reverse) d G1 _ q2 g1 (z01 g2 (z0i hd _)) (z01 g3 (z0i hd _)) hd0 (z0Y g2 hd) ⟨xs.reverse,z0b,h2.rev⟩
def gIn (neg:Bool)(a b:D)(Q:DK):Prop:=match b with
 | .lst l=>Da 60 a/\(∀d∈l,Da 60 d)/\Q (.bl (if neg then !l.any (λd=>deq d a) else l.any (λd=>deq d a)))
 | .tup l=>Da 60 a/\(∀d∈l,Da 60 d)/\Q (.bl (if neg then !l.any (λd=>deq d a) else l.any (λd=>deq d a)))
 | _=>False
def z8v {neg:Bool}(a b:D)(Q Q':DK)(m:∀d,Q d->Q' d)(h:gIn neg a b Q):gIn neg a b Q':=by
 unfold gIn at h ⊢
 split at h
 .exact⟨h.1,h.2.1,m _ h.2.2⟩
 .exact⟨h.1,h.2.1,m _ h.2.2⟩
 .exact h.elim
def pIn:Fn:=fn2 (gIn false) z8v
def zap:Fn:=fn2 (gIn true) z8v
open Classical in
def z3B (I:Inv X pins σ H s)(g:Same G H)(hu:X.A.units+64<cLine){v:V}(ra:RD X.K X.mg G a v)(rv:RelV v u)(hd:Da 60 a)(hl:∀d∈l,Da 60 d)(rds:RDs X.K X.mg G l xs)(rr:Vals xs its):
  ∃e:Value->Bool,(∀y∈its,SeqAt.EqAt X.A.in1 s y u (e y))/\its.any e=l.any (λd=>deq d a)/\∀(i:Nat) (y:Value) (d:D),its[i]? = some y->l[i]? = some d->e y=deq d a:=by
 obtain⟨as,r1⟩:=Rp.reads I (py a) ((Da.rp 60 _ hd ra).same g) rv;have key:∀(d:D) (x:V) (y:Value),Da 60 d->RD X.K X.mg G d x->RelV x y->SeqAt.EqAt X.A.in1 s y u (deq d a):=λd x y h1 h2 h3=>by
  obtain⟨bs,r2⟩:=Rp.reads I (py d) ((Da.rp 60 _ h1 h2).same g) h3;obtain⟨c1,c2⟩:=Da.canLay 60 d h1;obtain⟨c3,c4⟩:=Da.canLay 60 a hd;exact SeqAt.eqAt_reads (py d) (py a) X.A.in1 s y u bs as r2 r1 c1 c3 (by
   have:min (py d).depth (py a).depth<=60:=wO (Nat.min_le_left _ _) c2;have:X.A.in1.units<=X.A.units+1:=by simp
   lia)
 let e:Value->Bool:=λy=>if h:∃dt bs,Reads s.heap y dt bs/\dt.canLay0=true then PyData.eqv h.choose (py a) else false
 have he:∀(d:D) (x:V) (y:Value),Da 60 d->RD X.K X.mg G d x->RelV x y->e y=deq d a:=λd x y h1 h2 h3=>by
  obtain⟨bs,r2⟩:=Rp.reads I (py d) ((Da.rp 60 _ h1 h2).same g) h3;have c1:=(Da.canLay 60 d h1).1;have h:∃dt bs,Reads s.heap y dt bs/\dt.canLay0=true:=⟨_,bs,r2,c1⟩
  show (if h:∃dt bs,Reads s.heap y dt bs/\dt.canLay0=true then PyData.eqv h.choose (py a) else false)=deq d a;rw[dif_pos h];obtain⟨cs,z1,z2⟩:=h.choose_spec;rw[(Reads.unique z1 _ _ r2).1]
  rfl
 refine⟨e,?_⟩
 clear_value e
 induction l generalizing xs its with
 | nil=>
  rw[RDs] at rds;subst rds
  cases rr
  exact⟨λy hy=>(by cases hy),rfl,λi y d h=>(by simp at h)⟩
 | cons d l ih=>
  rw[RDs] at rds;obtain⟨x,xs',rfl,h1,h2⟩:=rds
  cases rr with
  | cons rx rr=>
   obtain⟨i1,i2,i3⟩:=ih (λd hd=>hl d (wm _ hd)) h2 rr;have hd0:=hl d wJ;refine⟨λy hy =>?_,by rw[List.any_cons,List.any_cons,he d x _ hd0 h1 rx,i2],λi y d' e1 e2 =>?_⟩
   rotate_left
   .cases i with
    | zero=>
     rw[List.getElem?_cons_zero] at e1 e2
     cases e1
     cases e2
     exact he d x _ hd0 h1 rx
    | succ i=>exact i3 i y d' (by rwa [uS] at e1) (by rwa [uS] at e2)
   rcases ww.mp hy with rfl | hy
   .rw[he d x _ hd0 h1 rx];exact key d x _ hd0 h1 rx
   .exact i1 y hy
def zjg (hu:X.A.units+64<cLine):OpR X (compareOp .In) (r2 X.K X.mg pIn):=by
 rintro pins s σ H x y v u Q I rx ry ⟨G,d1,d2,Q0,X0,g,r1,r2,hr,hk⟩;have hr':gIn false d1 d2 Q0:=hr;unfold gIn at hr'
 split at hr'
 .obtain⟨h1,h2,q⟩:=hr';obtain⟨a,xs,rfl,h3,h4⟩:=z1p r2
  cases ry
  obtain⟨its,rr,pl,_⟩:=I.list (z13 g h3);obtain⟨e,e1,e2,_⟩:=z3B I g hu r1 rx h1 h2 h4 rr;refine SeqAt.in_listAt e pl.isList (λw hw=>e1 w (by simpa using hw)) ⟨.bl _,H,I,rfl,?_⟩;rw[show its.toArray.any e=its.any e by simp,e2];exact hk.now g q RD.bl'
 .obtain⟨h1,h2,q⟩:=hr';obtain⟨a,xs,rfl,h3,h4⟩:=z1o r2
  cases ry
  obtain⟨its,rr,pl,_⟩:=I.tuple (z0F g h3);obtain⟨e,e1,e2,_⟩:=z3B I g hu r1 rx h1 h2 h4 rr;refine SeqAt.in_tupleAt e pl (λw hw=>e1 w (by simpa using hw)) ⟨.bl _,H,I,rfl,?_⟩;rw[show its.toArray.any e=its.any e by simp,e2];exact hk.now g q RD.bl'
 .exact hr'.elim
def zcD (hu:X.A.units+64<cLine):OpR X (compareOp .NotIn) (r2 X.K X.mg zap):=by
 rintro pins s σ H x y v u Q I rx ry ⟨G,d1,d2,Q0,X0,g,r1,r2,hr,hk⟩;have hr':gIn true d1 d2 Q0:=hr;unfold gIn at hr'
 split at hr'
 .obtain⟨h1,h2,q⟩:=hr';obtain⟨a,xs,rfl,h3,h4⟩:=z1p r2
  cases ry
  obtain⟨its,rr,pl,_⟩:=I.list (z13 g h3);obtain⟨e,e1,e2,_⟩:=z3B I g hu r1 rx h1 h2 h4 rr;refine SeqAt.notIn_listAt e pl.isList (λw hw=>e1 w (by simpa using hw)) ⟨.bl _,H,I,rfl,?_⟩;rw[show its.toArray.any e=its.any e by simp,e2];exact hk.now g q RD.bl'
 .obtain⟨h1,h2,q⟩:=hr';obtain⟨a,xs,rfl,h3,h4⟩:=z1o r2
  cases ry
  obtain⟨its,rr,pl,_⟩:=I.tuple (z0F g h3);obtain⟨e,e1,e2,_⟩:=z3B I g hu r1 rx h1 h2 h4 rr;refine SeqAt.notIn_tupleAt e pl (λw hw=>e1 w (by simpa using hw)) ⟨.bl _,H,I,rfl,?_⟩;rw[show its.toArray.any e=its.any e by simp,e2];exact hk.now g q RD.bl'
 .exact hr'.elim
def zfK:∀{xs:List V}{ks:List (List Int)}{its:List Value}{i:Nat}{y:Value},Tis K G xs ks->Vals xs its->its[i]? = some y->∃b k,xs[i]? = some (.ref b)/\ks[i]? = some k/\y = .ref b/\SqT K G b (k.map V.int):=by
 intro xs ks its i y h;unfold Tis at h
 induction h generalizing its i with
 | nil=>intro r e;cases r;simp at e
 | cons h1 _ ih=>
  intro r e
  cases r with
  | cons r1 r2=>
   obtain⟨b,rfl,hb⟩:=h1
   cases i with
   | zero=>simp at e;subst e;cases r1;exact⟨b,_,rfl,rfl,rfl,hb⟩
   | succ i=>simpa using ih r2 (by simpa using e)
end
end Pu
namespace Pu
open PySem L2
def z07:Fn:=Fn.mkN 2 5 (.seq (.set 2 (.op pAbs [.v 0]))
 (.seq (.set 3 (.op pAbs [.v 1]))
 (.seq (.wh (.op pNe [.v 3,.c (.int 0)]) (.seq (.set 4 (.op pMod [.v 2,.v 3]))
 (.seq (.set 2 (.v 3))
 (.set 3 (.v 4)))))
 (.ret (.v 2)))))
def z2q:Fn:=Fn.mkN 2 2 (.ret (.op pSub [.op z09 [.op pIx [.v 0,.c (.int 0)],.op pIx [.v 1,.c (.int 1)]],.op z09 [.op pIx [.v 0,.c (.int 1)],.op pIx [.v 1,.c (.int 0)]]]))
def z1z:Fn:=Fn.mkN 2 2 (.ret (.op pTup [.op pSub [.op pIx [.v 1,.c (.int 0)],.op pIx [.v 0,.c (.int 0)]],.op pSub [.op pIx [.v 1,.c (.int 1)],.op pIx [.v 0,.c (.int 1)]]]))
def z2Q:Fn:=Fn.mkN 3 3 (.ret (.op z2q [.op z1z [.v 0,.v 1],.op z1z [.v 1,.v 2]]))
def z1y:Fn:=Fn.mkN 3 5 (.seq (.set 3 (.op pSub [.op z09 [.op pIx [.v 1,.c (.int 0)],.op pIx [.v 2,.c (.int 2)]],.op z09 [.op pIx [.v 2,.c (.int 0)],.op pIx [.v 1,.c (.int 2)]]]))
 (.seq (.set 4 (.op pSub [.op z09 [.op pIx [.v 1,.c (.int 1)],.op pIx [.v 2,.c (.int 2)]],.op z09 [.op pIx [.v 2,.c (.int 1)],.op pIx [.v 1,.c (.int 2)]]]))
 (.ret (.op pAdd [.op pSub [.op z09 [.op pIx [.v 0,.c (.int 0)],.v 4],.op z09 [.op pIx [.v 0,.c (.int 1)],.v 3]],.op z09 [.op pIx [.v 0,.c (.int 2)],.op pSub [.op z09 [.op pIx [.v 1,.c (.int 0)],.op pIx [.v 2,.c (.int 1)]],.op z09 [.op pIx [.v 1,.c (.int 1)],.op pIx [.v 2,.c (.int 0)]]]]]))))
def z0T:Fn:=Fn.mkN 2 5 (.seq (.set 2 (.op pSub [.op z09 [.op pIx [.v 1,.c (.int 0)],.op pIx [.v 0,.c (.int 2)]],.op z09 [.op pIx [.v 0,.c (.int 0)],.op pIx [.v 1,.c (.int 2)]]]))
 (.seq (.set 3 (.op pSub [.op z09 [.op pIx [.v 1,.c (.int 1)],.op pIx [.v 0,.c (.int 2)]],.op z09 [.op pIx [.v 0,.c (.int 1)],.op pIx [.v 1,.c (.int 2)]]]))
 (.seq (.set 4 (.op z07 [.v 2,.v 3]))
 (.ret (.op pTup [.op z0D [.v 2,.v 4],.op z0D [.v 3,.v 4]])))))
def z7P:Nat->Fn
 | 0=>z2Q
 | 1=>z1y
 | 2=>z1z
 | 3=>z0T
 | _=>⟨λ_ _ _=>False,λ_ _ _ _ _ _ _ z=>z⟩
def z1S:Fn:=Fn.mkN 2 4 (.seq (.own 2 (.op pLst []))
 (.seq (.for_ [] (.nm 3) (.v 0) (.seq (.wh (.and (.op pGt [.op pLen [.v 2],.c (.int 1)]) (.op pLe [.callv z7P 1 [.op pIx [.v 2,.op pNeg [.c (.int 2)]],.op pIx [.v 2,.op pNeg [.c (.int 1)]],.v 3],.c (.int 0)])) (.pop 2))
 (.app 2 (.v 3))))
 (.ret (.v 2))))
def z0I:Fn:=Fn.mkN 2 4 (.seq (.ifs (.op pLt [.op pLen [.v 0],.c (.int 2)]) (.ret (.op z3Z [.v 0])) .skip)
 (.seq (.set 2 (.op z1S [.v 0,.v 1]))
 (.seq (.set 3 (.op z1S [.op z1u [.v 0],.v 1]))
 (.ret (.op z3Z [.op pAdd [.sl (.v 2) none (some (.op pNeg [.c (.int 1)])),.sl (.v 3) none (some (.op pNeg [.c (.int 1)]))]])))))
def z19:Fn:=Fn.mkN 1 1 (.ret (.op z0I [.op z4d [.v 0],.c (.fn 0)]))
def z4f:Fn:=Fn.mkN 2 2 (.ret (.op pAdd [.op z09 [.op pIx [.v 0,.c (.int 0)],.op pIx [.v 1,.c (.int 0)]],.op z09 [.op pIx [.v 0,.c (.int 1)],.op pIx [.v 1,.c (.int 1)]]]))
end Pu
namespace Geo
def Hd (l h:List P):Prop:=∃rl:List P,rl.Pairwise Lx/\(∀p,p∈rl↔p∈l)/\h=hull rl
def Hd.is {l h:List P}(x:Hd l h)(hn:l≠[]):z04 (· ∈ l) h:=by
 obtain⟨rl,h1,h2,rfl⟩:=x;have hne:rl≠[]:=λz=>by
  cases l with
  | nil=>exact hn rfl
  | cons p l=>have:=(h2 p).mpr (by simp);rw[z] at this;cases this
 have:=zfl hne h1;have e:(λp=>p∈rl)=λp=>p∈l:=funext λp=>propext (h2 p);rw[e] at this;exact this
theorem z5L:∀{l:List P}{i:Nat}{a b:P},Path R l->l[i]? = some a->l[i+1]? = some b->R a b
 | [],_,_,_,_,e,_=>by simp at e
 | [_],i,_,_,_,e,f=>by simp at f
 | x::y::r,0,a,b,h,e,f=>by
  simp at e f;subst e;subst f;exact h.1
 | x::y::r,i+1,a,b,h,e,f=>z5L (l:=y::r) (i:=i) h.2 (by simpa using e) (by simpa using f)
theorem z3r:∀{u v:List P},Path R (u++v)->Path R v
 | [],_,h=>h
 | [x],[],_=>trivial
 | [x],y::v,h=>h.2
 | x::y::u,v,h=>z3r (u:=y::u) h.2
theorem z5i (det:∀a b c,R a b->R a c->b=c):∀{t:List P},m ∉ t->Path R (t++[m])->t.Nodup
 | [],_,_ =>.nil
 | a::t,hm,h=>by
  rw[vY];have hm':m ∉ t:=λz=>hm (wm _ z);refine⟨λha =>?_,z5i det hm' (z3r (u:=[a]) h)⟩;obtain⟨u,v,e⟩:=jJ ha;have h2:Path R (a::v++[m]):=by
   have:Path R ((a::u)++(a::v++[m])):=by rw[e] at h;simpa using h
   exact z3r this
  have hv:m ∉ v:=λz=>hm' (by rw[e];simp[z]);have:=z3a det hm' hv h h2;have:=congrArg List.length this;rw[e] at this;simp at this;lia
def z04.nodup (x:z04 S h):h.Nodup:=by
 obtain⟨m,t,rfl,h1,h2,h3,h4⟩:=x.ex
 rcases h4 with ⟨rfl,_⟩ | ⟨_,h4⟩
 .simp
 .rw[vY];exact⟨h3,z5i (λa b c e f=>e.det f) h3 (z3r (u:=[m]) h4)⟩
def z04.sub {S:P->Prop}{h:List P}(x:z04 S h):∀p∈h,S p:=by
 obtain⟨m,t,rfl,h1,h2,h3,h4⟩:=x.ex
 rcases h4 with ⟨rfl,_⟩ | ⟨ht,h4⟩
 .intro p hp;simp at hp;subst hp;exact h1
 .intro p hp;obtain⟨i,hi,e⟩:=vw.mp hp;have h5:(m::t++[m])[i]? = some p:=by rw[wN hi,wp hi,e]
  have hi2:i+1<(m::t++[m]).length:=by simp at hi ⊢;lia
  exact(z5L h4 h5 (wp hi2)).sa
def Edge.less (e:Edge S a b)(h:∀p,T p->S p)(ha:T a)(hb:T b):Edge T a b:=⟨ha,hb,e.ne,λp hp=>e.left p (h p hp),λp hp=>e.btw p (h p hp)⟩
theorem z6L (h:∀p,T p->S p):∀{l:List P},(∀p∈l,T p)->Path (Edge S) l->Path (Edge T) l
 | [],_,_=>trivial
 | [_],_,_=>trivial
 | a::b::r,hl,hp=>⟨hp.1.less h (hl a (by simp)) (hl b (by simp)),z6L h (l:=b::r) (λp hp=>hl p (wm _ hp)) hp.2⟩
def z04.of {S T:P->Prop}{h:List P}(x:z04 S h)(ht:∀p,T p->S p)(hh:∀p∈h,T p):z04 T h:=by
 obtain⟨m,t,rfl,h1,h2,h3,h4⟩:=x.ex;refine⟨m,t,rfl,hh m (by simp),λp hp=>h2 p (ht p hp),h3,?_⟩
 rcases h4 with ⟨rfl,h4⟩ | ⟨hne,h4⟩
 .exact .inl ⟨rfl,λp hp=>h4 p (ht p hp)⟩
 .exact .inr ⟨hne,z6L ht (λp hp=>by
   rcases wG.mp hp with z | z
   .exact hh p z
   .rw[wq.mp z];exact hh m (by simp)) h4⟩
def z3z {a b c:P}(e:Edge S a b)(f:Edge S b c)(h:a≠c):0<Qc a b c:=by
 have h0:=e.left c f.sb
 rcases jK h0 with z | z
 .exact z
 exfalso
 have z1:Qc a b c=0:=z.symm;have z2:Qc b c a=0:=by rw[<- z1];unfold Qc;grind
 obtain⟨p1,p2⟩:=e.btw c f.sb z1;obtain⟨q1,q2⟩:=f.btw a e.sa z2;have hab:=e.ne;have hbc:=f.ne;obtain⟨a1,a2⟩:=a;obtain⟨b1,b2⟩:=b;obtain⟨c1,c2⟩:=c;simp only[Qc,dot] at*;generalize hu1:b1 - a1=u1 at*;generalize hu2:b2 - a2=u2 at*;generalize hv1:c1 - a1=v1 at*;generalize hv2:c2 - a2=v2 at*;have e1:(c1 - b1)*(a1 - b1)+(c2 - b2)*(a2 - b2)=(u1*u1+u2*u2) - (u1*v1+u2*v2):=by
  have:c1 - b1=v1 - u1:=by lia
  have:c2 - b2=v2 - u2:=by lia
  have:a1 - b1 = -u1:=by lia
  have:a2 - b2 = -u2:=by lia
  grind
 have e2:(a1 - c1)*(b1 - c1)+(a2 - c2)*(b2 - c2)=(v1*v1+v2*v2) - (u1*v1+u2*v2):=by
  have:a1 - c1 = -v1:=by lia
  have:a2 - c2 = -v2:=by lia
  have:b1 - c1=u1 - v1:=by lia
  have:b2 - c2=u2 - v2:=by lia
  grind
 rw[e1] at p2;rw[e2] at q2;have lag:(u1*v1+u2*v2)*(u1*v1+u2*v2)=(u1*u1+u2*u2)*(v1*v1+v2*v2):=by
  have:(u1*u1+u2*u2)*(v1*v1+v2*v2) - (u1*v1+u2*v2)*(u1*v1+u2*v2)=(u1*v2 - u2*v1)*(u1*v2 - u2*v1):=by grind
  rw[z1] at this;lia
 have hd:0<=u1*v1+u2*v2:=by
  have:(v1*u1+v2*u2)=u1*v1+u2*v2:=by grind
  lia
 generalize hD:u1*v1+u2*v2=d at*;generalize hU:u1*u1+u2*u2=uu at*;generalize hV:v1*v1+v2*v2=vv at*;have uun:0<=uu:=by have:=z0c u1;have:=z0c u2;lia
 have vvn:0<=vv:=by have:=z0c v1;have:=z0c v2;lia
 have duu:d*d<=uu*d:=wM (by lia) hd;have dvv:uu*d<=uu*vv:=vB (by lia) uun;have hz1:uu*(vv - d)=0:=by
  have:uu*(vv - d)=uu*vv - uu*d:=by grind
  omega
 rcases wK.mp hz1 with z | z
 .obtain⟨k1,k2⟩:=z3c (hU.trans z);exact hab (vV (by show a1=b1;lia) (by show a2=b2;lia))
 .have hvd:vv=d:=by lia
  have hz2:d*(uu - d)=0:=by
   have:d*(uu - d)=uu*d - d*d:=by grind
   rw[hvd] at lag;omega
  rcases wK.mp hz2 with z | z
  .have hv0:v1*v1+v2*v2=0:=by lia
   obtain⟨k1,k2⟩:=z3c hv0;exact h (vV (by show a1=c1;lia) (by show a2=c2;lia))
  .have hw:(u1 - v1)*(u1 - v1)+(u2 - v2)*(u2 - v2)=0:=by
    have:(u1 - v1)*(u1 - v1)+(u2 - v2)*(u2 - v2)=(u1*u1+u2*u2) - 2*(u1*v1+u2*v2)+(v1*v1+v2*v2):=by grind
    lia
   obtain⟨k1,k2⟩:=z3c hw;exact hbc (vV (by show b1=c1;lia) (by show b2=c2;lia))
end Geo
local macro_rules | `(tactic| walk_at "bt") => `(tactic| first | assumption | (refine L2.Bt.add ?_ ?_ <;> walk_at "bt") | (refine L2.Bt.sub ?_ ?_ <;> walk_at "bt") | (refine L2.Bt.mul ?_ ?_ <;> walk_at "bt") | (apply L2.Bt.neg;walk_at "bt") | exact L2.bt_k (by decide +kernel) | exact L2.bt_n (by omega) (by omega))
local macro_rules | `(tactic| walk_at "mu") => `(tactic| exact⟨L2.Bt.le (by walk_at "bt") (by decide),L2.Bt.le (by walk_at "bt") (by decide)⟩)
local macro_rules | `(tactic| walk_at "ps") => `(tactic| first | assumption | decide | omega)
local macro_rules | `(tactic| walk_at "bb") => `(tactic| first | exact L2.z6l (by decide) (by decide) | exact L2.Bt.le (by walk_at "bt") (by decide) | exact L2.z6l (by omega) (by omega))
local macro_rules | `(tactic| walk_at "sf") => `(tactic| first | exact Pu.Safe.of_noL rfl rfl _ | exact Pu.Safe.of_noL (Pu.z61 _) (Pu.z64 _) _ | (repeat (first | exact trivial | refine⟨trivial,?_⟩)) | assumption)
local macro_rules | `(tactic| walk_at "en") => `(tactic| try simp only[List.set_cons_zero,List.set_cons_succ,ve,Wk,List.replicate,u7,List.nil_append,Nat.reduceSub,Pu.dem,Pu.vis,Pu.visB,Pu.demB,List.getElem?_cons_zero,uS,Option.getD_some,Pu.z0s,List.replicate_succ,List.replicate_zero])
local macro_rules | `(tactic| walk_at "st") => `(tactic| first
 | with_reducible apply Pu.e_c
 | ((with_reducible apply Pu.e_v);(apply Pu.zaw))
 |(with_reducible first|apply Pu.zjF|apply Pu.zjG|apply Pu.zjE|apply Pu.zjD|apply Pu.zjC|apply Pu.zen|apply Pu.zg8|apply Pu.zjq|apply Pu.zjk|apply Pu.zjm)| ((with_reducible apply Pu.zf4);(focus walk_at "mu"))
 | ((with_reducible apply Pu.zhG);(focus walk_at "ps");(focus walk_at "bb"))
 | ((with_reducible apply Pu.zax);(focus walk_at "ps"))
 | ((with_reducible apply Pu.zjl);(focus exact⟨by decide,by decide,by decide⟩))
 | ((with_reducible apply Pu.zhB);(try apply Pu.zaw))
 | ((with_reducible apply Pu.zhC);(try apply Pu.zaw))
 |(with_reducible first|apply Pu.o_lt|apply Pu.o_le|apply Pu.o_gt|apply Pu.o_eq|apply Pu.o_ne|apply Pu.o_is|apply Pu.zdG|apply Pu.zdF)| ((with_reducible apply Pu.zjj);(focus (simp only[w5,v7];decide)))
 | ((with_reducible apply Pu.zjo);(focus (simp only[w5,v7];decide)))
 |(with_reducible first|apply Pu.zht|apply Pu.zhA|apply Pu.zjr|apply Pu.zhE|apply Pu.zhD|apply Pu.zhw|apply Pu.zjI|apply Pu.e_or|apply Pu.zjH|apply Pu.n_bl|apply Pu.zi5|apply Pu.zjz|apply Pu.zjy|apply Pu.e_sl|apply Pu.zhb|apply Pu.zha|apply Pu.zhZ|apply Pu.zjP|apply Pu.zjO|apply Pu.z3W|apply Pu.z1B|apply Pu.z9P|apply Pu.zeh|apply Pu.zbT|apply Pu.s_if|apply Pu.ziu|apply Pu.z9O)| ((with_reducible apply Pu.ziw);(walk_at "en"))
 |(with_reducible first|apply Pu.zej|apply Pu.zei)| ((with_reducible apply Pu.z1k);(focus walk_at "sf");(walk_at "en"))
 | ((with_reducible apply Pu.zjM);(walk_at "en"))
 | ((with_reducible apply Pu.zib);(walk_at "en")))
local macro_rules | `(tactic| walk_at "go") => `(tactic| repeat walk_at "st")
local macro_rules | `(tactic| walk_at "fn") => `(tactic| ((refine Pu.ziz rfl ?_);(walk_at "en")))
local macro_rules | `(tactic| walk_at "fe") => `(tactic| ((refine Pu.ziA rfl ?_);(walk_at "en")))
local macro_rules | `(tactic| ac_nf) => `(tactic| walk_at "go")
local macro_rules | `(tactic| ac_rfl) => `(tactic| walk_at "en")
namespace Pu
open PySem L2
def szl (h:n<=1000000):n<=sizeLine:=wO h (by decide)
def szl' {n:Nat}(h:n<=1000000):n<sizeLine:=uM h (by decide)
abbrev Vb (n:Nat)(p:Int × Int):Prop:=Bt n p.1/\Bt n p.2
abbrev Wb (n:Nat)(l:List (Int × Int)):Prop:=∀p∈l,Vb n p
theorem Vb.le {m n:Nat}{p:Int × Int}(h:Vb m p)(q:m<=n:=by decide):Vb n p:=⟨h.1.le q,h.2.le q⟩
theorem Wb.le {m n:Nat}{l:List (Int × Int)}(h:Wb m l)(q:m<=n:=by decide):Wb n l:=λp hp=>(h p hp).le q
def z6C (h1:Vb 30000000 p)(h2:Vb 30000000 r)(q:Q (.int (p.1*r.2 - p.2*r.1))):z2q.run [vec p,vec r] Q X:=by
 obtain⟨a1,a2⟩:=h1;obtain⟨b1,b2⟩:=h2;walk_at "fn";ac_nf;exact q
def z4o (q:Q (vec (r.1 - p.1,r.2 - p.2))):z1z.run [vec p,vec r] Q X:=by
 walk_at "fn";ac_nf;exact q
def Vb.step {p r:Int × Int}(h:Vb 20000000 p)(k:Vb 20000000 r):Vb 30000000 (r.1 - p.1,r.2 - p.2):=⟨(Bt.sub k.1 h.1).le,(Bt.sub k.2 h.2).le⟩
def z9L {a b c:Int × Int}{Q:DK}{X:XP}(h1:Vb 20000000 a)(h2:Vb 20000000 b)(h3:Vb 20000000 c)(q:Q (.int (Qc a b c))):z2Q.run [vec a,vec b,vec c] Q X:=by
 walk_at "fn";ac_nf;refine z4o ?_;ac_nf;refine z4o ?_;refine z6C (h1.step h2) (h2.step h3) ?_;have e:(b.1 - a.1)*(c.2 - b.2) - (b.2 - a.2)*(c.1 - b.1)=Qc a b c:=by unfold Qc;grind
 k_in;rw[e];exact q
def z4B {T:Nat->Fn}{i n:Nat}{es:List Ex}{ρ:Pu.Env}{Q:DK}{X:XP}(h:ρ.get i=some (.fn n))(q:runs es ρ (λds=>(T n).run ds Q X) X):(Ex.callv T i es).run ρ Q X:=⟨n,h,q⟩
def z6Y (q:Q (.lst l.reverse)):z1u.run [.lst l] Q X:=q
def ze0 {α:Type}{b:α}{r:List α}:atI (b::r).reverse (-1)=some b:=by
 unfold atI ixN;rw[if_neg (by decide),j8,w5,if_pos (by lia)];show (b::r).reverse[((-1:Int)+((r.length+1:Nat):Int)).toNat]? = some b;rw[show ((-1:Int)+((r.length+1:Nat):Int)).toNat=r.length by lia];simp
def zbt {α:Type}{a b:α}{r:List α}:atI (b::a::r).reverse (-2)=some a:=by
 unfold atI ixN;rw[if_neg (by decide),j8,w5,w5,if_pos (by lia)];show (b::a::r).reverse[((-2:Int)+((r.length+1+1:Nat):Int)).toNat]? = some a;rw[show ((-2:Int)+((r.length+1+1:Nat):Int)).toNat=r.length by lia];simp
def z5d {l:List (Int × Int)}{Q:DK}{X:XP}(hb:Wb 20000000 l)(hz:l.length<=100000)(q:Q (.lst ((z1F l).reverse.map vec))):z1S.run [.lst (l.map vec),.fn 0] Q X:=by
 walk_at "fn";refine z9P (zbT ?_);ac_nf;refine z3d (λx hx=>by cases hx) ?_;ac_rfl;ac_nf;refine z0u (f:=vec) (λdn ρ=>∃(st:List (Int × Int)) (x:B),st=z1F dn/\(∀p∈st,p∈l)/\st.length<=dn.length/\ρ=[.s (.lst (l.map vec)),.s (.fn 0),.o (.lst (st.reverse.map vec)),x]) ⟨[],_,rfl,(λp hp=>by cases hp),wx _,rfl⟩ ?_ ?_
 .rintro dn v r ρ e ⟨st,x,hst,hsub,hlen,rfl⟩;have hv:v∈l:=by rw[e];simp
  l_bnd;ac_rfl;refine Sm.cut (λρ=>∃st':List (Int × Int),st'=pops v st/\(∀p∈st',p∈l)/\st'.length<=dn.length/\ρ=[.s (.lst (l.map vec)),.s (.fn 0),.o (.lst (st'.reverse.map vec)),.s (vec v)]) ?_ ?_
  .refine z6s (λρ=>∃st':List (Int × Int),pops v st'=pops v st/\(∀p∈st',p∈l)/\st'.length<=dn.length/\ρ=[.s (.lst (l.map vec)),.s (.fn 0),.o (.lst (st'.reverse.map vec)),.s (vec v)]) (λρ=>nL ρ 2) ⟨st,rfl,hsub,hlen,rfl⟩ ?_;rintro ρ ⟨st',h1,h2,h3,rfl⟩;ac_nf
   match st',h1,h2,h3 with
   | [],h1,h2,h3=>
    refine t_no (by simp) ?_;refine z1B ?_;exact⟨[],by rw[<- h1];rfl,h2,h3,rfl⟩
   | [b],h1,h2,h3=>
    refine t_no (by simp) ?_;refine z1B ?_;exact⟨[b],by rw[<- h1];rfl,h2,h3,rfl⟩
   | b::a::r,h1,h2,h3=>
    refine z3G (by simp;lia) ?_;ac_nf;refine z4B rfl ?_;ac_nf;refine z1f (z0w zbt) ?_;ac_nf;refine z1f (z0w ze0) ?_;ac_nf;have hB:∀p,p∈l->Vb 20000000 p:=hb;refine z9L (hB a (h2 a (by simp))) (hB b (h2 b (by simp))) (hB v hv) ?_;ac_nf;refine z0y (λhc =>?_) (λhc =>?_)
    .refine zfZ (z0x rfl ?_);unfold popL;rw[wg,j8,wB,show (b::a::r).reverse[(b::a::r).length - 1]? = some b by simp];refine⟨⟨a::r,?_,λp hp=>h2 p (wm _ hp),by simp at h3 ⊢;lia,?_⟩,?_⟩
     .rw[<- h1];show _=pops v (b::a::r);rw[pops,if_pos hc]
     .simp
     .show List.length _<List.length _;simp
    .exact⟨b::a::r,by rw[<- h1,pops,if_neg hc],h2,h3,rfl⟩
  .rintro ρ ⟨st',h1,h2,h3,rfl⟩;refine z3p (l:=[]) (z0x rfl ?_);ac_nf;have hdl:dn.length<l.length:=by rw[e];simp
   refine⟨by simp;exact szl' (by lia),Safe.of_noL rfl rfl _,?_⟩;ac_rfl;refine⟨v::st',.s (vec v),?_,λp hp =>?_,by simp;lia,by simp⟩
   .unfold z1F at hst ⊢;rw[List.foldl_append, <- hst,h1]
    rfl
   .rcases ww.mp hp with rfl | hp
    .exact hv
    .exact h2 p hp
 rintro ρ ⟨st,x,hst,hsub,hlen,rfl⟩;ac_nf;rw[hst];exact q
def z4g {α:Type}(l:List α):(l.drop (HT.sIx l.length 0 none)).take (HT.sIx l.length l.length (some (-1)) - HT.sIx l.length 0 none)=l.dropLast:=by
 rw[List.dropLast_eq_take];show (l.drop 0).take ((if (-1:Int)<0 then ((-1:Int)+(l.length:Int)).toNat else min (-1:Int).toNat l.length) - 0)=_;rw[if_pos (by decide),List.drop_zero]
 congr 1
 lia
def z5F (hb:Wb 20000000 l)(hz:l.length<=100000)(q:Q (vecs (hull l))):z0I.run [.lst (l.map vec),.fn 0] Q X:=by
 walk_at "fn";ac_nf;rw[wg];refine z0y (λh =>?_) (λh =>?_)
 .ac_nf;rw[hull,if_pos (by lia)] at q;exact q
 ac_nf;refine z5d hb hz ?_;have c1:∀(l:List (Int × Int)) (s:List (Int × Int)),(l.foldl (λs v=>v::pops v s) s).length<=l.length+s.length:=by
  have c0:∀(v:Int × Int) (s:List (Int × Int)),(pops v s).length<=s.length:=by
   intro v s
   induction s with
   | nil=>exact wx _
   | cons b s ih=>
    cases s with
    | nil=>exact wx _
    | cons a s=>
     rw[pops]
     split
     .exact jS ih
     .exact wx _
  intro l
  induction l with
  | nil=>intro s;simp
  | cons v l ih=>
   intro s;rw[List.foldl_cons];have:=ih (v::pops v s);have:=c0 v s;simp only[w5] at*;lia
 have c2:(z1F l).length<=l.length:=wO (c1 l []) (wx _);have c3:(z1F l.reverse).length<=l.length:=wO (c1 l.reverse []) (by simp);refine z1k ?_ ?_
 .exact⟨trivial,trivial,trivial,trivial,trivial⟩
 ac_rfl;ac_nf;refine z6Y ?_;ac_nf;rw[<- uP];refine z5d (λp hp=>hb p (by simpa using hp)) (by simpa using hz) ?_;refine z1k ⟨trivial,trivial,trivial,trivial,trivial⟩ ?_;ac_rfl;ac_nf;rw[z2n,z2n,z4g,z4g];refine z6Z (by simp;exact szl (by lia)) ?_;ac_nf;rw[<- wY];rw[hull,if_neg (by lia)] at q;exact q
def zaL:HT.z0j [a.1,a.2] [b.1,b.2]=true↔Lx a b:=by
 rw[HT.z1e,HT.z1e];unfold Lx
 split
 .rename_i h
  split
  .rename_i h'
   rw[HT.z2A]
   w_up
   .intro z;cases z
   .rintro(z | z) <;> lia
  .simp;lia
 .simp;lia
def pk (p:Int × Int):List Int:=[p.1,p.2]
def zdA (h:pk p=pk r):p=r:=by
 unfold pk at h
 injection h with h1 h2
 injection h2 with h2 _
 exact vV h1 h2
def zbY:∀{ks kl:List (List Int)}{l:List (Int × Int)},ks=l.map pk->Rows ks kl->∃rl:List (Int × Int),kl=rl.map pk/\rl.Pairwise Lx/\∀p,p∈rl↔p∈l:=by
 intro ks kl l e h;have h1:∀k∈kl,∃p,k=pk p:=λk hk=>by
  have:=(h.mem k).mp hk;rw[e] at this;obtain⟨p,_,rfl⟩:=wv.mp this;exact⟨p,rfl⟩
 have h2:∃rl:List (Int × Int),kl=rl.map pk:=by
  clear h e
  induction kl with
  | nil=>exact⟨[],rfl⟩
  | cons k kl ih=>
   obtain⟨p,hp⟩:=h1 k wJ;obtain⟨rl,hr⟩:=ih λk hk=>h1 k (wm _ hk);exact⟨p::rl,by rw[hp,hr];rfl⟩
 obtain⟨rl,rfl⟩:=h2;refine⟨rl,rfl,?_,λp =>?_⟩
 .have:=h.up;rw[vp] at this;exact this.imp λz=>zaL.mp z
 .have:=h.mem (pk p);rw[e] at this
  w_up
  .intro hp;obtain⟨r,hr,er⟩:=wv.mp (this.mp (wv.mpr ⟨p,hp,rfl⟩));rw[<- zdA er];exact hr
  .intro hp;obtain⟨r,hr,er⟩:=wv.mp (this.mpr (wv.mpr ⟨p,hp,rfl⟩));rw[<- zdA er];exact hr
def Vs (d:D)(l:List (Int × Int)):Prop:=d = .tup (l.map vec)\/d = .lst (l.map vec)
def z9t (l:List (Int × Int)):l.map vec=(l.map pk).map tupD:=by rw[vM];rfl
def Vs.set {d:D}{l:List (Int × Int)}{P:List (List Int)->Prop}(h:Vs d l)(hz:l.length<=63)(q:P (l.map pk)):z8S d P:=by
 rcases h with rfl | rfl
 .exact⟨l.map pk,z9t l,by simpa using hz,q⟩
 .exact⟨l.map pk,z9t l,by simpa using hz,q⟩
def z44 (hd:Vs d l)(hb:Wb 20000000 l)(hz:l.length<=63)(q:∀h,Hd l h->Q (vecs h)):z19.run [d] Q X:=by
 walk_at "fn";ac_nf;refine hd.set hz ⟨λk hk =>?_,λkl h =>?_⟩
 .obtain⟨p,_,rfl⟩:=wv.mp hk;unfold pk;simp
 obtain⟨rl,rfl,h1,h2⟩:=zbY rfl h;ac_nf;rw[<- z9t];have nd:rl.Nodup:=h1.imp λz=>z.ne;have hl:rl.length<=l.length:=z0N nd λx hx=>(h2 x).mp hx;exact z5F (λp hp=>hb p ((h2 p).mp hp)) (by lia) (q _ ⟨rl,h1,h2,rfl⟩)
end Pu
namespace Geo
def z04.cyc {S:P->Prop}{h:List P}(x:z04 S h)(hl:2<=h.length){j:Nat}(hj:j<h.length){a b:P}(ea:h[(j+h.length - 1) % h.length]? = some a)(eb:h[j]? = some b):Edge S a b:=by
 obtain⟨m,t,rfl,h1,h2,h3,h4⟩:=x.ex
 rcases h4 with ⟨rfl,_⟩ | ⟨_,h4⟩
 .simp at hl
 cases j with
 | zero=>
  rw[show (0+(m::t).length - 1) % (m::t).length=(m::t).length - 1 by rw[je];exact wQ (by lia)] at ea;simp at eb;subst eb;refine z5L (i:=(m::t).length - 1) h4 ?_ ?_
  .rw[wN (by lia)];exact ea
  .rw[show (m::t).length - 1+1=(m::t).length by lia,w9 (wx _)];simp
 | succ j=>
  rw[show (j+1+(m::t).length - 1) % (m::t).length=j by rw[show j+1+(m::t).length - 1=j+(m::t).length by lia,vS];exact wQ (by lia)] at ea;refine z5L (i:=j) h4 ?_ ?_
  .rw[wN (by lia)];exact ea
  .rw[wN hj];exact eb
def In (h:List P)(p:P):Prop:=match h with
 | []=>False
 | [m]=>p=m
 | [a,b]=>Qc a b p=0/\0<=dot a b p/\0<=dot b a p
 | h=>∀j a b,j<h.length->h[(j+h.length - 1) % h.length]? = some a->h[j]? = some b->0<=Qc a b p
def In.three (hl:3<=h.length):In h p↔∀j a b,j<h.length->h[(j+h.length - 1) % h.length]? = some a->h[j]? = some b->0<=Qc a b p:=by
 match h,hl with
 | a::b::c::r,_=>exact Iff.rfl
def z04.in {S:P->Prop}{h:List P}(x:z04 S h){p:P}(hp:S p):In h p:=by
 match h,x with
 | [],x=>obtain⟨m,t,e,_⟩:=x.ex;cases e
 | [m],x=>
  obtain⟨m',t,e,h1,h2,h3,h4⟩:=x.ex
  cases e
  rcases h4 with ⟨_,h4⟩ | ⟨h4,_⟩
  .exact h4 p hp
  .exact absurd rfl h4
 | [a,b],x=>
  have e1:Edge S a b:=x.cyc (j:=1) (by simp) (by simp) (by simp) rfl;have e2:Edge S b a:=x.cyc (j:=0) (by simp) (by simp) (by simp) rfl;have z0:Qc b a p = -Qc a b p:=by unfold Qc;grind
  have z:Qc a b p=0:=by have:=e1.left p hp;have:=e2.left p hp;lia
  exact⟨z,e1.btw p hp z⟩
 | a::b::c::r,x=>exact λj y z hj ey ez=>(x.cyc (by simp) hj ey ez).left p hp
def cy (h:List P)(i:Nat):P:=h.getD (i % h.length) (0,0)
def z22 {h:List P}{i:Nat}(hl:0<h.length):h[i % h.length]? = some (cy h i):=by
 unfold cy;have:=ut i hl;rw[uZ,wp this]
 rfl
def z4E (hl:0<h.length):cy h i∈h:=wy (z22 hl)
def z5J (hn:0<n):((i+1) % n+n - 1) % n=i % n:=by
 have hr:=ut i hn;have e:(i+1) % n=(i % n+1) % n:=by simp
 rw[e]
 rcases vD (i % n+1) n with z | z
 .rw[wQ z,show i % n+1+n - 1=i % n+n by lia,vS,wQ hr]
 .have:i % n+1=n:=by lia
  rw[this,Nat.mod_self,je,wQ (by lia)];lia
def z6h (x:z04 S h)(hl:2<=h.length)(i:Nat):Edge S (cy h i) (cy h (i+1)):=
 x.cyc hl (j:=(i+1) % h.length) (ut _ (by lia)) (by rw[z5J (by lia)];exact z22 (by lia)) (z22 (by lia))
def zbc (x:z04 S h)(hl:3<=h.length)(i:Nat):cy h i≠cy h (i+2):=λz=>by
 have nd:=x.nodup;have h1:=z22 (h:=h) (i:=i) (by lia);have h2:=z22 (h:=h) (i:=i+2) (by lia);rw[<- z] at h2;obtain⟨g1,q1⟩:=wu.mp h1;obtain⟨g2,q2⟩:=wu.mp h2;have e:i % h.length=(i+2) % h.length:=by
  rcases jV (i % h.length) ((i+2) % h.length) with y | y | y
  .exact(ui.mp nd _ _ g1 g2 y (q1.trans q2.symm)).elim
  .exact y
  .exact(ui.mp nd _ _ g2 g1 y (q2.trans q1.symm)).elim
 have hr:=ut i (show 0<h.length by lia);have e2:(i+2) % h.length=(i % h.length+2) % h.length:=by simp
 rw[e2] at e;generalize i % h.length=r at*
 rcases vD (r+2) h.length with y | y
 .rw[wQ y] at e;lia
 .have e3:(r+2) % h.length=r+2 - h.length:=by
   rw[Nat.mod_eq_sub_mod y];exact wQ (by lia)
  rw[e3] at e;lia
theorem zan:∀{l:List P},(∀i a b,l[i]? = some a->l[i+1]? = some b->R a b)->Path R l
 | [],_=>trivial
 | [_],_=>trivial
 | x::y::r,h=>⟨h 0 x y rfl rfl,zan (l:=y::r) λi a b ea eb=>h (i+1) a b (by simpa using ea) (by simpa using eb)⟩
def zcH (h1:0<=Qc y m p)(h2:0<=Qc m z p)(h3:0<Qc y m z)(l1:Lx m y)(l2:Lx m z)(l3:Lx p m):False:=by
 unfold Lx at l1 l2 l3;have q:=ze5 (u1:=y.1 - m.1) (u2:=y.2 - m.2) (w1:=m.1 - p.1) (w2:=m.2 - p.2) (z1:=z.1 - m.1) (z2:=z.2 - m.2) (by lia) (by lia) (by lia) (by unfold Qc at h1;grind) (by unfold Qc at h2;grind);unfold Qc at h3
 grind
def z04.fill (x:z04 S h)(hT:∀p∈h,T p)(hi:∀p,T p->In h p):z04 T h:=by
 have sub:=x.sub
 match h,x,hT,hi,sub with
 | [],x,_,_,_=>obtain⟨m,t,e,_⟩:=x.ex;cases e
 | [m],x,hT,hi,_=>exact⟨m,[],rfl,hT m (by simp),λp hp=>by rw[hi p hp];exact Lx.irr,by simp,.inl ⟨rfl,hi⟩⟩
 | [a,b],x,hT,hi,sub=>
  obtain⟨m,t,e,h1,h2,h3,h4⟩:=x.ex
  cases e
  have e1:Edge S a b:=x.cyc (j:=1) (by simp) (by simp) (by simp) rfl;have hlt:Lx a b:=by
   rcases Lx.tri a b with z | z | z
   .exact z
   .exact absurd z e1.ne
   .exact absurd z (h2 b e1.sb)
  refine⟨a,[b],rfl,hT a (by simp),λp hp z =>?_,h3,.inr ⟨by simp,⟨⟨hT a (by simp),hT b (by simp),e1.ne,λp hp =>?_,λp hp _=>(hi p hp).2⟩,⟨hT b (by simp),hT a (by simp),vU e1.ne,λp hp =>?_,λp hp _=>⟨(hi p hp).2.2,(hi p hp).2.1⟩⟩,trivial⟩⟩⟩
  .obtain⟨y1,y2,y3⟩:=hi p hp;obtain⟨a1,a2⟩:=a;obtain⟨b1,b2⟩:=b;obtain⟨p1,p2⟩:=p;simp only[Qc,dot,Lx] at*;generalize hu1:b1 - a1=u1 at*;generalize hu2:b2 - a2=u2 at*;generalize hq1:p1 - a1=q1 at*;generalize hq2:p2 - a2=q2 at*;have hz:q1<0\/q1=0/\q2<0:=by lia
   rcases(show 0<u1\/u1=0/\0<u2 by lia) with k1 | ⟨k1,k2⟩
   .have e1:(q1*u1+q2*u2)*u1=q1*(u1*u1+u2*u2):=by grind
    have n1:=z0c u1;have n2:=z0c u2;have n3:0<u1*u1:=wP k1 k1;have e2:0<=q1*(u1*u1+u2*u2):=by rw[<- e1];exact wH y2 (vf k1)
    have e3:0<=q1:=z1Z (show 0<u1*u1+u2*u2 by lia) e2;have e4:q1=0:=by lia
    subst e4;have e5:u1*q2=0:=by lia
    rcases wK.mp e5 with z | z <;> lia
   .subst k1;have e5:u2*q1=0:=by lia
    rcases wK.mp e5 with z | z
    .lia
    .subst z;have:0<=q2*u2:=by lia
     have:=z1Z k2 this;lia
  .rw[(hi p hp).1];exact ul _
  .have z0:Qc b a p = -Qc a b p:=by unfold Qc;grind
   rw[z0,(hi p hp).1];exact ul _
 | a0::b0::c0::r0,x,hT,hi,sub=>
  generalize hh:a0::b0::c0::r0=h at*;have hl:3<=h.length:=by rw[<- hh];simp
  have hi':∀p,T p->∀i,0<=Qc (cy h i) (cy h (i+1)) p:=λp hp i=>by
   have q:=(In.three hl).mp (hi p hp) ((i+1) % h.length) (cy h i) (cy h (i+1)) (ut _ (by lia));exact q (by rw[z5J (by lia)];exact z22 (by lia)) (z22 (by lia))
  have ed:=z6h x (by lia);have ne2:=zbc x hl;have tn:∀i,0<Qc (cy h i) (cy h (i+1)) (cy h (i+2)):=λi=>z3z (ed i) (ed (i+1)) (ne2 i);have ct:∀i,T (cy h i):=λi=>hT _ (z4E (by lia));have ed':∀i,Edge T (cy h (i+1)) (cy h (i+2)):=λi=>⟨ct _,ct _,(ed (i+1)).ne,λp hp=>hi' p hp (i+1),λp hp z=>⟨z8k (tn i) (hi' p hp i) z,zaz (tn (i+1)) (hi' p hp (i+2)) z⟩⟩
  have per:∀i,cy h (i+h.length)=cy h i:=λi=>by unfold cy;rw[vS]
  obtain⟨m,t,e,h1,h2,h3,h4⟩:=x.ex;have em:cy h 0=m:=by unfold cy;rw[e];simp
  refine⟨m,t,e,hT m (by rw[e];simp),λp hp z =>?_,h3,.inr ⟨λy=>by rw[e,y] at hl;simp at hl,zan λi a b ea eb =>?_⟩⟩
  .have l1:Lx m (cy h 1):=by
    rcases Lx.tri m (cy h 1) with y | y | y
    .exact y
    .exact absurd (em.trans y) (ed 0).ne
    .exact absurd y (h2 _ (ed 0).sb)
   have el:Edge S (cy h (h.length - 1)) m:=by
    have:=ed (h.length - 1);rw[show h.length - 1+1=0+h.length by lia,per,em] at this;exact this
   have l2:Lx m (cy h (h.length - 1)):=by
    rcases Lx.tri m (cy h (h.length - 1)) with y | y | y
    .exact y
    .exact absurd y.symm el.ne
    .exact absurd y (h2 _ el.sa)
   have p1:=hi' p hp (h.length - 1);rw[show h.length - 1+1=0+h.length by lia,per,em] at p1;have p2:=hi' p hp 0;rw[em] at p2;have p3:=tn (h.length - 1);rw[show h.length - 1+1=0+h.length by lia,show h.length - 1+2=1+h.length by lia,per,per,em] at p3;exact zcH p1 p2 p3 l2 l1 z
  .have hn:h.length=t.length+1:=by rw[e];simp
   have get:∀i z,(m::t++[m])[i]? = some z->i<=h.length/\z=cy h i:=λi z ez=>by
    rcases jV i h.length with y | y | y
    .rw[<- e,wN y] at ez;refine⟨by lia,?_⟩;have:=z22 (h:=h) (i:=i) (by lia);rw[wQ y,ez] at this;exact(vk this)
    .rw[<- e,w9 (by lia),y] at ez;simp at ez;refine⟨by lia,?_⟩;rw[show i=0+h.length by lia,per,em];exact ez.symm
    .rw[<- e,jd (by simp;lia)] at ez
     cases ez
   obtain⟨i1,rfl⟩:=get i a ea;obtain⟨i2,rfl⟩:=get (i+1) b eb;have:=ed' (i+h.length - 1);rw[show i+h.length - 1+1=i+h.length by lia,show i+h.length - 1+2=i+1+h.length by lia,per,per] at this;exact this
def Qb (p b:P):Int:=p.1*b.1+p.2*b.2
def z9e (b:P):∀{h:List P},h≠[]->∃i,i<h.length/\∀p∈h,Qb p b<=Qb (cy h i) b:=by
 have main:∀{h:List P},h≠[]->∃c∈h,∀p∈h,Qb p b<=Qb c b:=by
  intro h
  induction h with
  | nil=>intro z;exact absurd rfl z
  | cons x r ih=>
   intro _
   cases r with
   | nil=>exact⟨x,by simp,λp hp=>by simp at hp;subst hp;exact ul _⟩
   | cons y r=>
    obtain⟨c,hc,hm⟩:=ih (by simp)
    by_cases z:Qb x b<=Qb c b
    .refine⟨c,wm _ hc,λp hp =>?_⟩
     rcases ww.mp hp with rfl | hp
     .exact z
     .exact hm p hp
    .refine⟨x,by simp,λp hp =>?_⟩
     rcases ww.mp hp with rfl | hp
     .exact ul _
     .have:=hm p hp;lia
 intro h hn;obtain⟨c,hc,hm⟩:=main hn;obtain⟨i,hi,e⟩:=vw.mp hc;refine⟨i,hi,λp hp =>?_⟩;have:cy h i=c:=by
  have:=z22 (h:=h) (i:=i) (by lia);rw[wQ hi,wp hi,e] at this;exact(vk this).symm
 rw[this];exact hm p hp
def z04.far (x:z04 S h)(hp:In h p)(b:P):∃c∈h,Qb p b<=Qb c b:=by
 match h,x,hp with
 | [],x,_=>obtain⟨m,t,e,_⟩:=x.ex;cases e
 | [m],x,hp=>exact⟨m,by simp,by rw[show p=m from hp];exact ul _⟩
 | [y,z],x,hp=>
  obtain⟨h1,h2,h3⟩:=hp;have e1:Edge S y z:=x.cyc (j:=1) (by simp) (by simp) (by simp) rfl;have hne:=e1.ne;obtain⟨y1,y2⟩:=y;obtain⟨z1,z2⟩:=z;obtain⟨p1,p2⟩:=p;obtain⟨b1,b2⟩:=b;simp only[Qc,dot] at h1 h2 h3;generalize hu1:z1 - y1=u1 at*;generalize hu2:z2 - y2=u2 at*;generalize hq1:p1 - y1=q1 at*;generalize hq2:p2 - y2=q2 at*;have hpos:0<u1*u1+u2*u2:=by
   have:=z0c u1;have:=z0c u2
   rcases jK (show 0<=u1*u1+u2*u2 by lia) with k | k
   .exact k
   .obtain⟨k1,k2⟩:=z3c k.symm;exact(hne (vV (by show y1=z1;lia) (by show y2=z2;lia))).elim
  by_cases hb:0<=u1*b1+u2*b2
  .refine⟨(z1,z2),by simp,?_⟩;simp only[Qb];have k1:y1 - z1 = -u1:=by lia
   have k2:y2 - z2 = -u2:=by lia
   have k3:p1 - z1=q1 - u1:=by lia
   have k4:p2 - z2=q2 - u2:=by lia
   rw[k1,k2,k3,k4] at h3;have id1:(z1*b1+z2*b2 - (p1*b1+p2*b2))*(u1*u1+u2*u2)=((q1 - u1) * -u1+(q2 - u2) * -u2)*(u1*b1+u2*b2)+(u1*q2 - u2*q1)*(u2*b1 - u1*b2):=by
    have e1:z1=u1+y1:=by lia
    have e2:z2=u2+y2:=by lia
    have e3:p1=q1+y1:=by lia
    have e4:p2=q2+y2:=by lia
    subst e1 e2 e3 e4
    grind
   rw[h1,jw,Int.add_zero] at id1;have:=z1Z hpos (by rw[id1];exact wH h3 hb);lia
  .refine⟨(y1,y2),by simp,?_⟩;simp only[Qb];have id1:(y1*b1+y2*b2 - (p1*b1+p2*b2))*(u1*u1+u2*u2)=(q1*u1+q2*u2) * -(u1*b1+u2*b2) - (u1*q2 - u2*q1)*(u1*b2 - u2*b1):=by
    have e3:p1=q1+y1:=by lia
    have e4:p2=q2+y2:=by lia
    subst e3 e4
    grind
   rw[h1,jw,Int.sub_zero] at id1;have:=z1Z hpos (by rw[id1];exact wH h2 (by lia));lia
 | a0::b0::c0::r0,x,hp=>
  generalize hh:a0::b0::c0::r0=h at*;have hl:3<=h.length:=by rw[<- hh];simp
  have hi':∀i,0<=Qc (cy h i) (cy h (i+1)) p:=λi=>by
   have q:=(In.three hl).mp hp ((i+1) % h.length) (cy h i) (cy h (i+1)) (ut _ (by lia));exact q (by rw[z5J (by lia)];exact z22 (by lia)) (z22 (by lia))
  have ed:=z6h x (by lia);have ne2:=zbc x hl;have tn:∀i,0<Qc (cy h i) (cy h (i+1)) (cy h (i+2)):=λi=>z3z (ed i) (ed (i+1)) (ne2 i);have per:∀i,cy h (i+h.length)=cy h i:=λi=>by unfold cy;rw[vS]
  obtain⟨i,hi,hm⟩:=z9e b (h:=h) (by rw[<- hh];simp);refine⟨cy h i,z4E (by lia),?_⟩;have m1:=hm (cy h (i+h.length - 1)) (z4E (by lia));have m2:=hm (cy h (i+1)) (z4E (by lia));have t0:=tn (i+h.length - 1);have l0:=hi' (i+h.length - 1);have l1:=hi' i;rw[show i+h.length - 1+1=i+h.length by lia,per] at t0 l0;rw[show i+h.length - 1+2=(i+1)+h.length by lia,per] at t0;generalize cy h (i+h.length - 1)=y at*;generalize cy h i=c at*;generalize cy h (i+1)=z at*;unfold Qc at t0 l0 l1;unfold Qb at m1 m2 ⊢;have t0':0<(z.1 - c.1)*(y.2 - c.2) - (z.2 - c.2)*(y.1 - c.1):=by grind
  have l0':0<=(p.1 - c.1)*(y.2 - c.2) - (p.2 - c.2)*(y.1 - c.1):=by grind
  have id1:(c.1*b.1+c.2*b.2 - (p.1*b.1+p.2*b.2))*((z.1 - c.1)*(y.2 - c.2) - (z.2 - c.2)*(y.1 - c.1))=((p.1 - c.1)*(y.2 - c.2) - (p.2 - c.2)*(y.1 - c.1))*(c.1*b.1+c.2*b.2 - (z.1*b.1+z.2*b.2))+((z.1 - c.1)*(p.2 - c.2) - (z.2 - c.2)*(p.1 - c.1))*(c.1*b.1+c.2*b.2 - (y.1*b.1+y.2*b.2)):=by grind
  have n1:=wH l0' (show 0<=c.1*b.1+c.2*b.2 - (z.1*b.1+z.2*b.2) by lia);have n2:=wH l1 (show 0<=c.1*b.1+c.2*b.2 - (y.1*b.1+y.2*b.2) by lia);have:=z1Z t0' (by rw[id1];lia);lia
def sca (c:Int)(v:P):P:=(v.1*c,v.2*c)
def z9K {c:Int}(hc:0<c)(h:sca c a=sca c b):a=b:=by
 have h1:=congrArg Prod.fst h;have h2:=congrArg Prod.snd h;exact vV (uf (by lia) h1) (uf (by lia) h2)
def zhO {c:Int}(hc:0<c):Lx (sca c a) (sca c b)->Lx a b:=by
 intro h
 rcases h with h | ⟨h1,h2⟩
 .exact .inl (Int.lt_of_mul_lt_mul_right h (by lia))
 .exact .inr ⟨uf (by lia) h1,Int.lt_of_mul_lt_mul_right h2 (by lia)⟩
def zdX (c:Int)(a b p:P):Qc (sca c a) (sca c b) (sca c p)=c*c*Qc a b p:=by
 simp only[Qc,sca]
 grind
def zb6 (c:Int)(a b p:P):dot (sca c a) (sca c b) (sca c p)=c*c*dot a b p:=by
 simp only[dot,sca]
 grind
theorem Path.mapTo (hf:∀a b,R a b->R' (f a) (f b)):∀{l:List P},Path R l->Path R' (l.map f)
 | [],_=>trivial
 | [_],_=>trivial
 | a::b::r,h=>⟨hf a b h.1,Path.mapTo hf h.2⟩
theorem z04.sca {l h:List P}{c:Int}(hc:0<c)(x:z04 (· ∈ l) h):z04 (· ∈ l.map (sca c)) (h.map (sca c)):=by
 have hcc:0<c*c:=wP hc hc;obtain⟨m,t,rfl,h1,h2,h3,h4⟩:=x.ex;refine⟨Geo.sca c m,t.map (Geo.sca c),by rw[ve],wv.mpr ⟨m,h1,rfl⟩,λp hp z =>?_,λz =>?_,?_⟩
 .obtain⟨q,hq,rfl⟩:=wv.mp hp;exact h2 q hq (zhO hc z)
 .obtain⟨q,hq,e⟩:=wv.mp z;exact h3 (z9K hc e ▸ hq)
 .rcases h4 with ⟨rfl,h4⟩ | ⟨hne,h4⟩
  .refine .inl ⟨rfl,λp hp =>?_⟩;obtain⟨q,hq,rfl⟩:=wv.mp hp;rw[h4 q hq]
  .refine .inr ⟨by simpa using hne,?_⟩;have:=h4.mapTo (R':=Edge (· ∈ l.map (Geo.sca c))) (f:=Geo.sca c) λa b e =>?_
   .rw[wY,ve] at this;exact this
   refine⟨wv.mpr ⟨a,e.sa,rfl⟩,wv.mpr ⟨b,e.sb,rfl⟩,λz=>e.ne (z9K hc z),λp hp =>?_,λp hp z =>?_⟩
   .obtain⟨q,hq,rfl⟩:=wv.mp hp;rw[zdX];exact wH (by lia) (e.left q hq)
   .obtain⟨q,hq,rfl⟩:=wv.mp hp;rw[zdX] at z;have z0:Qc a b q=0:=(wK.mp z).resolve_left (by lia);have:=e.btw q hq z0;rw[zb6,zb6];exact⟨wH (by lia) this.1,wH (by lia) this.2⟩
def In.at_far (x:z04 S h)(hf:∀b,∃c∈h,Qb p b<=Qb c b):In h p:=by
 match h,x,hf with
 | [],x,_=>obtain⟨m,t,e,_⟩:=x.ex;cases e
 | [m],x,hf=>
  have g:∀b,Qb p b<=Qb m b:=λb=>by
   obtain⟨c,hc,le⟩:=hf b;rw[wq.mp hc] at le;exact le
  have h1:=g (1,0);have h2:=g (-1,0);have h3:=g (0,1);have h4:=g (0,-1);simp only[Qb] at h1 h2 h3 h4;show p=m;exact vV (by lia) (by lia)
 | [a,b],x,hf=>
  have g:∀u,Qb p u<=Qb a u\/Qb p u<=Qb b u:=λu=>by
   obtain⟨c,hc,le⟩:=hf u;simp only[ww,vn,jc] at hc
   rcases hc with rfl | rfl
   .exact .inl le
   .exact .inr le
  have q1:=z0c (b.1 - a.1);have q2:=z0c (b.2 - a.2);have h1:=g (-(b.2 - a.2),b.1 - a.1);have h2:=g (b.2 - a.2,-(b.1 - a.1));have h3:=g (a.1 - b.1,a.2 - b.2);have h4:=g (b.1 - a.1,b.2 - a.2);clear g hf x;have e1:Qb p (-(b.2 - a.2),b.1 - a.1)=Qb a (-(b.2 - a.2),b.1 - a.1)+Qc a b p:=by simp only[Qb,Qc];grind
  have e2:Qb b (-(b.2 - a.2),b.1 - a.1)=Qb a (-(b.2 - a.2),b.1 - a.1):=by simp only[Qb];grind
  have e3:Qb p (b.2 - a.2,-(b.1 - a.1))=Qb a (b.2 - a.2,-(b.1 - a.1)) - Qc a b p:=by simp only[Qb,Qc];grind
  have e4:Qb b (b.2 - a.2,-(b.1 - a.1))=Qb a (b.2 - a.2,-(b.1 - a.1)):=by simp only[Qb];grind
  have e5:Qb p (a.1 - b.1,a.2 - b.2)=Qb a (a.1 - b.1,a.2 - b.2) - dot a b p:=by simp only[Qb,dot];grind
  have e6:Qb b (a.1 - b.1,a.2 - b.2)=Qb a (a.1 - b.1,a.2 - b.2) - ((b.1 - a.1)*(b.1 - a.1)+(b.2 - a.2)*(b.2 - a.2)):=by simp only[Qb];grind
  have e7:Qb p (b.1 - a.1,b.2 - a.2)=Qb b (b.1 - a.1,b.2 - a.2) - dot b a p:=by simp only[Qb,dot];grind
  have e8:Qb a (b.1 - a.1,b.2 - a.2)=Qb b (b.1 - a.1,b.2 - a.2) - ((b.1 - a.1)*(b.1 - a.1)+(b.2 - a.2)*(b.2 - a.2)):=by simp only[Qb];grind
  show Qc a b p=0/\0<=dot a b p/\0<=dot b a p;generalize Qc a b p=z1 at*;generalize dot a b p=z2 at*;generalize dot b a p=z3 at*;generalize (b.1 - a.1)*(b.1 - a.1)=z4 at*;generalize (b.2 - a.2)*(b.2 - a.2)=z5 at*;rw[e1,e2] at h1;rw[e3,e4] at h2;rw[e5,e6] at h3;rw[e7,e8] at h4;refine⟨?_,?_,?_⟩ <;> lia
 | a0::b0::c0::t,x,hf=>
  refine(In.three (by simp)).mpr λj a b hj ea eb =>?_;have e:=x.cyc (by simp) hj ea eb;obtain⟨c,hc,le⟩:=hf (b.2 - a.2,-(b.1 - a.1));have l:=e.left c (x.sub c hc);simp only[Qb] at le;simp only[Qc] at l ⊢
  grind
def ze2 (ne:a≠b):(Qc a b p=0/\0<=dot a b p/\0<=dot b a p)↔(0<=Qc a b p/\0<=Qc b a p/\(a.1 - p.1)*(b.1 - p.1)+(a.2 - p.2)*(b.2 - p.2)<=0):=by
 obtain⟨a1,a2⟩:=a;obtain⟨b1,b2⟩:=b;obtain⟨p1,p2⟩:=p;simp only[Qc,dot];have e1:(b1 - a1)*(p2 - a2) - (b2 - a2)*(p1 - a1)=(a1 - p1)*(b2 - p2) - (a2 - p2)*(b1 - p1):=by grind
 have e2:(a1 - b1)*(p2 - b2) - (a2 - b2)*(p1 - b1) = -((a1 - p1)*(b2 - p2) - (a2 - p2)*(b1 - p1)):=by grind
 have e3:(p1 - a1)*(b1 - a1)+(p2 - a2)*(b2 - a2)=((a1 - p1)*(a1 - p1)+(a2 - p2)*(a2 - p2)) - ((a1 - p1)*(b1 - p1)+(a2 - p2)*(b2 - p2)):=by grind
 have e4:(p1 - b1)*(a1 - b1)+(p2 - b2)*(a2 - b2)=((b1 - p1)*(b1 - p1)+(b2 - p2)*(b2 - p2)) - ((a1 - p1)*(b1 - p1)+(a2 - p2)*(b2 - p2)):=by grind
 have ne':¬ (a1 - p1=b1 - p1/\a2 - p2=b2 - p2):=λz=>ne (vV (by simp;lia) (by simp;lia));rw[e1,e2,e3,e4];generalize a1 - p1=A at*;generalize a2 - p2=B at*;generalize b1 - p1=C at*;generalize b2 - p2=E at*;clear e1 e2 e3 e4 ne;have sq:∀x:Int,0<=x*x:=λx=>by
  rcases Int.le_total 0 x with z | z
  .exact wH z z
  .exact uY z z
 w_up
 .rintro⟨h1,h2,h3⟩;refine⟨by lia,by lia,?_⟩
  rcases vH 0 (A*C+B*E) with z | z
  .exfalso
   have lag:(A*C+B*E)*(A*C+B*E)+(A*E - B*C)*(A*E - B*C)=(A*A+B*B)*(C*C+E*E):=by grind
   rw[h1,jw,Int.add_zero] at lag;have df:(A - C)*(A - C)+(B - E)*(B - E)=(A*A+B*B)+(C*C+E*E) - 2*(A*C+B*E):=by grind
   have q1:=sq (A - C);have q2:=sq (B - E);generalize A*C+B*E=s at*;generalize A*A+B*B=m at*;generalize C*C+E*E=n at*;have hm:m=s:=by
    rcases vH s m with w | w
    .have:=Int.mul_lt_mul_of_pos_right w (show 0<n by lia);have:=vB (show s<=n by lia) (show 0<=s by lia);lia
    .lia
   have hn:n=s:=by
    rw[hm] at lag;exact(j1 (by lia) lag).symm
   have z1:(A - C)*(A - C)=0:=by omega
   have z2:(B - E)*(B - E)=0:=by omega
   have y1:=wK.mp z1;have y2:=wK.mp z2;exact ne' ⟨by lia,by lia⟩
  .exact z
 .rintro⟨h1,h2,h3⟩;have:=sq A;have:=sq B;have:=sq C;have:=sq E;exact⟨by lia,by lia,by lia⟩
abbrev T3:=Int × Int × Int
def cr3 (a b c:T3):Int:=a.1*(b.2.1*c.2.2 - c.2.1*b.2.2) - a.2.1*(b.1*c.2.2 - c.1*b.2.2)+a.2.2*(b.1*c.2.1 - b.2.1*c.1)
def up (M:Int)(t:T3):P:=(t.1*(M / t.2.2),t.2.1*(M / t.2.2))
structure Dv (M:Int)(t:T3):Prop where
 m:0<M
 pos:0<t.2.2
 dvd:t.2.2 ∣ M
theorem Dv.k {M:Int}{t:T3}(h:Dv M t):0<M / t.2.2/\t.2.2*(M / t.2.2)=M:=by
 obtain⟨h1,h2,k,rfl⟩:=h;rw[Int.mul_ediv_cancel_left _ (by lia)];refine⟨?_,rfl⟩;exact z83 h2 (by rw[jh];exact h1)
def Dv.mul {M:Int}{t:T3}(h:Dv M t){n:Int}(hn:0<n):Dv (M*n) t:=⟨wP h.m hn,h.pos,Int.dvd_trans h.dvd ⟨n,rfl⟩⟩
def z2M {k l x y:Int}(hk:0<k)(hl:0<l)(e:x*k=l*y):(0<x↔0<y)/\(x=0↔y=0):=by
 refine⟨⟨λh =>?_,λh =>?_⟩,⟨λh =>?_,λh =>?_⟩⟩
 .have:0<l*y:=by rw[<- e];exact wP h hk
  exact z83 hl (by rw[jh];exact this)
 .have:0<x*k:=by rw[e];exact wP hl h
  exact z83 hk this
 .rw[h,jw] at e
  rcases wK.mp e.symm with z | z
  .lia
  .exact z
 .rw[h,Int.mul_zero] at e
  rcases wK.mp e with z | z
  .exact z
  .lia
def zi9 {a b c:T3}(ha:Dv M a)(hb:Dv M b)(hc:Dv M c):cr3 a b c*(M / a.2.2*(M / b.2.2)*(M / c.2.2))=M*Qc (up M a) (up M b) (up M c):=by
 obtain⟨_,ea⟩:=ha.k;obtain⟨_,eb⟩:=hb.k;obtain⟨_,ec⟩:=hc.k;unfold cr3 Qc up;generalize M / a.2.2=i at*;generalize M / b.2.2=j at*;generalize M / c.2.2=k at*
 grind
def zbh {a b c:T3}(ha:Dv M a)(hb:Dv M b)(hc:Dv M c):(0<cr3 a b c↔0<Qc (up M a) (up M b) (up M c))/\(cr3 a b c=0↔Qc (up M a) (up M b) (up M c)=0):=
 z2M (wP (wP ha.k.1 hb.k.1) hc.k.1) ha.m (zi9 ha hb hc)
def zia {a b c:T3}(ha:Dv M a)(hb:Dv M b)(hc:Dv M c):cr3 a b c<=0↔Qc (up M a) (up M b) (up M c)<=0:=by
 have:=(zbh ha hb hc).1;lia
def zbi {M:Int}{a b c:T3}(ha:Dv M a)(hb:Dv M b)(hc:Dv M c):0<=cr3 a b c↔0<=Qc (up M a) (up M b) (up M c):=by
 have:=zbh ha hb hc;lia
def z1C (v:T3):List T3->List T3
 | b::a::r=>if cr3 a b v<=0 then z1C v (a::r) else b::a::r
 | s=>s
theorem z6J {v:T3}(hv:Dv M v):∀{s:List T3},(∀x∈s,Dv M x)->(z1C v s).map (up M)=pops (up M v) (s.map (up M))/\∀x∈z1C v s,x∈s
 | [],_=>⟨rfl,λ_ h=>h⟩
 | [_],_=>⟨rfl,λ_ h=>h⟩
 | b::a::r,h=>by
  have ih:=z6J hv (s:=a::r) λx hx=>h x (wm _ hx);have e:=zia (h a (by simp)) (h b (by simp)) hv;show (if cr3 a b v<=0 then z1C v (a::r) else b::a::r).map (up M)=(if Qc (up M a) (up M b) (up M v)<=0 then pops (up M v) (up M a::r.map (up M)) else up M b::up M a::r.map (up M))/\∀x∈(if cr3 a b v<=0 then z1C v (a::r) else b::a::r),x∈b::a::r
  by_cases hc:cr3 a b v<=0
  .rw[if_pos hc,if_pos (e.mp hc)];exact⟨ih.1,λx hx=>wm _ (ih.2 x hx)⟩
  .rw[if_neg hc,if_neg λz=>hc (e.mpr z)];exact⟨rfl,λ_ h=>h⟩
def z39 (l:List T3):List T3:=l.foldl (λs v=>v::z1C v s) []
theorem z79:∀{l s:List T3},(∀x∈l,Dv M x)->(∀x∈s,Dv M x)->(l.foldl (λs v=>v::z1C v s) s).map (up M)=(l.map (up M)).foldl (λs v=>v::pops v s) (s.map (up M))/\∀x∈l.foldl (λs v=>v::z1C v s) s,x∈l\/x∈s
 | [],s,_,_=>⟨rfl,λx h =>.inr h⟩
 | v::l,s,h,hs=>by
  have hv:=h v (by simp);obtain⟨p1,p2⟩:=z6J hv hs;have hs':∀x∈v::z1C v s,Dv M x:=λx hx=>by
   rcases ww.mp hx with rfl | hx
   .exact hv
   .exact hs x (p2 x hx)
  obtain⟨q1,q2⟩:=z79 (l:=l) (s:=v::z1C v s) (λx hx=>h x (wm _ hx)) hs';refine⟨?_,λx hx =>?_⟩
  .show (l.foldl (λs v=>v::z1C v s) (v::z1C v s)).map (up M)=(l.map (up M)).foldl (λs v=>v::pops v s) (up M v::pops (up M v) (s.map (up M)));rw[q1,ve,p1]
  .rcases q2 x hx with z | z
   .exact .inl (wm _ z)
   .rcases ww.mp z with rfl | z
    .exact .inl (by simp)
    .exact .inr (p2 x z)
def z5v (h:∀x∈l,Dv M x):(z39 l).map (up M)=z1F (l.map (up M))/\∀x∈z39 l,x∈l:=by
 obtain⟨p,q⟩:=z79 (M:=M) (l:=l) (s:=[]) h (by simp);exact⟨p,λx hx=>(q x hx).resolve_right (by simp)⟩
def z76 (l:List T3):List T3:=if l.length<=1 then l else (z39 l).reverse.dropLast++(z39 l.reverse).reverse.dropLast
def zaT (h:∀x∈l,Dv M x):(z76 l).map (up M)=hull (l.map (up M))/\∀x∈z76 l,x∈l:=by
 obtain⟨p,q⟩:=z5v h;obtain⟨p',q'⟩:=z5v (M:=M) (l:=l.reverse) λx hx=>h x (by simpa using hx);unfold z76 hull;rw[wg]
 by_cases hl:l.length<=1
 .rw[if_pos hl,if_pos hl];exact⟨rfl,λ_ h=>h⟩
 .rw[if_neg hl,if_neg hl];refine⟨?_,λx hx =>?_⟩
  .rw[<- uP] at*;rw[<- p, <- p',wY,List.map_dropLast,List.map_dropLast,uP,uP]
  .rcases wG.mp hx with hx | hx
   .exact q x (by simpa using (jR _).subset hx)
   .simpa using q' x (by simpa using (jR _).subset hx)
def Lx3 (a b:T3):Prop:=a.1*b.2.2<b.1*a.2.2\/(a.1*b.2.2=b.1*a.2.2/\a.2.1*b.2.2<b.2.1*a.2.2)
def tops {M x y a b:Int}(ha:0<a)(hb:0<b)(da:a ∣ M)(db:b ∣ M)(hm:0<M):(x*b<y*a↔x*(M / a)<y*(M / b))/\(x*b=y*a↔x*(M / a)=y*(M / b)):=by
 obtain⟨k1,e1⟩:=Dv.k (t:=(0,0,a)) ⟨hm,ha,da⟩;obtain⟨k2,e2⟩:=Dv.k (t:=(0,0,b)) ⟨hm,hb,db⟩;dsimp only at k1 e1 k2 e2;generalize M / a=i at*;generalize M / b=j at*;have e:(y*a - x*b)*(i*j)=M*(y*j - x*i):=by grind
 have:=z2M (wP k1 k2) hm e;omega
def zdM {M:Int}(ha:Dv M a)(hb:Dv M b):Lx3 a b↔Lx (up M a) (up M b):=by
 have h1:=tops (x:=a.1) (y:=b.1) ha.pos hb.pos ha.dvd hb.dvd hb.m;have h2:=tops (x:=a.2.1) (y:=b.2.1) ha.pos hb.pos ha.dvd hb.dvd hb.m;unfold Lx3 Lx up;k_in;rw[h1.1,h1.2,h2.1]
def Lo (t:T3):Prop:=0<t.2.2/\Int.gcd (Int.gcd t.1 t.2.1) t.2.2=1
def Lo.eq {a b:T3}(ha:Lo a)(hb:Lo b)(e1:a.1*b.2.2=b.1*a.2.2)(e2:a.2.1*b.2.2=b.2.1*a.2.2):a=b:=by
 obtain⟨x,y,w⟩:=a;obtain⟨u,v,t⟩:=b;obtain⟨p1,g1⟩:=ha;obtain⟨p2,g2⟩:=hb;dsimp only at*;have dv:∀{x y w u v t:Int},Int.gcd (Int.gcd x y) w=1->x*t=u*w->y*t=v*w->w ∣ t:=by
  intro x y w u v t g a1 a2;have d1:w ∣ x*t:=⟨u,by rw[a1,jh]⟩
  have d2:w ∣ y*t:=⟨v,by rw[a2,jh]⟩
  rw[<- uJ] at d1 d2 ⊢;rw[vz] at d1 d2;have d3:w.natAbs ∣ Nat.gcd (x.natAbs*t.natAbs) (y.natAbs*t.natAbs):=Nat.dvd_gcd d1 d2;rw[Nat.gcd_mul_right] at d3;have g':Nat.gcd w.natAbs (Nat.gcd x.natAbs y.natAbs)=1:=by rw[Wc];exact g
  exact Nat.Coprime.dvd_of_dvd_mul_left g' d3
 have w1:=dv g1 e1 e2;have w2:=dv g2 e1.symm e2.symm;have hw:w=t:=Int.dvd_antisymm (by lia) (by lia) w1 w2;subst hw;have hx:=uf (by lia) e1;have hy:=uf (by lia) e2;rw[hx,hy]
def Lo.inj {M:Int}{a b:T3}(ha:Lo a)(hb:Lo b)(da:Dv M a)(db:Dv M b)(e:up M a=up M b):a=b:=by
 have h1:=tops (x:=a.1) (y:=b.1) da.pos db.pos da.dvd db.dvd db.m;have h2:=tops (x:=a.2.1) (y:=b.2.1) da.pos db.pos da.dvd db.dvd db.m;have e1:=congrArg Prod.fst e;have e2:=congrArg Prod.snd e;exact Lo.eq ha hb (h1.2.mpr e1) (h2.2.mpr e2)
def z8w {g x y a b:Int}(ha:0<a)(hb:0<b)(hag:a<=g)(hbg:b<=g):(x*(g*g) / a<y*(g*g) / b↔x*b<y*a)/\(x*b=y*a->x*(g*g) / a=y*(g*g) / b):=by
 have ab:a*b<=g*g:=Int.mul_le_mul hag hbg (by lia) (by lia);have lt:∀{x y a b:Int},0<a->0<b->a*b<=g*g->x*b<y*a->x*(g*g) / a<y*(g*g) / b:=by
  intro x y a b ha hb ab h;have h1:x*(g*g) / a*a<=x*(g*g):=Int.ediv_mul_le _ (by lia);refine Int.lt_of_lt_of_le (Int.lt_succ _) ((Int.le_ediv_iff_mul_le hb).mpr ?_);have h2:(x*(g*g) / a+1)*b*a<=y*(g*g)*a:=by
   have e1:(x*(g*g) / a+1)*b*a=x*(g*g) / a*a*b+a*b:=by grind
   have e2:x*(g*g) / a*a*b<=x*(g*g)*b:=wM h1 (by lia);have e3:(x*b+1)*(g*g)<=y*a*(g*g):=wM h (z0c g);have e4:(x*b+1)*(g*g)=x*(g*g)*b+g*g:=by grind
   have e5:y*a*(g*g)=y*(g*g)*a:=by grind
   lia
  exact ug h2 ha
 have eq:x*b=y*a->x*(g*g) / a=y*(g*g) / b:=λe=>by
  rw[<- Int.mul_ediv_mul_of_pos_left (x*(g*g)) a hb, <- Int.mul_ediv_mul_of_pos_left (y*(g*g)) b ha,jh b a,show x*(g*g)*b=x*b*(g*g) by grind,e,show y*a*(g*g)=y*(g*g)*a by grind]
 refine⟨⟨λh =>?_,lt ha hb ab⟩,eq⟩
 rcases Int.lt_trichotomy (x*b) (y*a) with z | z | z
 .exact z
 .rw[eq z] at h;lia
 .have:=lt hb ha (by rw[jh];exact ab) z;lia
def Ar (l h:List T3):Prop:=∃rl:List T3,rl.Pairwise Lx3/\(∀p,p∈rl↔p∈l)/\h=z76 rl
theorem z4C:∀{l:List T3},(∀t∈l,0<t.2.2)->∃M,0<M/\∀t∈l,Dv M t
 | [],_=>⟨1,by decide,by simp⟩
 | t::l,h=>by
  obtain⟨M,hm,hM⟩:=z4C (l:=l) λt ht=>h t (wm _ ht);have ht:=h t (by simp);refine⟨M*t.2.2,wP hm ht,λu hu =>?_⟩
  rcases ww.mp hu with rfl | hu
  .exact⟨wP hm ht,ht,⟨M,jh ..⟩⟩
  .exact(hM u hu).mul ht
def Ar.sub {l h:List T3}(x:Ar l h):∀p∈h,p∈l:=by
 obtain⟨rl,h1,h2,rfl⟩:=x;intro p hp;refine(h2 p).mp ?_;unfold z76 at hp;have c0:∀(v:T3) (s:List T3),∀x∈z1C v s,x∈s:=by
  intro v s
  induction s with
  | nil=>exact λ_ h=>h
  | cons b s ih=>
   cases s with
   | nil=>exact λ_ h=>h
   | cons a r=>
    intro x hx;rw[z1C] at hx
    split at hx
    .exact wm _ (ih x hx)
    .exact hx
 have c1:∀(l s:List T3),∀x∈l.foldl (λs v=>v::z1C v s) s,x∈l\/x∈s:=by
  intro l
  induction l with
  | nil=>exact λ_ _ h =>.inr h
  | cons v l ih=>
   intro s x hx
   rcases ih _ x hx with z | z
   .exact .inl (wm _ z)
   .rcases ww.mp z with rfl | z
    .exact .inl (by simp)
    .exact .inr (c0 v s x z)
 split at hp
 .exact hp
 .rcases wG.mp hp with z | z
  .exact(c1 rl [] p (by simpa[z39] using (jR _).subset z)).resolve_right (by simp)
  .exact List.mem_reverse.mp ((c1 rl.reverse [] p (List.mem_reverse.mp ((jR _).subset z))).resolve_right (by simp))
theorem Ar.hd {M:Int}{l h:List T3}(x:Ar l h)(hd:∀p∈l,Dv M p):Hd (l.map (up M)) (h.map (up M)):=by
 obtain⟨rl,h1,h2,rfl⟩:=x;have hd':∀p∈rl,Dv M p:=λp hp=>hd p ((h2 p).mp hp);refine⟨rl.map (up M),?_,λp =>?_,(zaT hd').1⟩
 .rw[vp];exact h1.imp_of_mem λ{a b} ha hb h=>(zdM (hd' a ha) (hd' b hb)).mp h
 .rw[wv,wv];exact⟨λ⟨q,hq,e⟩=>⟨q,(h2 q).mp hq,e⟩,λ⟨q,hq,e⟩=>⟨q,(h2 q).mpr hq,e⟩⟩
theorem Ar.is {M:Int}{l h:List T3}(x:Ar l h)(hd:∀p∈l,Dv M p)(hn:l≠[]):z04 (· ∈ l.map (up M)) (h.map (up M)):=(x.hd hd).is (by simpa using hn)
theorem Ar.nil {h:List T3}(x:Ar [] h):h=[]:=by
 cases h with
 | nil=>rfl
 | cons a r=>exact absurd (x.sub a (by simp)) (by simp)
def Ar.ne {l h:List T3}(x:Ar l h)(hp:∀t∈l,0<t.2.2)(hn:l≠[]):h≠[]:=λz=>by
 obtain⟨M,_,hM⟩:=z4C hp;obtain⟨m,t,e,_⟩:=(x.is hM hn).ex;rw[z] at e;simp at e
theorem zdL {α β:Type}{f:α->β}:∀{l l':List α},(∀a∈l,∀b∈l',f a=f b->a=b)->l.map f=l'.map f->l=l'
 | [],[],_,_=>rfl
 | [],_::_,_,h=>by simp at h
 | _::_,[],_,h=>by simp at h
 | a::l,b::l',hi,h=>by
  rw[ve,ve] at h
  injection h with h1 h2
  rw[hi a (by simp) b (by simp) h1,zdL (λa ha b hb=>hi a (wm _ ha) b (wm _ hb)) h2]
def Ar.within {M:Int}(x:Ar l h)(x':Ar (h++[p]) h')(lo:∀q∈l,Lo q)(lp:Lo p)(hM:∀q∈l,Dv M q)(hp:Dv M p)(hn:l≠[]):h'=h↔In (h.map (up M)) (up M p):=by
 have i1:=x.is hM hn;have hd:∀q∈h++[p],Dv M q:=λq hq=>by
  rcases wG.mp hq with z | z
  .exact hM q (x.sub q z)
  .rw[wq.mp z];exact hp
 have lo':∀q∈h++[p],Lo q:=λq hq=>by
  rcases wG.mp hq with z | z
  .exact lo q (x.sub q z)
  .rw[wq.mp z];exact lp
 have i2:=x'.is hd (by simp)
 w_up
 .intro e;have:=i2.in (p:=up M p) (wv.mpr ⟨p,by simp,rfl⟩);rw[e] at this;exact this
 .intro hi;have i3:z04 (· ∈ (h++[p]).map (up M)) (h.map (up M)):=i1.fill (λq hq=>by rw[wY];exact wR _ hq) λq hq=>by
   rw[wY] at hq
   rcases wG.mp hq with z | z
   .exact i1.in (i1.sub q z)
   .rw[List.map_singleton] at z;rw[wq.mp z];exact hi
  refine zdL (λa ha b hb =>?_) (i2.unique i3);have ma:=x'.sub a ha;have mb:=x.sub b hb;exact Lo.inj (lo' a ma) (lo b mb) (hd a ma) (hM b mb)
def In.between (x:z04 S h)(ha:In h a)(hb:In h b)(hi:0<=i)(hj:0<=j)(hij:0<i+j)(e1:p.1*(i+j)=a.1*i+b.1*j)(e2:p.2*(i+j)=a.2*i+b.2*j):In h p:=by
 refine In.at_far x λd =>?_;obtain⟨c1,m1,q1⟩:=x.far ha d;obtain⟨c2,m2,q2⟩:=x.far hb d;have e:Qb p d*(i+j)=Qb a d*i+Qb b d*j:=by unfold Qb;grind
 have k:∀z,Qb a d<=z->Qb b d<=z->Qb p d<=z:=λz z1 z2=>by
  have h1:Qb a d*i<=z*i:=wM z1 hi;have h2:Qb b d*j<=z*j:=wM z2 hj;have h3:Qb p d*(i+j)<=z*(i+j):=by rw[e,Int.mul_add];lia
  exact ug h3 hij
 rcases Int.le_total (Qb c1 d) (Qb c2 d) with z | z
 .exact⟨c2,m2,k _ (by lia) q2⟩
 .exact⟨c1,m1,k _ q1 (by lia)⟩
def Qa (a b:T3):P:=(b.1*a.2.2 - a.1*b.2.2,b.2.1*a.2.2 - a.2.1*b.2.2)
def z6z {M:Int}{a b p:T3}(ha:Dv M a)(hb:Dv M b)(hp:Dv M p):
  (0<=(Qa a b).1*(Qa a p).2 - (Qa a b).2*(Qa a p).1↔0<=Qc (up M a) (up M b) (up M p))/\(0<(Qa a b).1*(Qa a p).2 - (Qa a b).2*(Qa a p).1↔0<Qc (up M a) (up M b) (up M p))/\
  (0<=(Qa a b).1*(Qa a p).1+(Qa a b).2*(Qa a p).2↔0<=dot (up M a) (up M b) (up M p)):=by
 obtain⟨k1,ea⟩:=ha.k;obtain⟨k2,eb⟩:=hb.k;obtain⟨k3,ep⟩:=hp.k;have hm:=ha.m;have kk:=wP (wP k1 k2) (wP k1 k3);have mm:=wP hm hm;unfold Qa Qc dot up;k_in;generalize M / a.2.2=i at*;generalize M / b.2.2=j at*;generalize M / p.2.2=k at*;have f1:(b.1*a.2.2 - a.1*b.2.2)*(i*j)=M*(b.1*j - a.1*i):=by grind
 have f2:(b.2.1*a.2.2 - a.2.1*b.2.2)*(i*j)=M*(b.2.1*j - a.2.1*i):=by grind
 have f3:(p.1*a.2.2 - a.1*p.2.2)*(i*k)=M*(p.1*k - a.1*i):=by grind
 have f4:(p.2.1*a.2.2 - a.2.1*p.2.2)*(i*k)=M*(p.2.1*k - a.2.1*i):=by grind
 generalize b.1*a.2.2 - a.1*b.2.2=u1 at*;generalize b.2.1*a.2.2 - a.2.1*b.2.2=u2 at*;generalize p.1*a.2.2 - a.1*p.2.2=v1 at*;generalize p.2.1*a.2.2 - a.2.1*p.2.2=v2 at*;generalize b.1*j - a.1*i=x1 at*;generalize b.2.1*j - a.2.1*i=x2 at*;generalize p.1*k - a.1*i=y1 at*;generalize p.2.1*k - a.2.1*i=y2 at*;have g:∀u v x y:Int,u*(i*j)=M*x->v*(i*k)=M*y->u*v*(i*j*(i*k))=M*M*(x*y):=λu v x y h1 h2=>by
  rw[show u*v*(i*j*(i*k))=u*(i*j)*(v*(i*k)) by grind,h1,h2]
  grind
 have c:=z2M (x:=u1*v2 - u2*v1) (y:=x1*y2 - x2*y1) kk mm (by rw[Int.sub_mul,g _ _ _ _ f1 f4,g _ _ _ _ f2 f3,Int.mul_sub]);have d:=z2M (x:=u1*v1+u2*v2) (y:=y1*x1+y2*x2) kk mm (by rw[Int.add_mul,g _ _ _ _ f1 f3,g _ _ _ _ f2 f4];grind);refine⟨?_,?_,?_⟩ <;> lia
end Geo
namespace Pu
open PySem PySem.Spec PyProof.Rows L2
def gAll (d:D)(Q:DK):Prop:=∃bs:List Bool,d = .lst (bs.map .bl)/\Q (.bl (bs.all id))
def pAll:Fn:=fn1 gAll λd Q Q' m h=>by
 obtain⟨bs,e,q⟩:=h;exact⟨bs,e,m _ q⟩
def zf5 {bs:List Bool}{Q:DK}{X:XP}(q:Q (.bl (bs.all id))):pAll.run [.lst (bs.map .bl)] Q X:=⟨bs,rfl,q⟩
section
variable {X:Cx}
theorem za0 {K:W.Frag}{mg:WmP}{G:Hp}:∀(bs:List Bool) {xs:List V},RDs K mg G (bs.map .bl) xs->xs=bs.map .bl
 | [],xs,h=>by
  rw[Wk,RDs] at h;exact h
 | b::bs,xs,h=>by
  rw[ve,RDs] at h;obtain⟨v,r,rfl,h1,h2⟩:=h;rw[za0 bs h2,z6I h1]
  rfl
def zie (hc:X.calm=true):z1n X (.builtin "all") (rN X.K X.mg pAll):=(zbq hc).imp <| by
 k_not;obtain⟨d,rfl,hr'⟩:=z2h hr;obtain⟨v,rfl,rd⟩:=rds1 rds;obtain⟨bs,rfl,q⟩:=hr';f_int;rw[za0 bs h2] at h1;exact⟨a,bs,rfl,z13 g h1,hk.now g q RD.bl'⟩
end
end Pu
namespace Tim
open PySem PyProof.Rows PySem.W HT Tab
section
variable {prog:Program}{w:World}{A:Around}{E:WvP}{s:Shared}
def z18:Nat:=64
def z7z (h:n<z18):n<sizeLine:=wT h (show z18<=sizeLine by decide)
structure KI (a kS:Addr)(e1:Nat)(kz:List (List Int))(ks:List Value)(s':Shared):Prop where
 hasA:s'.heap.get? a=some (seqObj "list" #[] e1)
 hasK:∃e,s'.heap.get? kS=some (seqObj "list" ks.toArray e)
 tell:∀(i:Nat) u k,ks[i]? = some u->kz[i]? = some k->TI s'.heap u k
def KOut (kz:List (List Int))(vs out:List Value):Prop:=∃ps:List (List Int × Value),ps.Perm (kz.zip vs)/\out=ps.map Prod.snd/\ps.Pairwise (λp q=>HT.z0j q.1 p.1=false)
def zdi {ks vs:List Value}(hk:∀v∈ks,TI s.heap v (key v))(b:Bool):Asks (model prog w) A s (tuples' b) (ks.toArray.zip vs.toArray) (λp=>rkL (ks.map key) (key p.1)):=by
 intro x y hx hy Q E h;rw[ksk_zip] at hx hy;have mx:x.1∈ks:=(jp (b:=x.2) hx).1;have my:y.1∈ks:=(jp (b:=y.2) hy).1;rw[<- z89 (wv.mpr ⟨_,mx,rfl⟩) (wv.mpr ⟨_,my,rfl⟩)] at h;obtain⟨a1,o1,i1,n1,e1,g1,c1,d1,k1⟩:=hk _ mx;obtain⟨a2,o2,i2,n2,e2,g2,c2,d2,k2⟩:=hk _ my;rw[e1] at h k1;rw[e2] at h k2;rw[e1,e2];exact kat_lt g1 d1 g2 d2 (z3f 0 k1 k2 (by rw[<- IntsAre.length k1, <- IntsAre.length k2,vA,vA]) h)
def zfh {ks vs:List Value}{P:PySem.Fin->Shared->Prop}(hka:kS≠a)(I:KI a kS e1 kz ks s)(hl:kz.length=vs.length)(hl':ks.length=vs.length)(hne:∀k∈kz,k≠[])(h64:vs.length<z18)
  (h:∀out:List Value,out.length=vs.length->KOut kz vs out->P (.done (.ret .none)) { s with heap:=(s.heap.update kS (Obj.mapSeq λ_ => #[])).update a (Obj.mapSeq λ_=>out.toArray) }):
  wpAny (model prog w) A (ksk_end a false vs.toArray e1 (.ref kS) ks.toArray) P E s:=by
 have hz:vs.length<=sizeLine:=um (z7z h64);have hti:∀v∈ks,TI s.heap v (z27 s.heap v)/\z27 s.heap v∈kz:=λv hv=>by
  obtain⟨i,hi⟩:=List.getElem?_of_mem hv;have hil:i<kz.length:=by
   have:=(wu.mp hi).1;lia
  have t:=I.tell i v _ hi (wp hil);rw[z3u t];exact⟨t,ua _⟩
 have hkz:ks.map (z27 s.heap)=kz:=by
  refine List.ext_getElem? λi =>?_;rw[wB]
  by_cases hi:i<ks.length
  .rw[wp hi,wp (show i<kz.length by lia),Option.map_some,z3u (I.tell i _ _ (wp hi) (wp (show i<kz.length by lia)))]
  .rw[jd (by lia),jd (by lia),Option.map_none]
 obtain⟨eK,hK⟩:=I.hasK;have hA1:(s.heap.update kS (Obj.mapSeq λ_=>(#[]:Array Value))).get? a=some (seqObj "list" #[] e1):=by
  rw[v8 _ _ _ _ hka.symm];exact I.hasA
 have tail:∀st:SortSt,failedOf st=none->(arrOf st).Perm (ks.toArray.zip vs.toArray)->Up (λp=>rkL (ks.map (z27 s.heap)) (z27 s.heap p.1)) (arrOf st).toList->wpAny (model prog w) A (ksk_tail a false e1 (.ref kS) st) P E s:=λst hf hp hu=>by
  have hout:(arrOf st).map (·.2)=(((arrOf st).toList.map (·.2)).toArray:Array Value):=by
   apply Array.toList_inj.mp;rw[Array.toList_map]
  have hlen:((arrOf st).toList.map (·.2)).length=vs.length:=by
   rw[wg,vA,hp.size_eq,Array.size_zip,wD,wD,hl',Nat.min_self]
  have hpl:(arrOf st).toList.Perm (ks.zip vs):=by
   have:=u4.mp hp;rw[ksk_zip] at this;exact this
  unfold ksk_tail
  try dsimp only
  rw[hout];refine we (jX hK rfl ?_ (by rw[wD];lia) (vy _));refine we (jQ ?_);refine we (seqEpoch_at hA1 rfl ?_);refine we (jX hA1 rfl ?_ (vy _) (by show (List.toArray _).size<=_;rw[wD,hlen];lia));rw[hf];simp only[bne_self_eq_false,wZ,uv];refine wj (h _ hlen ⟨(arrOf st).toList.map λp=>(z27 s.heap p.1,p.2),?_,?_,?_⟩)
  .refine(hpl.map _).trans ?_;rw[<- hkz,List.zip_map_left];exact jY _
  .rw[vM];rfl
  .rw[vp];refine List.Pairwise.imp_of_mem (λ{x y} hx hy hxy =>?_) hu;have mx:x.1∈ks:=(jp (b:=x.2) (hpl.mem_iff.mp hx)).1;have my:y.1∈ks:=(jp (b:=y.2) (hpl.mem_iff.mp hy)).1;show HT.z0j (z27 s.heap y.1) (z27 s.heap x.1)=false;rw[z89 (wv.mpr ⟨_,my,rfl⟩) (wv.mpr ⟨_,mx,rfl⟩)];exact vG (Nat.not_lt.mpr hxy)
 have hzs:(ks.toArray.zip vs.toArray).size=vs.length:=by rw[Array.size_zip,wD,wD,hl',Nat.min_self]
 unfold ksk_end;k_in;rw[if_neg wU,if_neg wU]
 by_cases h2:vs.toArray.size<2
 .rw[if_pos h2,if_pos h2];refine we (wj ?_);rw[StateT.run_pure];refine we (wj ?_);refine tail _ rfl (Array.Perm.refl _) ?_;refine z8e ?_;show (ks.toArray.zip vs.toArray).toList.length<2;rw[vA,hzs];simpa using h2
 .rw[if_neg h2,if_neg h2];rw[wD] at h2;refine we (z8r (key:=z27 s.heap) (λv hv=>⟨(hti v hv).1,hne _ (hti v hv).2⟩) (by lia) ?_);refine we (vK (z4h (a₀:=ks.toArray.zip vs.toArray) (κ:=tuples' true) (rk:=λp=>rkL (ks.map (z27 s.heap)) (z27 s.heap p.1)) (st:=SortSt.mk' (tuples' true) (ks.toArray.zip vs.toArray) #[] 7 none)
   (Q:=λ_ st'=>TB (tuples' true) (ks.toArray.zip vs.toArray) st'/\Seg (λp=>rkL (ks.map (z27 s.heap)) (z27 s.heap p.1)) (arrOf st') 0 (ks.toArray.zip vs.toArray).size)
   (zdi (λv hv=>(hti v hv).1) true) ⟨rfl,rfl,Array.Perm.refl _⟩ rfl (by rw[hzs];lia) (by rw[hzs];exact h64) λst' b1 b2=>⟨b1,b2⟩) ?_ λ_ _ e=>e)
  rintro⟨⟨⟩,st'⟩ s' ⟨rfl,hB,hs⟩;dsimp only at hB hs ⊢;refine tail _ hB.failed hB.perm ?_;have:=zdo hs (by rw[hB.perm.size_eq];exact wx _);rw[<- hB.perm.size_eq] at this;o_rec
def zbJ {vs:List Value}{P:PySem.Fin->Shared->Prop}(ho:s.heap.get? a=some (seqObj "list" vs.toArray n))(h64:vs.length<z18)
  (I:Nat->List Value->Shared->Prop)
  (start:∀e1,(s.heap.update a (Obj.mapSeq λ_=>(#[]:Array Value))).get? a=some (seqObj "list" #[] e1)->I e1 [] { s with heap:=((s.heap.update a (Obj.mapSeq λ_ => #[])).push (seqObj "tuple" vs.toArray 0)).push (seqObj "list" #[] 0) })
  (turn:∀e1 (i:Nat) v ks s',vs[i]? = some v->ks.length=i->I e1 ks s'->
   wpAny (model prog w) A (call f [v]) (λu s''=>(∃e,s''.heap.get? (s.heap.objs.size+1)=some (seqObj "list" ks.toArray e))/\I e1 (ks++[u]) { s'' with heap:=s''.heap.update (s.heap.objs.size+1) (Obj.mapSeq (·.push u)) }) (λ_ _=>False) s')
  (fin:∀e1 ks s',ks.length=vs.length->I e1 ks s'->∃kz:List (List Int),kz.length=vs.length/\(∀k∈kz,k≠[])/\KI a (s.heap.objs.size+1) e1 kz ks s'/\
   ∀out:List Value,out.length=vs.length->KOut kz vs out->P (.done (.ret .none)) { s' with heap:=(s'.heap.update (s.heap.objs.size+1) (Obj.mapSeq λ_ => #[])).update a (Obj.mapSeq λ_=>out.toArray) }):
  wpAny (model prog w) A (ksk_tree a f false) P E s:=by
 have hz:=z7z h64;have ha:a<s.heap.objs.size:=wE ho;obtain⟨e1,ho1⟩:∃e1,(s.heap.update a (Obj.mapSeq λ_=>(#[]:Array Value))).get? a=some (seqObj "list" #[] e1):=⟨_,Wi ho λ_ => #[]⟩
 have I0:=start e1 ho1;have hkS:((s.heap.update a (Obj.mapSeq λ_=>(#[]:Array Value))).push (seqObj "tuple" vs.toArray 0)).objs.size=s.heap.objs.size+1:=by rw[size_push',u6]
 unfold ksk_tree;refine we (listItems_at ho rfl ?_);refine we (jX ho rfl ?_ (by rw[wD];lia) (vy _));refine we (seqEpoch_at ho1 rfl ?_);refine we (wpAny_newTuple ?_ (by show vs.length<=_;lia));refine we (wpAny_newList ?_ (vy _));refine ud ?_;show wpAny (model prog w) A (ksk_rest a f false vs.toArray e1 (.ref ((s.heap.update a (Obj.mapSeq λ_=>(#[]:Array Value))).push (seqObj "tuple" vs.toArray 0)).objs.size)) P E { s with heap:=((s.heap.update a (Obj.mapSeq λ_ => #[])).push (seqObj "tuple" vs.toArray 0)).push (seqObj "list" #[] 0) };rw[hkS];unfold ksk_rest;refine we (jU ?_);rw[<- Array.forIn_toList];refine we (ksk_fold (λi s'=>∃ks,ks.length=i/\I e1 ks s'/\∃e,s'.heap.get? (s.heap.objs.size+1)=some (seqObj "list" ks.toArray e)) vs 0 _ ⟨[],rfl,I0,0,by rw[<- hkS];exact wA _ rfl⟩ ?step ?done)
 case step=>
  rintro j x s' hx ⟨ks,hk,hI,_⟩;simp only[je] at hk ⊢;have hj:j<vs.length:=(wu.mp hx).1;refine we (Wh (vK (turn e1 j x ks s' hx hk hI) (λu s'' he =>?_) λ_ _ hF=>hF.elim));obtain⟨⟨e,hK⟩,hI'⟩:=he
  try dsimp only
  refine we (jX hK rfl ?_ (by rw[wD];lia) (wO (Nat.le_of_eq (Array.size_push ..)) (by rw[wD];lia)));exact wj ⟨rfl,ks++[u],by simp[hk],hI',_,by rw[Wi hK (·.push u)];simp;rfl⟩
 case done=>
  rintro s' ⟨ks,hk,hI,e,hK⟩;obtain⟨kz,hl,hne,K,h⟩:=fin e1 ks s' (by lia) hI
  try dsimp only
  refine we (listItems_at hK rfl ?_);exact zfh (j9 (uq ha)) K hl (by lia) hne h64 h
end
end Tim
namespace Pu
open PySem PySem.Spec PyProof.Rows L2 Tab
def zbz (kz:List (List Int))(l out:List D):Prop:=∃ps:List (List Int × D),ps.Perm (kz.zip l)/\out=ps.map Prod.snd/\ps.Pairwise (λp q=>HT.z0j q.1 p.1=false)
def zhP:D->Option (List D)
 | .lst l=>some l
 | _=>none
def Ex.sortk (nt:Nat)(js:List Nat)(t:Tg)(src elt:Ex):Ex:=
 ⟨λρ Q X=>src.run ρ (λd=>onL (zhP d) λl=>l.length<Tim.z18/\z2R (z2G t none elt (z0s nt js ρ)) l λr=>∃kz:List (List Int),r=kz.map tupD/\(∀k∈kz,k≠[])/\∀out,zbz kz l out->Q (.lst out)) X,λρ Q Q' X X' m mx q=>
  src.mono ρ _ _ X X' (λd q1=>z5N (λl q2=>⟨q2.1,z1T z2r l _ _ (λr ⟨kz,e,h1,h2⟩=>⟨kz,e,h1,λout ho=>m _ (h2 out ho)⟩) q2.2⟩) q1) mx q⟩
def zct:Fn:=⟨λds Q _=>∃(ns:List Int) (d:Int),ds=[.lst (ns.map .int),.int d]/\(ns=[]->Q (.int d))/\(ns≠[]->∀k∈ns,(∀x∈ns,x<=k)->Q (.int k)),λds Q Q' X X' m _ ⟨ns,d,e,h1,h2⟩=>⟨ns,d,e,λz=>m _ (h1 z),λz k hk hx=>m _ (h2 z k hk hx)⟩⟩
def zhy (h1:ns=[]->Q (.int d))(h2:ns≠[]->∀k∈ns,(∀x∈ns,x<=k)->Q (.int k)):zct.run [.lst (ns.map .int),.int d] Q X:=⟨ns,d,rfl,h1,h2⟩
def zhx (h:∀g,(∀x∈ns,x<=g)->(g∈ns\/(ns=[]/\g=d))->Q (.int g)):zct.run [.lst (ns.map .int),.int d] Q X:=
 zhy (λz=>h d (by rw[z];simp) (.inr ⟨z,rfl⟩)) λ_ k hk hx=>h k hx (.inl hk)
def zfr (h:src.run ρ (λd=>onL (zhP d) λl=>l.length<Tim.z18/\z2R (z2G t none elt (z0s nt js ρ)) l λr=>∃kz:List (List Int),r=kz.map tupD/\(∀k∈kz,k≠[])/\∀out,zbz kz l out->Q (.lst out)) X):(Ex.sortk nt js t src elt).run ρ Q X:=h
end Pu
namespace Pu
open PySem L2
def z0K:Fn:=Fn.mkN 2 2 (.seq (.ifs (.op pLt [.v 1,.op pLen [.v 0]]) (.ret (.op pIx [.v 0,.v 1])) .skip)
 (.ret (.c (.int 0))))
def z0n:Fn:=Fn.mkN 1 3 (.seq (.set 1 (.c (.int 1)))
 (.seq (.forr [.v 0] (.nm 2) (.set 1 (.op z09 [.v 1,.c (.int 10)])))
 (.ret (.v 1))))
def z06:Fn:=Fn.mkN 2 3 (.seq (.set 2 (.op pMod [.v 0,.op pAdd [.op z09 [.c (.int 2),.v 1],.c (.int 1)]]))
 (.ret (.op z09 [.op z0D [.op pAdd [.v 2,.c (.int 1)],.c (.int 2)],.op pSub [.c (.int 1),.op z09 [.c (.int 2),.op pMod [.v 2,.c (.int 2)]]]])))
def z0p:Fn:=Fn.mkN 2 3 (.seq (.set 0 (.op pAbs [.v 0]))
 (.seq (.set 1 (.op pAbs [.v 1]))
 (.seq (.wh (.op pGt [.v 1,.c (.int 0)]) (.seq (.set 2 (.op pMod [.v 0,.v 1]))
 (.seq (.set 0 (.v 1))
 (.set 1 (.v 2)))))
 (.ret (.v 0)))))
def z03:Fn:=Fn.mkN 3 4 (.seq (.set 3 (.op z0p [.op z0p [.v 0,.v 1],.v 2]))
 (.ret (.op pTup [.op z0D [.v 0,.v 3],.op z0D [.v 1,.v 3],.op z0D [.v 2,.v 3]])))
def z0e:Fn:=Fn.mkN 2 6 (.seq (.set 2 (.op z0n [.op pAdd [.c (.int 1),.op pMod [.v 0,.v 1]]]))
 (.seq (.set 3 (.op z0D [.v 0,.v 1]))
 (.seq (.set 4 (.op z06 [.v 3,.v 2]))
 (.seq (.set 3 (.op z0D [.v 3,.op pAdd [.op z09 [.c (.int 2),.v 2],.c (.int 1)]]))
 (.seq (.set 5 (.op z06 [.v 3,.v 2]))
 (.ret (.op z03 [.v 4,.v 5,.op pAdd [.c (.int 1),.op pMod [.op z0D [.v 3,.op pAdd [.op z09 [.c (.int 2),.v 2],.c (.int 1)]],.v 2]]])))))))
def z0d:Fn:=Fn.mkN 2 3 (.seq (.set 2 (.op pMod [.op pAdd [.op pAdd [.op z09 [.op pMod [.v 0,.c (.int 2147483647)],.c (.int 48271)],.op z09 [.c (.int 977),.v 1]],.c (.int 11)],.c (.int 2147483647)]))
 (.ret (.op z0D [.op pMod [.op z09 [.v 2,.v 2],.c (.int 2147483647)],.c (.int 7)])))
def z0L:Fn:=Fn.mkN 4 6 (.seq (.set 4 (.op pAdd [.op z09 [.op z09 [.op pIx [.v 0,.c (.int 0)],.op pIx [.v 1,.c (.int 2)]],.op pSub [.v 3,.v 2]],.op z09 [.op z09 [.op pIx [.v 1,.c (.int 0)],.op pIx [.v 0,.c (.int 2)]],.v 2]]))
 (.seq (.set 5 (.op pAdd [.op z09 [.op z09 [.op pIx [.v 0,.c (.int 1)],.op pIx [.v 1,.c (.int 2)]],.op pSub [.v 3,.v 2]],.op z09 [.op z09 [.op pIx [.v 1,.c (.int 1)],.op pIx [.v 0,.c (.int 2)]],.v 2]]))
 (.ret (.op z03 [.v 4,.v 5,.op z09 [.op z09 [.op pIx [.v 0,.c (.int 2)],.op pIx [.v 1,.c (.int 2)]],.v 3]]))))
def z0h:Fn:=Fn.mkN 2 8 (.seq (.set 2 (.op z0d [.v 0,.c (.int 1)]))
 (.seq (.set 3 (.op pMod [.v 2,.c (.int 8)]))
 (.seq (.set 2 (.op z0D [.v 2,.c (.int 8)]))
 (.seq (.set 4 (.op pSub [.op pMod [.op z0D [.v 2,.c (.int 5)],.c (.int 13)],.c (.int 6)]))
 (.seq (.set 5 (.op pSub [.op pMod [.op z0D [.v 2,.c (.int 65)],.c (.int 13)],.c (.int 6)]))
 (.seq (.ifs (.and (.op pEq [.v 3,.c (.int 1)]) (.op pGt [.op pLen [.v 1],.c (.int 0)])) (.ret (.op pIx [.v 1,.op pMod [.v 2,.op pLen [.v 1]]])) .skip)
 (.seq (.ifs (.and (.op pEq [.v 3,.c (.int 2)]) (.op pGt [.op pLen [.v 1],.c (.int 0)])) (.seq (.set 6 (.op pIx [.v 1,.op pMod [.v 2,.op pLen [.v 1]]]))
 (.seq (.set 7 (.op pIx [.v 1,.op pMod [.op z0D [.v 2,.c (.int 97)],.op pLen [.v 1]]]))
 (.ifs (.op pLt [.op z09 [.op pIx [.v 6,.c (.int 2)],.op pIx [.v 7,.c (.int 2)]],.op pPow [.c (.int 10),.c (.int 12)]]) (.ret (.op z0L [.v 6,.v 7,.op pAdd [.c (.int 1),.op pMod [.v 2,.c (.int 3)]],.c (.int 4)])) .skip))) .skip)
 (.seq (.ifs (.op pEq [.v 3,.c (.int 3)]) (.set 5 (.op pAdd [.op z09 [.c (.int 2),.v 4],.c (.int 1)])) .skip)
 (.seq (.ifs (.op pEq [.v 3,.c (.int 4)]) (.seq (.set 5 (.op pSub [.op z0d [.v 0,.c (.int 2)],.op pPow [.c (.int 10),.c (.int 8)]]))
 (.ret (.op z03 [.op pSub [.op pMod [.v 0,.op pAdd [.op z09 [.c (.int 2),.op pPow [.c (.int 10),.c (.int 20)]],.c (.int 1)]],.op pPow [.c (.int 10),.c (.int 20)]],.v 5,.op pAdd [.c (.int 1),.op pMod [.v 2,.op pPow [.c (.int 10),.c (.int 5)]]]]))) .skip)
 (.ret (.op z03 [.v 4,.v 5,.op pIx [.op pLst [.c (.int 1),.c (.int 1),.c (.int 2),.c (.int 3),.c (.int 6)],.op pMod [.v 2,.c (.int 5)]]])))))))))))
def z0R:Fn:=Fn.mkN 2 4 (.seq (.ifs (.op pGt [.v 1,.c (.int 0)]) (.ret (.comp 1 [1] (.nm 0) (.v 0) none (.op z0e [.v 0,.v 1]))) .skip)
 (.seq (.own 2 (.op pLst []))
 (.seq (.for_ [] (.nm 3) (.v 0) (.app 2 (.op z0h [.v 3,.v 2])))
 (.ret (.v 2)))))
def z1l:Fn:=Fn.mkN 1 4 (.seq (.set 1 (.op z4d [.v 0]))
 (.seq (.set 2 (.op zct [.comp 1 [] (.nm 0) (.v 1) none (.op pIx [.v 0,.c (.int 2)]),.c (.int 1)]))
 (.seq (.set 3 (.op z09 [.v 2,.v 2]))
 (.ret (.sortk 1 [3] (.nm 0) (.v 1) (.op pTup [.op z0D [.op z09 [.op pIx [.v 0,.c (.int 0)],.v 1],.op pIx [.v 0,.c (.int 2)]],.op z0D [.op z09 [.op pIx [.v 0,.c (.int 1)],.v 1],.op pIx [.v 0,.c (.int 2)]]]))))))
def z14:Fn:=Fn.mkN 1 1 (.ret (.op z0I [.op z1l [.v 0],.c (.fn 1)]))
def z21:Fn:=Fn.mkN 2 2 (.ret (.op pEq [.op z14 [.op pAdd [.v 0,.op pTup [.v 1]]],.v 0]))
def z0a:Fn:=Fn.mkN 2 2 (.ret (.op pTup [.op pSub [.op z09 [.op pIx [.v 1,.c (.int 0)],.op pIx [.v 0,.c (.int 2)]],.op z09 [.op pIx [.v 0,.c (.int 0)],.op pIx [.v 1,.c (.int 2)]]],.op pSub [.op z09 [.op pIx [.v 1,.c (.int 1)],.op pIx [.v 0,.c (.int 2)]],.op z09 [.op pIx [.v 0,.c (.int 1)],.op pIx [.v 1,.c (.int 2)]]]]))
def z0t:Fn:=Fn.mkN 2 2 (.ret (.op pSub [.op z09 [.op pIx [.v 0,.c (.int 0)],.op pIx [.v 1,.c (.int 1)]],.op z09 [.op pIx [.v 0,.c (.int 1)],.op pIx [.v 1,.c (.int 0)]]]))
def z0B:Fn:=Fn.mkN 2 2 (.ret (.op pAdd [.op z09 [.op pIx [.v 0,.c (.int 0)],.op pIx [.v 1,.c (.int 0)]],.op z09 [.op pIx [.v 0,.c (.int 1)],.op pIx [.v 1,.c (.int 1)]]]))
def z0k:Fn:=Fn.mkN 2 4 (.seq (.ifs (.op pLt [.op pLen [.v 0],.c (.int 2)]) (.ret (.op pIn [.v 1,.v 0])) .skip)
 (.seq (.forr [.op pLen [.v 0]] (.nm 2) (.seq (.set 3 (.op z0a [.op pIx [.v 0,.op pSub [.v 2,.c (.int 1)]],.op pIx [.v 0,.v 2]]))
 (.seq (.ifs (.op pLt [.op z0t [.v 3,.op z0a [.op pIx [.v 0,.op pSub [.v 2,.c (.int 1)]],.v 1]],.c (.int 0)]) (.ret (.c (.bl false))) .skip)
 (.ifs (.and (.op pEq [.op pLen [.v 0],.c (.int 2)]) (.op pLt [.op z0B [.v 3,.op z0a [.op pIx [.v 0,.op pSub [.v 2,.c (.int 1)]],.v 1]],.c (.int 0)])) (.ret (.c (.bl false))) .skip))))
 (.ret (.c (.bl true)))))
def pl3 (t:T3):D :=.tup [.int t.1,.int t.2.1,.int t.2.2]
abbrev pls3 (l:List T3):D :=.tup (l.map pl3)
abbrev Tb (n:Nat)(t:T3):Prop:=Bt n t.1/\Bt n t.2.1/\Bt n t.2.2
abbrev Tz (t:T3):Prop:=Bt 100000 t.1/\Bt 100000 t.2.1/\Bt 9000 t.2.2
abbrev Tbs (n:Nat)(l:List T3):Prop:=∀t∈l,Tb n t
def z6D {a b c:T3}(h1:Tb 1000000 a)(h2:Tb 1000000 b)(h3:Tb 1000000 c)(q:Q (.int (cr3 a b c))):z1y.run [pl3 a,pl3 b,pl3 c] Q X:=by
 obtain⟨a1,a2,a3⟩:=h1;obtain⟨b1,b2,b3⟩:=h2;obtain⟨c1,c2,c3⟩:=h3;unfold pl3;walk_at "fn";ac_nf;have u1:Bt 2000001 (b.2.1*c.2.2 - c.2.1*b.2.2):=(Bt.sub (Bt.mul b2 c3) (Bt.mul c2 b3)).le;have u2:Bt 2000001 (b.1*c.2.2 - c.1*b.2.2):=(Bt.sub (Bt.mul b1 c3) (Bt.mul c1 b3)).le;have u3:Bt 2000001 (b.1*c.2.1 - b.2.1*c.1):=(Bt.sub (Bt.mul b1 c2) (Bt.mul b2 c1)).le;refine zf4 ⟨a1.le,u1.le⟩ ?_;ac_nf;exact q
def z87 (hb:Tbs 1000000 l)(hz:l.length<=100000)(q:Q (.lst ((z39 l).reverse.map pl3))):z1S.run [.lst (l.map pl3),.fn 1] Q X:=by
 walk_at "fn";refine z9P (zbT ?_);ac_nf;refine z3d (λx hx=>by cases hx) ?_;ac_rfl;ac_nf;refine z0u (f:=pl3) (λdn ρ=>∃(st:List T3) (x:B),st=z39 dn/\(∀p∈st,p∈l)/\st.length<=dn.length/\ρ=[.s (.lst (l.map pl3)),.s (.fn 1),.o (.lst (st.reverse.map pl3)),x]) ⟨[],_,rfl,(λp hp=>by cases hp),wx _,rfl⟩ ?_ ?_
 .rintro dn v r ρ e ⟨st,x,hst,hsub,hlen,rfl⟩;have hv:v∈l:=by rw[e];simp
  l_bnd;ac_rfl;refine Sm.cut (λρ=>∃st':List T3,st'=z1C v st/\(∀p∈st',p∈l)/\st'.length<=dn.length/\ρ=[.s (.lst (l.map pl3)),.s (.fn 1),.o (.lst (st'.reverse.map pl3)),.s (pl3 v)]) ?_ ?_
  .refine z6s (λρ=>∃st':List T3,z1C v st'=z1C v st/\(∀p∈st',p∈l)/\st'.length<=dn.length/\ρ=[.s (.lst (l.map pl3)),.s (.fn 1),.o (.lst (st'.reverse.map pl3)),.s (pl3 v)]) (λρ=>nL ρ 2) ⟨st,rfl,hsub,hlen,rfl⟩ ?_;rintro ρ ⟨st',h1,h2,h3,rfl⟩;ac_nf
   match st',h1,h2,h3 with
   | [],h1,h2,h3=>
    refine t_no (by simp) ?_;refine z1B ?_;exact⟨[],by rw[<- h1];rfl,h2,h3,rfl⟩
   | [b],h1,h2,h3=>
    refine t_no (by simp) ?_;refine z1B ?_;exact⟨[b],by rw[<- h1];rfl,h2,h3,rfl⟩
   | b::a::r,h1,h2,h3=>
    refine z3G (by simp;lia) ?_;ac_nf;refine z4B rfl ?_;ac_nf;refine z1f (z0w zbt) ?_;ac_nf;refine z1f (z0w ze0) ?_;ac_nf;have hB:∀p,p∈l->Tb 1000000 p:=hb;refine z6D (hB a (h2 a (by simp))) (hB b (h2 b (by simp))) (hB v hv) ?_;ac_nf;refine z0y (λhc =>?_) (λhc =>?_)
    .refine zfZ (z0x rfl ?_);unfold popL;rw[wg,j8,wB,show (b::a::r).reverse[(b::a::r).length - 1]? = some b by simp];refine⟨⟨a::r,?_,λp hp=>h2 p (wm _ hp),by simp at h3 ⊢;lia,?_⟩,?_⟩
     .rw[<- h1];show _=z1C v (b::a::r);rw[z1C,if_pos hc]
     .simp
     .show List.length _<List.length _;simp
    .exact⟨b::a::r,by rw[<- h1,z1C,if_neg hc],h2,h3,rfl⟩
  .rintro ρ ⟨st',h1,h2,h3,rfl⟩;refine z3p (l:=[]) (z0x rfl ?_);ac_nf;have hdl:dn.length<l.length:=by rw[e];simp
   refine⟨by simp;exact szl' (by lia),Safe.of_noL rfl rfl _,?_⟩;ac_rfl;refine⟨v::st',.s (pl3 v),?_,λp hp =>?_,by simp;lia,by simp⟩
   .unfold z39 at hst ⊢;rw[List.foldl_append, <- hst,h1]
    rfl
   .rcases ww.mp hp with rfl | hp
    .exact hv
    .exact h2 p hp
 rintro ρ ⟨st,x,hst,hsub,hlen,rfl⟩;ac_nf;rw[hst];exact q
def zbQ (hb:Tbs 1000000 l)(hz:l.length<=100000)(q:Q (pls3 (z76 l))):z0I.run [.lst (l.map pl3),.fn 1] Q X:=by
 walk_at "fn";ac_nf;rw[wg];refine z0y (λh =>?_) (λh =>?_)
 .ac_nf;rw[z76,if_pos (by lia)] at q;exact q
 ac_nf;refine z87 hb hz ?_;have c1:∀(l:List T3) (s:List T3),(l.foldl (λs v=>v::z1C v s) s).length<=l.length+s.length:=by
  have c0:∀(v:T3) (s:List T3),(z1C v s).length<=s.length:=by
   intro v s
   induction s with
   | nil=>exact wx _
   | cons b s ih=>
    cases s with
    | nil=>exact wx _
    | cons a s=>
     rw[z1C]
     split
     .exact jS ih
     .exact wx _
  intro l
  induction l with
  | nil=>intro s;simp
  | cons v l ih=>
   intro s;rw[List.foldl_cons];have:=ih (v::z1C v s);have:=c0 v s;simp only[w5] at*;lia
 have c2:(z39 l).length<=l.length:=wO (c1 l []) (wx _);have c3:(z39 l.reverse).length<=l.length:=wO (c1 l.reverse []) (by simp);refine z1k ?_ ?_
 .exact⟨trivial,trivial,trivial,trivial,trivial⟩
 ac_rfl;ac_nf;refine z6Y ?_;ac_nf;rw[<- uP];refine z87 (λp hp=>hb p (by simpa using hp)) (by simpa using hz) ?_;refine z1k ⟨trivial,trivial,trivial,trivial,trivial⟩ ?_;ac_rfl;ac_nf;rw[z2n,z2n,z4g,z4g];refine z6Z (by simp;exact szl (by lia)) ?_;ac_nf;rw[<- wY];rw[z76,if_neg (by lia)] at q;exact q
def pk3 (t:T3):List Int:=[t.1,t.2.1,t.2.2]
def zah (h:pk3 p=pk3 r):p=r:=by
 unfold pk3 at h
 injection h with h1 h2
 injection h2 with h2 h3
 injection h3 with h3 _
 exact vV h1 (vV h2 h3)
def zaf (l:List T3):l.map pl3=(l.map pk3).map tupD:=by rw[vM];rfl
def Ps (d:D)(l:List T3):Prop:=d = .tup (l.map pl3)\/d = .lst (l.map pl3)
def Ps.set {d:D}{l:List T3}{P:List (List Int)->Prop}(h:Ps d l)(hz:l.length<=63)(q:P (l.map pk3)):z8S d P:=by
 rcases h with rfl | rfl
 .exact⟨l.map pk3,zaf l,by simpa using hz,q⟩
 .exact⟨l.map pk3,zaf l,by simpa using hz,q⟩
def zbZ {l:List T3}(h:Rows (l.map pk3) kl):∃rl:List T3,kl=rl.map pk3/\rl.Nodup/\∀p,p∈rl↔p∈l:=by
 have h1:∀k∈kl,∃p,k=pk3 p:=λk hk=>by
  obtain⟨p,_,rfl⟩:=wv.mp ((h.mem k).mp hk);exact⟨p,rfl⟩
 have h2:∃rl:List T3,kl=rl.map pk3:=by
  clear h
  induction kl with
  | nil=>exact⟨[],rfl⟩
  | cons k kl ih=>
   obtain⟨p,hp⟩:=h1 k wJ;obtain⟨rl,hr⟩:=ih λk hk=>h1 k (wm _ hk);exact⟨p::rl,by rw[hp,hr];rfl⟩
 obtain⟨rl,rfl⟩:=h2;refine⟨rl,rfl,?_,λp =>?_⟩
 .have:=h.up;rw[vp] at this;exact this.imp λ{a b} z e=>by
   rw[e,Tim.z67] at z
   cases z
 .have:=h.mem (pk3 p)
  w_up
  .intro hp;obtain⟨r,hr,er⟩:=wv.mp (this.mp (wv.mpr ⟨p,hp,rfl⟩));rw[<- zah er];exact hr
  .intro hp;obtain⟨r,hr,er⟩:=wv.mp (this.mpr (wv.mpr ⟨p,hp,rfl⟩));rw[<- zah er];exact hr
def zcn {α β:Type}{f:α->β}:∀{l:List α}{m:List β},(l.map f).Perm m->∃l',l.Perm l'/\m=l'.map f:=by
 intro l m h;generalize e:l.map f=k at h
 induction h generalizing l with
 | nil=>
  cases l with
  | nil=>exact⟨[],.refl _,rfl⟩
  | cons a l=>simp at e
 | cons x _ ih=>
  cases l with
  | nil=>simp at e
  | cons a l=>
   rw[ve] at e
   injection e with e1 e2
   obtain⟨l',p,q⟩:=ih e2;exact⟨a::l',p.cons a,by rw[ve,e1,q]⟩
 | swap x y t=>
  match l,e with
  | a::b::l,e=>
   simp only[ve,List.cons.injEq] at e;obtain⟨e1,e2,e3⟩:=e;exact⟨b::a::l,.swap b a l,by simp[e1,e2,e3]⟩
 | trans _ _ ih1 ih2=>
  obtain⟨l1,p1,q1⟩:=ih1 e;obtain⟨l2,p2,q2⟩:=ih2 q1.symm;exact⟨l2,p1.trans p2,q2⟩
def fk (g:Int)(t:T3):List Int:=[t.1*(g*g) / t.2.2,t.2.1*(g*g) / t.2.2]
def zjA (hp:Lo p)(hq:Lo q)(gp:p.2.2<=g)(gq:q.2.2<=g)(ne:p≠q)(h:HT.z0j (fk g q) (fk g p)=false):Lx3 p q:=by
 have h':¬ Lx (q.1*(g*g) / q.2.2,q.2.1*(g*g) / q.2.2) (p.1*(g*g) / p.2.2,p.2.1*(g*g) / p.2.2):=λz=>by
  have:=zaL.mpr z;unfold fk at h;rw[h] at this
  cases this
 have f1:=z8w (g:=g) (x:=q.1) (y:=p.1) hq.1 hp.1 gq gp;have f2:=z8w (g:=g) (x:=q.2.1) (y:=p.2.1) hq.1 hp.1 gq gp;unfold Lx at h';dsimp only at h';rw[f1.1,f2.1] at h';unfold Lx3
 rcases Int.lt_trichotomy (p.1*q.2.2) (q.1*p.2.2) with z | z | z
 .exact .inl z
 .refine .inr ⟨z,?_⟩
  rcases Int.lt_trichotomy (p.2.1*q.2.2) (q.2.1*p.2.2) with y | y | y
  .exact y
  .exact absurd (Lo.eq hp hq z y) ne
  .exact absurd (.inr ⟨f1.2 z.symm,y⟩) h'
 .exact absurd (.inl z) h'
def srt (h:n<=63):n<Tim.z18:=uM h (by decide)
def zbR {d:D}{l:List T3}(hd:Ps d l)(hb:∀t∈l,Tz t)(lo:∀t∈l,Lo t)(hz:l.length<=63)(q:∀rl:List T3,rl.Pairwise Lx3->(∀p,p∈rl↔p∈l)->rl.length<=l.length->Q (.lst (rl.map pl3))):z1l.run [d] Q X:=by
 walk_at "fn";ac_nf;refine hd.set hz ⟨λk hk =>?_,λkl h =>?_⟩
 .obtain⟨p,_,rfl⟩:=wv.mp hk;unfold pk3;simp
 obtain⟨r0,rfl,nd,hm⟩:=zbZ h;have hl:r0.length<=l.length:=z0N nd λx hx=>(hm x).mp hx;ac_nf;rw[<- zaf];kl_no;refine z0O (g:=λt =>.int t.2.2) (λt ht K hK =>?_) ?_
 .unfold pl3;ac_nf;exact hK
 have e:(r0.map λt=>D.int t.2.2)=(r0.map (·.2.2)).map D.int:=by rw[vM];rfl
 rw[e];ac_nf;refine zhx λg hg hgm =>?_;have gg:∀t∈r0,t.2.2<=g:=λt ht=>hg _ (wv.mpr ⟨t,ht,rfl⟩);have bg:Bt 9000 g:=by
  rcases hgm with z | ⟨_,rfl⟩
  .obtain⟨t,ht,rfl⟩:=wv.mp z;exact(hb t ((hm t).mp ht)).2.2
  .exact z6l (by decide) (by decide)
 refine⟨Safe.of_noL rfl rfl _,?_⟩;ac_rfl;ac_nf;refine zfr ?_;ac_nf;refine⟨by rw[wg];exact srt (by lia),?_⟩;have bgg:Bt 18000 (g*g):=(Bt.mul bg bg).le;refine z0O (g:=λt=>tupD (fk g t)) (λt ht K hK =>?_) ?_
 .have tl:=(lo t ((hm t).mp ht)).1;obtain⟨b1,b2,b3⟩:=hb t ((hm t).mp ht);unfold pl3;ac_nf;exact hK
 refine⟨r0.map (fk g),by rw[vM];rfl,λk hk =>?_,λout ho =>?_⟩
 .obtain⟨t,_,rfl⟩:=wv.mp hk;unfold fk;simp
 obtain⟨ps,p1,rfl,p3⟩:=ho;have ez:(r0.map (fk g)).zip (r0.map pl3)=r0.map λt=>(fk g t,pl3 t):=by
  clear p1 nd hm hl gg h e hg hgm
  induction r0 with
  | nil=>rfl
  | cons t r ih=>rw[ve,ve,ve,jb,ih]
 rw[ez] at p1;obtain⟨rl,pm,rfl⟩:=zcn p1.symm;rw[vM];refine q rl ?_ (λp=>pm.mem_iff.symm.trans (hm p)) (by rw[<- pm.length_eq];exact hl);rw[vp] at p3;have nd':rl.Nodup:=pm.nodup_iff.mp nd;refine List.Pairwise.imp_of_mem (λ{a b} ha hb' z =>?_) (p3.and nd');have ma:=pm.mem_iff.mpr ha;have mb:=pm.mem_iff.mpr hb';exact zjA (lo a ((hm a).mp ma)) (lo b ((hm b).mp mb)) (gg a ma) (gg b mb) z.2 z.1
def z88 (hd:Ps d l)(hb:∀t∈l,Tz t)(lo:∀t∈l,Lo t)(hz:l.length<=63)(q:∀h,Ar l h->Q (pls3 h)):z14.run [d] Q X:=by
 walk_at "fn";ac_nf;refine zbR hd hb lo hz λrl h1 h2 h3 =>?_;ac_nf;exact zbQ (λp hp=>have z:=hb p ((h2 p).mp hp);⟨z.1.le,z.2.1.le,z.2.2.le⟩) (by lia) (q _ ⟨rl,h1,h2,rfl⟩)
open Mth
def z6o (a:Int):(if a<0 then -a else a)=(a.natAbs:Int):=by split <;> lia
def z6E (q:Q (.int ((Int.gcd a b:Nat):Int))):z0p.run [.int a,.int b] Q X:=by
 walk_at "fn";ac_nf;rw[z6o,z6o];refine z6s (λρ=>∃(m s:Nat) (y:B),Nat.gcd m s=Int.gcd a b/\ρ=[.s (.int (m:Int)),.s (.int (s:Int)),y]) (λρ=>(nI ρ 1).toNat) ⟨a.natAbs,b.natAbs,_,rfl,rfl⟩ ?_;rintro ρ ⟨m,s,y,es,rfl⟩;ac_nf;refine z0y (λz =>?_) (λz =>?_)
 .ac_nf;have hm:(m:Int) % (s:Int)=((m % s:Nat):Int):=by simp
  refine⟨⟨s,m % s,_,by rw[<- es,Wc m s,Nat.gcd_rec s m,Wc],by rw[hm]⟩,?_⟩;show ((m:Int) % (s:Int)).toNat<((s:Nat):Int).toNat
  rw[hm];have:=ut m (show 0<s by lia);lia
 .have:s=0:=by lia
  subst this;rw[Nat.gcd_zero_right] at es;ac_nf;rw[es];exact q
structure Lw (x y b:Int)(t:T3):Prop where
 lo:Lo t
 cx:t.1*b=x*t.2.2
 cy:t.2.1*b=y*t.2.2
 ax:t.1.natAbs<=x.natAbs
 ay:t.2.1.natAbs<=y.natAbs
 ab:t.2.2<=b
def z5c (hb:0<b)(bb:Bt 9000 b)(q:∀t,Lw x y b t->Q (pl3 t)):z03.run [.int x,.int y,.int b] Q X:=by
 have hg:((Int.gcd ((Int.gcd x y:Nat):Int) b:Nat):Int)=g3 x y b:=by
  unfold g3;rw[z8u]
  congr 1
  show Nat.gcd (Nat.gcd x.natAbs y.natAbs) b.natAbs=_;rw[Wc, <- Nat.gcd_assoc]
  rfl
 have hp:=zdy (x:=x) (y:=y) hb;have g0:=zb3 (x:=x) (y:=y) hb;have gb:=z6d x y b;have bg:Bt 9000 (g3 x y b):=Bt.le (bb.of_abs (by
  have:=uJ.mpr gb;exact Nat.le_of_dvd (by lia) this))
 walk_at "fn";ac_nf;refine z6E ?_;ac_nf;refine z6E ?_;rw[hg];generalize g3 x y b=g at*;ac_nf;refine q (x / g,y / g,b / g) ?_;obtain⟨k,rfl⟩:=gb;exact⟨⟨by have:=hp.pos;exact this,hp.cop⟩,hp.cx,hp.cy,hp.lu,hp.lv,Int.ediv_le_self _ (by lia)⟩
structure Pb (n:Nat)(t:T3):Prop where
 lo:Lo t
 bx:Bt n t.1
 bY:Bt n t.2.1
 bw:Bt 1000 t.2.2
def Pb.tz {n:Nat}{t:T3}(h:Pb n t)(q:n<=100000):Tz t:=⟨h.bx.le q,h.bY.le q,h.bw.le⟩
def btw (a b:T3)(i j:Int)(t:T3):Prop:=Lw (a.1*b.2.2*(j - i)+b.1*a.2.2*i) (a.2.1*b.2.2*(j - i)+b.2.1*a.2.2*i) (a.2.2*b.2.2*j) t
def z9W (ha:Pb n a)(hb:Pb n b)(hn:n<=100000)(h1:0<=i)(h2:i<=10)(h3:0<j)(h4:j<=10)(q:∀t,btw a b i j t->Q (pl3 t)):z0L.run [pl3 a,pl3 b,.int i,.int j] Q X:=by
 have a1:Bt 100000 a.1:=ha.bx.le hn;have a2:Bt 100000 a.2.1:=ha.bY.le hn;have a3:Bt 1000 a.2.2:=ha.bw;have b1:Bt 100000 b.1:=hb.bx.le hn;have b2:Bt 100000 b.2.1:=hb.bY.le hn;have b3:Bt 1000 b.2.2:=hb.bw;have bi:Bt 5 i:=z08 (by lia);have bj:Bt 5 j:=z08 (by lia);have bk:Bt 5 (j - i):=z08 (by lia);have w1:=ha.lo.1;have w2:=hb.lo.1;have c1:Bt 102000 (a.1*b.2.2):=(Bt.mul a1 b3).le;have c2:Bt 102000 (b.1*a.2.2):=(Bt.mul b1 a3).le;have c3:Bt 102000 (a.2.1*b.2.2):=(Bt.mul a2 b3).le;have c4:Bt 102000 (b.2.1*a.2.2):=(Bt.mul b2 a3).le;have c5:Bt 4000 (a.2.2*b.2.2):=(Bt.mul a3 b3).le;unfold pl3;walk_at "fn";ac_nf;exact z5c (wP (wP w1 w2) h3) (Bt.mul (Bt.mul a3 b3) bj).le q
def zfY {k:Int}(h0:0<=k)(h1:k<=60)(q:∀m:Int,0<m->Bt 300 m->Q (.int m)):z0n.run [.int k] Q X:=by
 walk_at "fn";ac_nf;refine z5g (by lia) (by lia) ?_;refine z0u (f:=λj:Nat=>D.int (j:Int)) (λdn ρ=>∃(m:Int) (x:B),0<m/\Bt (4+4*dn.length) m/\ρ=[.s (.int k),.s (.int m),x]) ⟨1,_,by decide,z08 (by decide),rfl⟩ ?_ ?_
 .rintro dn v r ρ e ⟨m,x,m0,bm,rfl⟩;have hl:dn.length<=60:=by
   have:=congrArg List.length e;simp at this;lia
  l_bnd;ac_rfl;refine zeh ?_;ac_nf;refine zf4 ⟨bm.le (by lia),(z08 (n:=4) (by decide)).le⟩ ?_;refine⟨Safe.of_noL rfl rfl _,m*10,_,by lia,?_,rfl⟩;rw[wL,uH];exact(Bt.mul bm (z08 (n:=4) (i:=10) (by decide))).le (by lia)
 .rintro ρ ⟨m,x,m0,bm,rfl⟩;ac_nf;exact q m m0 (bm.le (by simp;lia))
def z9V (h0:0<=m)(bm:Bt 300 m)(q:∀x,Bt 400 x->Q (.int x)):z06.run [.int r,.int m] Q X:=by
 walk_at "fn";ac_nf;have a1:=jr r (show 2*m+1≠0 by lia);have a2:=uN r (show 0<2*m+1 by lia);k_ne;generalize r % (2*m+1)=d at*;have bd:Bt 310 ((d+1) / 2):=b0.of_abs (by lia);have be:Bt 4 (1 - 2*(d % 2)):=z08 (by lia);ac_nf;exact q _ (Bt.mul bd be).le
def z5E {c k:Int}(hk:0<=k)(hk':k<=1000)(q:∀r:Int,0<=r->r<2147483647->Q (.int r)):z0d.run [.int c,.int k] Q X:=by
 have bk:Bt 640 k:=z08 (by lia);have b1:Bt 700 (c % 2147483647):=Bt.le (m:=40) (z08 (by lia));walk_at "fn";ac_nf;have h1:0<=(c % 2147483647*48271+977*k+11) % 2147483647/\(c % 2147483647*48271+977*k+11) % 2147483647<2147483647:=by lia
 generalize (c % 2147483647*48271+977*k+11) % 2147483647=z at*;have bz:Bt 40 z:=z08 (by lia);ac_nf;generalize z*z=y at*;exact q _ (by lia) (by lia)
def zbu (hne:l≠[]):∃t∈l,atI (l.map pl3) (s % ((l.map pl3).length:Int))=some (pl3 t):=by
 have hl:0<l.length:=vq.mpr hne;rw[wg];have a1:=jr s (show (l.length:Int)≠0 by lia);have a2:=uN s (show 0<(l.length:Int) by lia);generalize s % (l.length:Int)=k at*;obtain⟨j,rfl⟩:=Int.eq_ofNat_of_zero_le a1;have hj:j<l.length:=by lia
 refine⟨l[j],ua _,z0w ?_⟩;unfold atI ixN;rw[if_pos (by lia)];simp[hj]
open PySem.Spec PyProof.Rows Tab
mutual
def z75 (K:W.Frag):D->Value->Bool
 | .int i,.int j _=>i == j
 | .str x,.str y _=>x == y
 | .non,.none=>true
 | .bl b,.bool c=>b == c
 | .tup ds,.ref a=>match K.lookup a with
  | some o=>(match o.cls with | .type t=>t == "tuple" | _=>false) && (match o.data with
   | .seq its _=>(decide (its.size<=sizeLine) && o.dict.isNone) && z8s K ds its.toList
   | _=>false)
  | none=>false
 | _,_=>false
def z8s (K:W.Frag):List D->List Value->Bool
 | [],[]=>true
 | d::ds,v::vs=>z75 K d v && z8s K ds vs
 | _,_=>false
end
def ziq (K:W.Frag)(mg:WmP)(x:Str)(d:D):Prop:=∃v,mg x=some v/\z75 K d v=true
section
variable {K:W.Frag}{mg:WmP}
mutual
theorem z8t:∀(d:D) {u:Value},z75 K d u=true->∃v,RelV v u/\∀G,RD K mg G d v
 | .non,u,h=>by
  cases u with
  | none=>exact⟨.non,rfl,λ_=>by rw[RD]⟩
  | _=>cases h
 | .bl b,u,h=>by
  cases u with
  | bool c=>rw[z75] at h;cases (eq_of_beq h);exact⟨.bl b,rfl,λ_=>RD.bl'⟩
  | _=>cases h
 | .int i,u,h=>by
  cases u with
  | int j t=>rw[z75] at h;cases (eq_of_beq h);exact⟨.int i,⟨t,rfl⟩,λ_=>RD.int'⟩
  | _=>cases h
 | .str x,u,h=>by
  cases u with
  | str y t=>rw[z75] at h;cases (eq_of_beq h);exact⟨.str x,⟨t,rfl⟩,λ_=>RD.str'⟩
  | _=>cases h
 | .tup ds,u,h=>by
  cases u with
  | ref a=>
   rw[z75] at h
   split at h
   .rename_i o ho
    rw[vE] at h;obtain⟨h1,h2⟩:=h
    split at h2
    .rename_i its n hd
     rw[vE,vE] at h2;obtain⟨vs,r,q⟩:=z74 ds h2.2;refine⟨.ref a,rfl,λG=>by
      rw[RD];refine⟨a,vs,rfl,.inr ⟨o,its,n,ho,?_,hd,ur h2.1.1,r,Option.isNone_iff_eq_none.mp h2.1.2⟩,q G⟩
      split at h1
      .rename_i t ht;rw[ht,eq_of_beq h1]
      .cases h1⟩
    .cases h2
   .cases h
  | _=>cases h
 | .lst _,_,h=>by cases h
 | .dct _ _,_,h=>by cases h
 | .fn _,_,h=>by cases h
 | .exc _,_,h=>by cases h
theorem z74:∀(ds:List D) {us:List Value},z8s K ds us=true->∃vs,Vals vs us/\∀G,RDs K mg G ds vs
 | [],[],_=>⟨[],.nil,λ_=>RDs.nil⟩
 | [],_::_,h=>by cases h
 | _::_,[],h=>by cases h
 | d::ds,u::us,h=>by
  rw[z8s,vE] at h;obtain⟨v,r,q⟩:=z8t d h.1;obtain⟨vs,rs,qs⟩:=z74 ds h.2;exact⟨v::vs,.cons r rs,λG=>RDs.cons (q G) (qs G)⟩
end
end
def ziM (hg:Gl X x)(hk:ziq X.K X.mg x d)(hd:(x == ("__debug__":Str))=false:=by decide):QX X E (.Name x pos) (.c d):=by
 obtain⟨u,hm,h⟩:=hk;obtain⟨v,r,q⟩:=z8t (mg:=X.mg) d h;exact qx_c ⟨zal hg hm r hd⟩ q
def z2C:D :=.tup [.tup [.int (1),.int (0)],.tup [.int (0),.int (1)],.tup [.int (-1),.int (0)],.tup [.int (0),.int (-1)]]
def z31:Fn:=Fn.mkN 1 1 (.ret (.op pTup [.op pIx [.v 0,.c (.int 1)],.op pNeg [.op pIx [.v 0,.c (.int 0)]]]))
def z1b:Fn:=Fn.mkN 2 6 (.seq (.ifs (.op pEq [.op pLen [.v 0],.c (.int 1)]) (.ret (.comp 1 [0] (.nm 0) (.c z2C) none (.op pTup [.v 0,.op pIx [.v 1,.c (.int 0)]]))) .skip)
 (.seq (.own 2 (.op pLst []))
 (.seq (.forr [.op pLen [.v 0]] (.nm 3) (.seq (.set 4 (.op pIx [.v 0,.v 3]))
 (.seq (.set 5 (.callv z7P 1 [.op pIx [.v 0,.op pSub [.v 3,.c (.int 1)]],.v 4]))
 (.seq (.app 2 (.op pTup [.op z31 [.v 5],.v 4]))
 (.ifs (.op pEq [.op pLen [.v 0],.c (.int 2)]) (.app 2 (.op pTup [.v 5,.v 4])) .skip)))))
 (.ret (.v 2)))))
def z24 {α:Type}{l:List α}{k:Nat}(h:k<l.length):atI l (k:Int)=l[k]? := by
 unfold atI ixN;rw[if_pos (by lia),if_pos (by lia)];simp
abbrev P:=Geo.P
def rt (s:P):P:=(s.2,-s.1)
def ways:List P:=[(1,0),(0,1),(-1,0),(0,-1)]
def z8V (q:Q (vec (rt s))):z31.run [vec s] Q X:=by
 walk_at "fn";ac_nf;exact q
def zjK {h:List P}{k:Nat}(hk:k<h.length):atI h (k:Int)=some (Geo.cy h k):=by
 rw[z24 hk, <- z22 (i:=k) (by lia),wQ hk]
open Mth
def zij {α:Type}{l:List α}{k:Nat}(h:k<l.length):atI l ((k:Int) - 1)=l[(k+l.length - 1) % l.length]? := by
 by_cases hk:k=0
 .subst hk;rw[show (0+l.length - 1) % l.length=l.length - 1 from by rw[je];exact wQ (by lia)];unfold atI ixN;rw[if_neg (by lia),if_pos (by lia)];show l[(((0:Nat):Int) - 1+(l.length:Int)).toNat]? = _
  congr 1
  lia
 .rw[show (k:Int) - 1=((k - 1:Nat):Int) by lia,z24 (by lia),show (k+l.length - 1) % l.length=k - 1 from by rw[show k+l.length - 1=k - 1+l.length by lia,vS];exact wQ (by lia)]
def OkL (h:List T3)(p:T3)(k:Nat):Prop:=∀a b,h[(k+h.length - 1) % h.length]? = some a->h[k]? = some b->
 0<=(Qa a b).1*(Qa a p).2 - (Qa a b).2*(Qa a p).1/\(h.length=2->0<=(Qa a b).1*(Qa a p).1+(Qa a b).2*(Qa a p).2)
def zi0 {M:Int}{h:List T3}{p:T3}(hM:∀t∈h,Dv M t)(pM:Dv M p)(hl:2<=h.length):In (h.map (Geo.up M)) (Geo.up M p)↔∀k,k<h.length->OkL h p k:=by
 by_cases h2:h.length=2
 .match h,h2 with
  | [a,b],_=>
   have ma:=hM a (by simp);have mb:=hM b (by simp);have s1:=z6z ma mb pM;have s2:=z6z mb ma pM;have c:Qc (Geo.up M b) (Geo.up M a) (Geo.up M p) = -Qc (Geo.up M a) (Geo.up M b) (Geo.up M p):=by simp only[Qc];grind
   w_up
   .intro z;have z':Qc (Geo.up M a) (Geo.up M b) (Geo.up M p)=0/\0<=dot (Geo.up M a) (Geo.up M b) (Geo.up M p)/\0<=dot (Geo.up M b) (Geo.up M a) (Geo.up M p):=z;obtain⟨z1,z2,z3⟩:=z';intro k hk
    rcases(by simp at hk;lia:k=0\/k=1) with rfl | rfl
    .intro a' b' e1 e2;simp at e1 e2;subst e1;subst e2;exact⟨s2.1.mpr (by lia),λ_=>s2.2.2.mpr z3⟩
    .intro a' b' e1 e2;simp at e1 e2;subst e1;subst e2;exact⟨s1.1.mpr (by lia),λ_=>s1.2.2.mpr z2⟩
   .intro z;have o0:=z 0 (by simp) b a rfl rfl;have o1:=z 1 (by simp) a b (by simp) rfl;have y0:=s2.1.mp o0.1;have y1:=s1.1.mp o1.1;show Qc (Geo.up M a) (Geo.up M b) (Geo.up M p)=0/\0<=dot (Geo.up M a) (Geo.up M b) (Geo.up M p)/\0<=dot (Geo.up M b) (Geo.up M a) (Geo.up M p);exact⟨by lia,s1.2.2.mp (o1.2 rfl),s2.2.2.mp (o0.2 rfl)⟩
 .rw[In.three (by rw[wg];lia),wg]
  w_up
  .intro z k hk a b ea eb;refine⟨?_,λw=>absurd w h2⟩;refine(z6z (hM a (wy ea)) (hM b (wy eb)) pM).1.mpr ?_;exact z k _ _ hk (by rw[wB,ea];rfl) (by rw[wB,eb];rfl)
  .intro z j A B hj eA eB;rw[wB] at eA eB;obtain⟨a,ea,rfl⟩:=vL.mp eA;obtain⟨b,eb,rfl⟩:=vL.mp eB;exact(z6z (hM a (wy ea)) (hM b (wy eb)) pM).1.mp (z j hj a b ea eb).1
def z3H {a b:T3}{Q:DK}{X:XP}(ha:Tz a)(hb:Tz b)(q:Q (vec (Qa a b))):z0a.run [pl3 a,pl3 b] Q X:=by
 obtain⟨a1,a2,a3⟩:=ha;obtain⟨b1,b2,b3⟩:=hb;unfold pl3;walk_at "fn";ac_nf;exact q
def z57 {a b:T3}(ha:Tz a)(hb:Tz b):Vb 120000 (Qa a b):=⟨(Bt.sub (Bt.mul hb.1 ha.2.2) (Bt.mul ha.1 hb.2.2)).le,(Bt.sub (Bt.mul hb.2.1 ha.2.2) (Bt.mul ha.2.1 hb.2.2)).le⟩
def z9M {p r:Int × Int}{Q:DK}{X:XP}(h1:Vb 120000 p)(h2:Vb 120000 r)(q:Q (.int (p.1*r.2 - p.2*r.1))):z0t.run [vec p,vec r] Q X:=by
 obtain⟨a1,a2⟩:=h1;obtain⟨b1,b2⟩:=h2;walk_at "fn";ac_nf;exact q
def zdq {p r:Int × Int}{Q:DK}{X:XP}(h1:Vb 120000 p)(h2:Vb 120000 r)(q:Q (.int (p.1*r.1+p.2*r.2))):z0B.run [vec p,vec r] Q X:=by
 obtain⟨a1,a2⟩:=h1;obtain⟨b1,b2⟩:=h2;walk_at "fn";ac_nf;exact q
def z4D (a b:T3):deq (pl3 a) (pl3 b)=decide (a=b):=by
 obtain⟨a,b',c⟩:=a;obtain⟨d,e,f⟩:=b;show PyData.eqv (.tuple [.int a,.int b',.int c]) (.tuple [.int d,.int e,.int f])=decide ((a,b',c)=(d,e,f));simp[PyData.eqv,PyData.eqvAll]
 by_cases h1:a=d <;> by_cases h2:b'=e <;> by_cases h3:c=f <;> simp[h1,h2,h3]
theorem Da.pl3 (p:T3){n:Nat}:Da (n+1) (Pu.pl3 p):=Da.tup.mpr λd hd=>by
 simp only[ww,vn,jc] at hd
 rcases hd with rfl | rfl | rfl <;> exact Da.int
def zjp {l:List T3}{p:T3}{Q:DK}{X:XP}(q:Q (.bl (decide (p∈l)))):pIn.run [pl3 p,pls3 l] Q X:=by
 refine⟨Da.pl3 p,λd hd =>?_,?_⟩
 .obtain⟨y,_,rfl⟩:=wv.mp hd;exact Da.pl3 y
 .show Q (.bl ((l.map pl3).any λd=>deq d (pl3 p)));have e:((l.map pl3).any λd=>deq d (pl3 p))=decide (p∈l):=by
   rw[jo,List.any_eq_true,uO]
   w_up
   .rintro⟨d,hd,z⟩;obtain⟨y,hy,rfl⟩:=wv.mp hd;rw[z4D,uO] at z;rw[<- z];exact hy
   .intro z;exact⟨pl3 p,vd z,by rw[z4D];simp⟩
  rw[e];exact q
def z9T {M:Int}{h:List T3}{p:T3}{Q:DK}{X:XP}(hM:∀t∈h,Dv M t)(pM:Dv M p)(lo:∀t∈h,Lo t)(lp:Lo p)(hz:h.length<=2100)(hb:∀t∈h,Tz t)(bp:Tz p)(q:∀v:Bool,(v=true↔In (h.map (Geo.up M)) (Geo.up M p))->Q (.bl v)):z0k.run [pls3 h,pl3 p] Q X:=by
 walk_at "fn";ac_nf;rw[wg];refine z0y (λhl =>?_) (λhl =>?_)
 .ac_nf;refine zjp (q _ ?_);rw[uO]
  match h,hl with
  | [],_=>exact⟨λz=>by simp at z,λz=>False.elim z⟩
  | [m],_=>
   show _↔Geo.up M p=Geo.up M m;rw[wq];exact⟨λz=>by rw[z],λz=>Lo.inj lp (lo m (by simp)) pM (hM m (by simp)) z⟩
  | _::_::_,hl=>simp at hl;lia
 have iff:=zi0 hM pM (h:=h) (by lia);ac_nf;rw[wg];refine z5g (by lia) (by lia) ?_;rw[show ((h.length:Nat):Int).toNat=h.length by simp];refine z0u (f:=λ(j:Nat)=>D.int (j:Int)) (λdn ρ=>∃x2 x3:B,(∀k∈dn,OkL h p k)/\ρ=[.s (pls3 h),.s (pl3 p),x2,x3]) ⟨_,_,by simp,rfl⟩ ?_ ?_
 .rintro dn k r ρ e ⟨x2,x3,hdn,rfl⟩;have hk:k<h.length:=vI.mp (by rw[e];simp);have hj:(k+h.length - 1) % h.length<h.length:=ut _ (by lia);have ea:h[(k+h.length - 1) % h.length]? = some (h[(k+h.length - 1) % h.length]'hj):=wp hj;have eb:h[k]? = some h[k]:=wp hk;have va:=hb _ (ua hj);have vb:=hb _ (ua hk);generalize h[(k+h.length - 1) % h.length]'hj=a at*;generalize h[k]=b at*;have a1:atI h ((k:Int) - 1)=some a:=by rw[zij hk,ea]
  have a0:atI h (k:Int)=some b:=by rw[z24 hk,eb]
  have ok:0<=(Qa a b).1*(Qa a p).2 - (Qa a b).2*(Qa a p).1->(h.length=2->0<=(Qa a b).1*(Qa a p).1+(Qa a b).2*(Qa a p).2)->∀j∈dn++[k],OkL h p j:=λw1 w2 j hj=>by
   rcases wG.mp hj with hj | hj
   .exact hdn j hj
   .rw[wq.mp hj];intro a' b' ea' eb';rw[ea] at ea';rw[eb] at eb'
    cases ea'
    cases eb'
    exact⟨w1,w2⟩
  l_bnd;ac_rfl;ac_nf;refine z1f (z0w a1) ?_;ac_nf;refine z1f (z0w a0) ?_;ac_nf;refine z3H va vb ?_;ac_nf;refine z1f (z0w a1) ?_;ac_nf;refine z3H va bp ?_;ac_nf;refine z9M (z57 va vb) (z57 va bp) ?_;ac_nf;refine z0y (λw =>?_) (λw =>?_)
  .ac_nf;refine q _ ⟨λw=>by(cases w),λw' =>?_⟩;have:=(iff.mp w' k hk a b ea eb).1;lia
  ac_nf;rw[wg];refine z0y (λw2 =>?_) (λw2 =>?_)
  .ac_nf;refine z1f (z0w a1) ?_;ac_nf;refine z3H va bp ?_;ac_nf;refine zdq (z57 va vb) (z57 va bp) ?_;ac_nf;refine z0y (λw3 =>?_) (λw3 =>?_)
   .ac_nf;refine q _ ⟨λw=>by(cases w),λw' =>?_⟩;have:=(iff.mp w' k hk a b ea eb).2 (by lia);lia
   .ac_nf;exact⟨_,_,ok (by lia) λ_=>by lia,rfl⟩
  .ac_nf;exact⟨_,_,ok (by lia) λz=>by lia,rfl⟩
 .rintro ρ ⟨x2,x3,hdn,rfl⟩;ac_nf;exact q true ⟨λ_=>iff.mpr λk hk=>hdn k (vI.mpr hk),λ_=>rfl⟩
def zd5 (l h:List T3):deq (pls3 l) (pls3 h)=decide (l=h):=by
 show PyData.eqvAll (pys (l.map pl3)) (pys (h.map pl3))=decide (l=h)
 induction l generalizing h with
 | nil=>
  cases h with
  | nil=>rfl
  | cons p h=>rfl
 | cons p l ih=>
  cases h with
  | nil=>rfl
  | cons r h=>
   show (PyData.eqv (py (pl3 p)) (py (pl3 r)) && PyData.eqvAll (pys (l.map pl3)) (pys (h.map pl3)))=_;rw[ih h,show PyData.eqv (py (pl3 p)) (py (pl3 r))=decide (p=r) from z4D p r]
   by_cases e1:p=r <;> by_cases e2:l=h <;> simp[e1,e2]
theorem Da.pls3 (l:List T3){n:Nat}:Da (n+2) (Pu.pls3 l):=Da.tup.mpr λd hd=>by
 obtain⟨y,_,rfl⟩:=wv.mp hd;exact Da.pl3 y
def zik (x:Ar l h)(lo:∀t∈l,Lo t):h.length<=l.length:=by
 by_cases hn:l=[]
 .subst hn;rw[x.nil];simp
 .obtain⟨M,_,hM⟩:=z4C λt ht=>(lo t ht).1;have nd:(h.map (Geo.up M)).Nodup:=(x.is hM hn).nodup;exact z0N (List.Pairwise.imp (λz e=>z (by rw[e])) (vp.mp nd)) x.sub
def ziv (x:Ar l h)(lo:∀t∈l,Lo t)(lp:Lo p)(hb:∀t∈l,Tz t)(bp:Tz p)(hz:l.length<=62)(hM:∀t∈l,Dv M t)(pM:Dv M p)(q:∀v:Bool,(v=true↔In (h.map (Geo.up M)) (Geo.up M p))->Q (.bl v)):z21.run [pls3 h,pl3 p] Q X:=by
 have hl:=zik x lo;have lo':∀t∈h++[p],Lo t:=λt ht=>by
  rcases wG.mp ht with z | z
  .exact lo t (x.sub t z)
  .rw[wq.mp z];exact lp
 have hb':∀t∈h++[p],Tz t:=λt ht=>by
  rcases wG.mp ht with z | z
  .exact hb t (x.sub t z)
  .rw[wq.mp z];exact bp
 walk_at "fn";ac_nf;refine zay (by simp;exact szl (by lia)) ?_;ac_nf;refine z88 (l:=h++[p]) (.inl (by rw[wY];rfl)) hb' lo' (by simp;lia) λh' x' =>?_;ac_nf;refine z95 (Da.pls3 h') (Da.pls3 h) ?_;refine q _ ?_;rw[show deq (.tup (h'.map pl3)) (.tup (h.map pl3))=decide (h'=h) from zd5 h' h,uO]
 by_cases hn:l=[]
 .subst hn;have e:=x.nil;subst e;have:h'≠[]:=x'.ne (λt ht=>(lo' t ht).1) (by simp);exact⟨λz=>absurd z this,λz=>False.elim z⟩
 .exact x.within x' lo lp hM pM hn
open PySem.Spec PyProof.Rows
def Sm.never:Sm:=⟨λ_ _ _ _=>False,λ_ _ _ _ _ _ _ _ _ _ q=>q⟩
def zc4 {st:Stmt}:QZ X E st .never:=QS.imp zcc <| by rintro _ _ _ ⟨_,_,_,_,_,_,_,_,hr,_⟩;exact hr
section
variable {P:Program}{w:World}{K:W.Frag}{mg:WmP}{base:Heap}{f:Addr}{qual:Str}{N:List Str}
def fnM {st:Stmt}{ps:List Str}{k np nn:Nat}(F:Fun K x qual st f fd)(S:z3h N ps (z00 st))
  (hb:∀(cdv:Value) (A:Around) (outer:List PySem.Env) (s:Shared) (H:Hp) (E:XK),Room k (A.deeper (envOfC qual (z00 st) s.heap.objs.size f cdv))->(A.deeper (envOfC qual (z00 st) s.heap.objs.size f cdv)).units+64<cLine->QZs ((cxOf (CXe P w) P w K mg base N qual (z00 st) f cdv A outer s H E).wish λ_ _=>False) E0 (z0C st) b) (hp:ps.length=np:=by rfl) (hN:N.length=nn:=by rfl):
  FnOk P w K mg base (CXe P w) (k+1) f fd ps (spP K mg (Fn.mkN np nn b)):=fnN F S hp hN λcdv A outer s H E hr=>hb cdv A outer s H E hr hr.units
end
def z0l:Fn:=Fn.mkN 2 5 (.seq (.set 2 (.op z0n [.op pAdd [.c (.int 1),.op pMod [.v 0,.v 1]]]))
 (.seq (.set 3 (.op z0D [.v 0,.v 1]))
 (.seq (.set 4 (.op pTup [.op z06 [.v 3,.v 2],.op z06 [.op z0D [.v 3,.op pAdd [.op z09 [.c (.int 2),.v 2],.c (.int 1)]],.v 2]]))
 (.seq (.ifs (.op pEq [.v 4,.op pTup [.c (.int 0),.c (.int 0)]]) (.ret (.op pTup [.c (.int 0),.c (.int 1)])) .skip)
 (.ret (.v 4))))))
def z0r:Fn:=Fn.mkN 1 3 (.seq (.set 1 (.op z0d [.v 0,.c (.int 3)]))
 (.seq (.set 2 (.op pTup [.op pSub [.op pMod [.v 1,.c (.int 9)],.c (.int 4)],.op pSub [.op pMod [.op z0D [.v 1,.c (.int 9)],.c (.int 9)],.c (.int 4)]]))
 (.seq (.ifs (.op pEq [.op pMod [.op z0D [.v 1,.c (.int 81)],.c (.int 5)],.c (.int 1)]) (.set 2 (.op pTup [.op pSub [.op pMod [.v 0,.op pAdd [.op z09 [.c (.int 2),.op pPow [.c (.int 10),.c (.int 20)]],.c (.int 1)]],.op pPow [.c (.int 10),.c (.int 20)]],.op pSub [.op pMod [.op z0D [.v 1,.c (.int 405)],.c (.int 1000)],.c (.int 500)]])) .skip)
 (.seq (.ifs (.op pEq [.v 2,.op pTup [.c (.int 0),.c (.int 0)]]) (.ret (.op pTup [.c (.int 0),.c (.int 1)])) .skip)
 (.ret (.v 2))))))
def z6e:Fn:=Fn.mkN 2 3 (.seq (.ifs (.op pEq [.v 1,.c (.int 0)]) .never .skip)
 (.seq (.set 2 (.op z07 [.v 1,.v 0]))
 (.seq (.ifs (.op pLt [.v 1,.c (.int 0)]) (.set 2 (.op pNeg [.v 2])) .skip)
 (.ret (.op pTup [.op z0D [.v 0,.v 2],.op z0D [.v 1,.v 2]])))))
def z3S:Fn:=Fn.mkN 2 2 (.ret (.op z6e [.op pAdd [.op z09 [.op pIx [.v 0,.c (.int 0)],.op pIx [.v 1,.c (.int 0)]],.op z09 [.op pIx [.v 0,.c (.int 1)],.op pIx [.v 1,.c (.int 1)]]],.op pIx [.v 1,.c (.int 2)]]))
def z2D:Fn:=Fn.mkN 2 2 (.ret (.op pLt [.op z09 [.op pIx [.v 0,.c (.int 0)],.op pIx [.v 1,.c (.int 1)]],.op z09 [.op pIx [.v 1,.c (.int 0)],.op pIx [.v 0,.c (.int 1)]]]))
def z0V:Fn:=Fn.mkN 2 5 (.seq (.set 2 (.c .non))
 (.seq (.for_ [] (.nm 3) (.v 0) (.seq (.set 4 (.op z3S [.v 1,.v 3]))
 (.ifs (.or (.op pIs [.v 2,.c .non]) (.op z2D [.v 2,.v 4])) (.set 2 (.v 4)) .skip)))
 (.ret (.v 2))))
def z10:Fn:=Fn.mkN 1 1 (.ret (.and (.op (pIsi "int") [.v 0]) (.not (.op (pIsi "bool") [.v 0]))))
def z0S:Fn:=Fn.mkN 2 3 (.seq (.set 2 (.op z0a [.v 0,.v 1]))
 (.ret (.or (.op pGt [.op pIx [.v 2,.c (.int 0)],.c (.int 0)]) (.and (.op pEq [.op pIx [.v 2,.c (.int 0)],.c (.int 0)]) (.op pGt [.op pIx [.v 2,.c (.int 1)],.c (.int 0)])))))
def z0A:Fn:=Fn.mkN 1 1 (.seq (.ifs (.or (.not (.op (pIsi "tuple") [.v 0])) (.or (.op pNe [.op pLen [.v 0],.c (.int 3)]) (.not (.op pAll [.comp 1 [] (.nm 0) (.v 0) none (.op z10 [.v 0])])))) (.ret (.c (.bl false))) .skip)
 (.ret (.and (.op pGt [.op pIx [.v 0,.c (.int 2)],.c (.int 0)]) (.op pEq [.op z03 [.op pIx [.v 0,.c (.int 0)],.op pIx [.v 0,.c (.int 1)],.op pIx [.v 0,.c (.int 2)]],.v 0]))))
def z0J:Fn:=Fn.mkN 1 3 (.seq (.ifs (.or (.not (.op (pIsi "tuple") [.v 0])) (.not (.op pAll [.comp 1 [] (.nm 0) (.v 0) none (.op z0A [.v 0])]))) (.ret (.c (.bl false))) .skip)
 (.seq (.forr [.c (.int 1),.op pLen [.v 0]] (.nm 1) (.ifs (.not (.op z0S [.op pIx [.v 0,.c (.int 0)],.op pIx [.v 0,.v 1]])) (.ret (.c (.bl false))) .skip))
 (.seq (.ifs (.op pLt [.op pLen [.v 0],.c (.int 3)]) (.ret (.c (.bl true))) .skip)
 (.seq (.forr [.op pLen [.v 0]] (.nm 1) (.seq (.set 2 (.op z0a [.op pIx [.v 0,.op pSub [.v 1,.c (.int 2)]],.op pIx [.v 0,.op pSub [.v 1,.c (.int 1)]]]))
 (.ifs (.or (.op pLe [.op z0t [.v 2,.op z0a [.op pIx [.v 0,.op pSub [.v 1,.c (.int 1)]],.op pIx [.v 0,.v 1]]],.c (.int 0)]) (.not (.op z0k [.v 0,.op pIx [.v 0,.v 1]]))) (.ret (.c (.bl false))) .skip)))
 (.ret (.c (.bl true)))))))
open Mth
def zbM (q:Q (.bl true)):z10.run [.int a] Q X:=by
 walk_at "fn";ac_nf;refine zbG rfl ?_;ac_nf;exact q
def z8l (lo:Lo t)(h:Lw t.1 t.2.1 t.2.2 u):u=t:=Lo.eq h.lo lo h.cx h.cy
def zbS {t:T3}{Q:DK}{X:XP}(lo:Lo t)(tz:Tz t)(bw:Bt 9000 t.2.2)(q:Q (.bl true)):z0A.run [pl3 t] Q X:=by
 have w0:=lo.1;show z0A.run [.tup [.int t.1,.int t.2.1,.int t.2.2]] Q X;walk_at "fn";ac_nf;refine z5A (zbG rfl ?_);ac_nf;refine z5A (z3G rfl ?_);ac_nf;refine⟨szl' (by simp),?_⟩;refine z0O (f:=D.int) (l:=[t.1,t.2.1,t.2.2]) (g:=λ_ =>.bl true) (λa _ K hK =>?_) ?_
 .ac_nf;exact zbM hK
 refine zf5 (bs:=[true,true,true]) ?_;ac_nf;refine z5A (zbG rfl ?_);ac_nf;refine z3G w0 ?_;ac_nf;refine z5c w0 bw λu hu =>?_;rw[z8l lo hu];ac_nf;refine z95 (l:=[.int t.1,.int t.2.1,.int t.2.2]) (r:=[.int t.1,.int t.2.1,.int t.2.2]) (Da.pl3 t) (Da.pl3 t) ?_;rw[show deq (.tup [.int t.1,.int t.2.1,.int t.2.2]) (.tup [.int t.1,.int t.2.1,.int t.2.2])=decide (t=t) from z4D t t];simpa using q
def z9X {a b:T3}{Q:DK}{X:XP}(ha:Tz a)(hb:Tz b)(lx:Lx3 a b)(q:Q (.bl true)):z0S.run [pl3 a,pl3 b] Q X:=by
 walk_at "fn";ac_nf;refine z3H ha hb ?_;ac_nf
 rcases lx with z | ⟨z1,z2⟩
 .refine z3G (by show 0<b.1*a.2.2 - a.1*b.2.2;lia) ?_;exact q
 .refine t_no (by show ¬ 0<b.1*a.2.2 - a.1*b.2.2;lia) ?_;ac_nf;refine z3G (by show b.1*a.2.2 - a.1*b.2.2=0;lia) ?_;ac_nf;rw[vC (show 0<(Qa a b).2 by show 0<b.2.1*a.2.2 - a.2.1*b.2.2;lia)];exact q
def zdg {α:Type}{l:List α}{k j:Nat}(hk:k<l.length)(hj:j<=l.length):atI l ((k:Int) - (j:Int))=l[(k+l.length - j) % l.length]? := by
 rcases vD k j with z | z
 .rw[wQ (show k+l.length - j<l.length by lia)];unfold atI;rw[show ixN l.length ((k:Int) - (j:Int))=some (k+l.length - j) by
   unfold ixN;rw[if_neg (by lia),if_pos (by lia)]
   congr 1;lia]
  rfl
 .rw[show k+l.length - j=(k - j)+l.length by lia,vS,wQ (by lia),show (k:Int) - (j:Int)=((k - j:Nat):Int) by lia,z24 (by lia)]
def zbH {a b c:T3}(ha:0<a.2.2)(hb:0<b.2.2)(h:0<(Qa a b).1*(Qa a c).2 - (Qa a b).2*(Qa a c).1):0<(Qa a b).1*(Qa b c).2 - (Qa a b).2*(Qa b c).1:=by
 refine(z2M ha hb (x:=(Qa a b).1*(Qa b c).2 - (Qa a b).2*(Qa b c).1) (y:=(Qa a b).1*(Qa a c).2 - (Qa a b).2*(Qa a c).1) ?_).1.mpr h;unfold Qa;k_in
 grind
def zaS {S:Geo.P->Prop}{h:List T3}{M:Int}(x:z04 S (h.map (Geo.up M)))(hl:3<=h.length){k:Nat}(hk:k<h.length){a b c:T3}(ea:h[(k+h.length - 2) % h.length]? = some a)(eb:h[(k+h.length - 1) % h.length]? = some b)(ec:h[k]? = some c):0<Qc (Geo.up M a) (Geo.up M b) (Geo.up M c):=by
 have hlm:(h.map (Geo.up M)).length=h.length:=wg ..;obtain⟨i,ei⟩:∃i,i=k+h.length - 2:=⟨_,rfl⟩
 have g:∀j t,h[j % h.length]? = some t->Geo.cy (h.map (Geo.up M)) j=Geo.up M t:=λj t e=>by
  have:=z22 (h:=h.map (Geo.up M)) (i:=j) (by lia);rw[hlm,wB,e] at this;exact(vk this).symm
 have e1:=z6h x (by lia) i;have e2:=z6h x (by lia) (i+1);have tn:=z3z e1 e2 (zbc x (by lia) i);rw[g i a (by rw[ei];exact ea),g (i+1) b (by rw[show i+1=k+h.length - 1 by lia];exact eb),g (i+1+1) c (by
  rw[show i+1+1=k+h.length by lia,vS,wQ hk];exact ec)] at tn
 exact tn
def zdj {M:Int}{l h:List T3}(x:Ar l h)(hM:∀t∈l,Dv M t){m v:T3}{k:Nat}(em:h[0]? = some m)(ev:h[k+1]? = some v):Lx3 m v:=by
 have mm:=x.sub m (wy em);have mv:=x.sub v (wy ev);have is:=x.is hM (λz=>by rw[z] at mm;simp at mm);obtain⟨m',t,e,sm,hm,hmt,_⟩:=is.ex;refine(zdM (hM m mm) (hM v mv)).mpr ?_;have e0:(h.map (Geo.up M))[0]? = some (Geo.up M m):=by rw[wB,em];rfl
 have e1:(h.map (Geo.up M))[k+1]? = some (Geo.up M v):=by rw[wB,ev];rfl
 rw[e] at e0 e1;simp at e0 e1;subst e0;have mt:=wy e1
 rcases Lx.tri (Geo.up M m) (Geo.up M v) with z | z | z
 .exact z
 .exact(hmt (z ▸ mt)).elim
 .exact(hm _ (vd mv) z).elim
def z8W {M:Int}{l h:List T3}{Q:DK}{X:XP}(x:Ar l h)(hM:∀t∈l,Dv M t)(lo:∀t∈l,Lo t)(tz:∀t∈l,Tz t)(bw:∀t∈l,Bt 9000 t.2.2)(hz:h.length<=2000)(q:Q (.bl true)):z0J.run [pls3 h] Q X:=by
 walk_at "fn";ac_nf;refine z5A (zbG rfl ?_);ac_nf;kl_no;refine z0O (g:=λ_ =>.bl true) (λp hp K hK =>?_) ?_
 .ac_nf;have mp:=x.sub p hp;exact zbS (lo p mp) (tz p mp) (bw p mp) hK
 rw[show (h.map λ_=>D.bl true)=(h.map λ_=>true).map .bl by rw[vM];rfl];refine zf5 ?_;rw[show (h.map λ_=>true).all id=true by simp];ac_nf;refine z5A (z3W ?_);ac_nf;rw[wg];refine zgc ⟨⟨by decide,by decide⟩,by lia,by lia⟩ ?_;refine z0u (f:=λ(j:Nat)=>D.int (1+(j:Int))) (λdn ρ=>∃x1 x2:B,ρ=[.s (pls3 h),x1,x2]) ⟨_,_,rfl⟩ ?_ ?_
 .rintro dn k r ρ e ⟨x1,x2,rfl⟩;have hk:k+1<h.length:=by
   have:=vI.mp (show k∈List.range ((h.length:Int) - 1).toNat by rw[e];simp);lia
  have ev:h[k+1]? = some h[k+1]:=wp hk;have em:h[0]? = some h[0]:=wp (by lia);have lx:=zdj x hM em ev;have mv:=x.sub _ (wy ev);have mm:=x.sub _ (wy em);have am:atI h 0=some h[0]:=(z24 (l:=h) (k:=0) (by lia)).trans em;have av:atI h (1+(k:Int))=some h[k+1]:=by rw[show 1+(k:Int)=((k+1:Nat):Int) by lia,z24 hk];exact ev
  generalize h[k+1]=v at*;generalize h[0]=m at*;l_bnd;ac_rfl;ac_nf;refine z1f (z0w am) ?_;ac_nf;refine z1f (z0w av) ?_;ac_nf;refine z9X (tz _ mm) (tz _ mv) lx ?_;ac_nf;refine z5A (z3W ?_);ac_nf;exact⟨_,_,rfl⟩
 rintro ρ ⟨x1,x2,rfl⟩;ac_nf;rw[wg];refine z0y (λ_ =>?_) (λh3 =>?_)
 .ac_nf;exact q
 ac_nf;rw[wg];refine z5g (by lia) (by lia) ?_;rw[show ((h.length:Nat):Int).toNat=h.length by simp];have h3':3<=h.length:=by lia
 have ne:l≠[]:=λz=>by rw[z] at x;rw[x.nil] at h3';simp at h3'
 have is:=x.is hM ne;refine z0u (f:=λ(j:Nat)=>D.int (j:Int)) (λdn ρ=>∃x1 x2:B,ρ=[.s (pls3 h),x1,x2]) ⟨_,_,rfl⟩ ?_ ?_
 .rintro dn k r ρ e ⟨x1,x2,rfl⟩;have hk:k<h.length:=vI.mp (by rw[e];simp);have i2:(k+h.length - 2) % h.length<h.length:=ut _ (by lia);have i1:(k+h.length - 1) % h.length<h.length:=ut _ (by lia);have ea:=wp i2;have eb:=wp i1;have ec:=wp hk;have a2:atI h ((k:Int) - 2)=_:=(zdg (j:=2) hk (by lia)).trans ea;have a1:atI h ((k:Int) - 1)=_:=(zdg (j:=1) hk (by lia)).trans eb;have a0:atI h (k:Int)=_:=(z24 hk).trans ec;have tn:=zaS is h3' hk ea eb ec;have ma:=x.sub _ (wy ea);have mb:=x.sub _ (wy eb);have mc:=x.sub _ (wy ec);generalize h[(k+h.length - 2) % h.length]=a at*;generalize h[(k+h.length - 1) % h.length]=b at*;generalize h[k]=c at*;have t3:=zbH (lo a ma).1 (lo b mb).1 ((z6z (hM a ma) (hM b mb) (hM c mc)).2.1.mpr tn);l_bnd;ac_rfl;ac_nf;refine z1f (z0w a2) ?_;ac_nf;refine z1f (z0w a1) ?_;ac_nf;refine z3H (tz a ma) (tz b mb) ?_;ac_nf;refine z1f (z0w a1) ?_;ac_nf;refine z1f (z0w a0) ?_;ac_nf;refine z3H (tz b mb) (tz c mc) ?_;ac_nf;refine z9M (z57 (tz a ma) (tz b mb)) (z57 (tz b mb) (tz c mc)) ?_;ac_nf;kd_p1;ac_nf;refine z1f (z0w a0) ?_;ac_nf;refine z9T (M:=M) (λt ht=>hM t (x.sub t ht)) (hM c mc) (λt ht=>lo t (x.sub t ht)) (lo c mc) (by lia) (λt ht=>tz t (x.sub t ht)) (tz c mc) λv hv =>?_;have vt:v=true:=hv.mpr (is.in (vd mc));subst vt;ac_nf;refine z5A (z3W ?_);ac_nf;exact⟨_,_,rfl⟩
 rintro ρ ⟨x1,x2,rfl⟩;ac_nf;exact q
def z62 (l:List T3):noL (pls3 l)=true:=by
 show noLs (l.map pl3)=true;refine z60 λd hd =>?_;obtain⟨p,_,rfl⟩:=wv.mp hd
 rfl
def z65 (l:List T3):noD (pls3 l)=true:=by
 show noDs (l.map pl3)=true;refine z63 λd hd =>?_;obtain⟨p,_,rfl⟩:=wv.mp hd
 rfl
def zbf {α:Type}{f:α->D}{l:List α}{k:Int}(h:0<=k):cutD (l.map f) none (some k)=(l.take k.toNat).map f:=by
 have hs:HT.sIx l.length l.length (some k)=min k.toNat l.length:=by
  show (if k<0 then (k+(l.length:Int)).toNat else min k.toNat l.length)=_;rw[if_neg (by lia)]
 rw[z2n,hs];show ((l.drop 0).take (min k.toNat l.length - 0)).map f=_;rw[List.drop_zero,Nat.sub_zero]
 rcases Nat.le_total k.toNat l.length with z | z
 .rw[Nat.min_eq_left z]
 .rw[Nat.min_eq_right z,List.take_of_length_le z,List.take_length]
def zel {ns:List Int}(q:∀c,Q (.int c)):z0K.run [.lst (ns.map .int),.int 0] Q X:=by
 walk_at "fn";ac_nf;refine z0y (λh =>?_) (λh =>?_)
 .ac_nf
  cases ns with
  | nil=>simp at h
  | cons a r=>
   have e:atI (a::r) ((0:Nat):Int)=some a:=by rw[z24 (by simp)];rfl
   exact z1f (z0w (f:=D.int) e) (q a)
 .ac_nf;exact q 0
def z2x (q:Q (.int ((Int.gcd a b:Nat):Int))):z07.run [.int a,.int b] Q X:=by
 walk_at "fn";ac_nf;rw[z6o,z6o];refine z6s (λρ=>∃(g s:Nat) (x:B),Nat.gcd g s=Int.gcd a b/\ρ=[.s (.int a),.s (.int b),.s (.int (g:Int)),.s (.int (s:Int)),x]) (λρ=>(nI ρ 3).toNat) ⟨a.natAbs,b.natAbs,_,rfl,rfl⟩ ?_;rintro ρ ⟨g,s,x,e,rfl⟩;ac_nf;refine z5A (z0y (λz =>?_) (λz =>?_))
 .ac_nf;have:s=0:=by lia
  subst this;rw[Nat.gcd_zero_right] at e;rw[e];exact q
 .ac_nf;have hm:(g:Int) % (s:Int)=((g % s:Nat):Int):=by simp
  refine⟨⟨s,g % s,_,by rw[<- e,Wc g s,Nat.gcd_rec s g,Wc],by rw[hm]⟩,?_⟩;show ((g:Int) % (s:Int)).toNat<((s:Nat):Int).toNat
  rw[hm];have:=ut g (show 0<s by lia);lia
def ss (b:Int × Int)(t:T3):Int:=b.1*t.1+b.2*t.2.1
def lf (b:Int × Int)(t:T3):Int × Int:=(ss b t / (Int.gcd (ss b t) t.2.2:Int),t.2.2 / (Int.gcd (ss b t) t.2.2:Int))
def zcG (h:0<t.2.2):0<(lf b t).2/\(lf b t).1*t.2.2=ss b t*(lf b t).2/\Int.gcd (lf b t).1 (lf b t).2=1:=by
 obtain⟨g0,e1,e2,p,c⟩:=z6g (t:=ss b t) h;unfold lf;k_in;generalize (Int.gcd (ss b t) t.2.2:Int)=g at*;refine⟨by lia,?_,c⟩;generalize ss b t / g=u at*;generalize t.2.2 / g=v at*;rw[e1,e2]
 grind
def zfb (ht:0<t.2.2)(hu:0<u.2.2):((lf b t).1*(lf b u).2<(lf b u).1*(lf b t).2↔ss b t*u.2.2<ss b u*t.2.2)/\(ss b t*u.2.2=ss b u*t.2.2->lf b t=lf b u):=by
 obtain⟨a1,a2,a3⟩:=zcG (b:=b) ht;obtain⟨c1,c2,c3⟩:=zcG (b:=b) hu;generalize lf b t=p at*;generalize lf b u=q at*;generalize ss b t=x at*;generalize ss b u=y at*;have e:(q.1*p.2 - p.1*q.2)*(t.2.2*u.2.2)=p.2*q.2*(y*t.2.2 - x*u.2.2):=by grind
 have s:=z2M (wP ht hu) (wP a1 c1) e;refine⟨by lia,λz =>?_⟩;have z':q.1*p.2 - p.1*q.2=0:=s.2.mpr (by lia);have l1:Lo (p.1,0,p.2):=⟨a1,by show Int.gcd (Int.gcd p.1 0:Int) p.2=1;rw[Int.gcd_zero_right];show Nat.gcd (Int.natAbs (p.1.natAbs:Int)) p.2.natAbs=1;rw[Wf];exact a3⟩
 have l2:Lo (q.1,0,q.2):=⟨c1,by show Int.gcd (Int.gcd q.1 0:Int) q.2=1;rw[Int.gcd_zero_right];show Nat.gcd (Int.natAbs (q.1.natAbs:Int)) q.2.natAbs=1;rw[Wf];exact c3⟩
 have:=Lo.eq l1 l2 (by show p.1*q.2=q.1*p.2;omega) (by simp)
 injection this with w1 w2
 injection w2 with w2 w3
 exact vV w1 w3
def zfc (hb:Vb 1000 b)(ht:Tz t)(h:0<t.2.2):Vb 110000 (lf b t):=by
 obtain⟨g0,e1,e2,p,c⟩:=z6g (t:=ss b t) h;have bs:Bt 110000 (ss b t):=(Bt.add (Bt.mul hb.1 ht.1) (Bt.mul hb.2 ht.2.1)).le;have bw:Bt 110000 t.2.2:=ht.2.2.le;have le:∀{x g u:Int},0<g->x=g*u->u.natAbs<=x.natAbs:=λ{x g u} g0 e=>by
  rw[e,vz];exact Nat.le_mul_of_pos_left _ (by lia)
 exact⟨bs.of_abs (le g0 e1),bw.of_abs (le g0 e2)⟩
def z9Y (hb:Vb 1000 b)(ht:Tz t)(h:0<t.2.2)(q:Q (vec (lf b t))):z3S.run [vec b,pl3 t] Q X:=by
 obtain⟨b1,b2⟩:=hb;obtain⟨t1,t2,t3⟩:=ht;have g0:=(z6g (t:=ss b t) h).1;have bg:Bt 9000 (Int.gcd (ss b t) t.2.2:Int):=t3.of_abs (by
  have:=Nat.le_of_dvd (by lia) (Int.gcd_dvd_natAbs_right (ss b t) t.2.2);lia)
 unfold pl3;walk_at "fn";ac_nf;walk_at "fn";ac_nf;kd_p1;ac_nf;refine z2x ?_;rw[Int.gcd_comm];refine⟨Safe.of_noL rfl rfl _,?_⟩;ac_rfl
 change 0<((b.1*t.1+b.2*t.2.1).gcd t.2.2:Int) at g0
 change Bt 9000 ((b.1*t.1+b.2*t.2.1).gcd t.2.2:Int) at bg
 ac_nf;kd_p1;ac_nf;exact q
def zbV (h1:Vb 110000 p)(h2:Vb 110000 r)(q:Q (.bl (decide (p.1*r.2<r.1*p.2)))):z2D.run [vec p,vec r] Q X:=by
 obtain⟨a1,a2⟩:=h1;obtain⟨b1,b2⟩:=h2;walk_at "fn";ac_nf;exact q
def Nf (b:Int × Int)(u t:T3):Prop:=ss b u*t.2.2<=ss b t*u.2.2
def Nf.tr {u t v:T3}(ht:0<t.2.2)(hu:0<u.2.2)(hv:0<v.2.2)(h:Nf b u t)(k:Nf b t v):Nf b u v:=by
 unfold Nf at*;have h1:=wM h (vf hv);have h2:=wM k (vf hu);have h3:ss b u*v.2.2*t.2.2<=ss b v*u.2.2*t.2.2:=by
  have e1:ss b u*v.2.2*t.2.2=ss b u*t.2.2*v.2.2:=by grind
  have e2:ss b v*u.2.2*t.2.2=ss b v*t.2.2*u.2.2:=by grind
  have e3:ss b t*u.2.2*v.2.2=ss b t*v.2.2*u.2.2:=by grind
  lia
 exact ug h3 ht
def Mx (b:Int × Int)(l:List T3)(t:T3):Prop:=t∈l/\∀u∈l,Nf b u t
def Mx.new {b:Int × Int}{l:List T3}{t v:T3}(hp:∀u∈l,0<u.2.2)(hv:0<v.2.2)(h:Mx b l t)(k:(lf b t).1*(lf b v).2<(lf b v).1*(lf b t).2):Mx b (l++[v]) v:=by
 have ht:=hp t h.1;have k':Nf b t v:=vf ((zfb ht hv).1.mp k);refine⟨by simp,λu hu =>?_⟩
 rcases wG.mp hu with z | z
 .exact(h.2 u z).tr ht (hp u z) hv k'
 .rw[wq.mp z];exact ul _
def Mx.old {t v:T3}(hp:∀u∈l,0<u.2.2)(hv:0<v.2.2)(h:Mx b l t)(k:¬ (lf b t).1*(lf b v).2<(lf b v).1*(lf b t).2):Mx b (l++[v]) t:=by
 have ht:=hp t h.1;refine⟨wR _ h.1,λu hu =>?_⟩
 rcases wG.mp hu with z | z
 .exact h.2 u z
 .rw[wq.mp z];exact Int.not_lt.mp λw=>k ((zfb ht hv).1.mpr w)
def zg2 (hb:Vb 1000 b)(hz:∀t∈h,Tz t)(hp:∀t∈h,0<t.2.2)(q0:h=[]->Q .non)(q1:∀t,Mx b h t->Q (vec (lf b t))):z0V.run [pls3 h,vec b] Q X:=by
 walk_at "fn";ac_nf;refine z0u (f:=pl3) (λdn ρ=>∃(d:D) (x3 x4:B),ρ=[.s (pls3 h),.s (vec b),.s d,x3,x4]/\((dn=[]/\d = .non)\/∃t,Mx b dn t/\d=vec (lf b t))) ⟨_,_,_,rfl,.inl ⟨rfl,rfl⟩⟩ ?_ ?_
 .rintro dn v r ρ e ⟨d,x3,x4,rfl,hd⟩;have mv:v∈h:=by rw[e];simp
  have md:∀u∈dn,u∈h:=λu hu=>by rw[e];exact wR _ hu
  have v0:=hp v mv;have bv:=zfc hb (hz v mv) v0;l_bnd;ac_rfl;ac_nf;refine z9Y hb (hz v mv) v0 ?_;refine⟨Safe.of_noL rfl rfl _,?_⟩;ac_rfl;ac_nf
  rcases hd with ⟨rfl,rfl⟩ | ⟨t,ht,rfl⟩
  .refine t_bl (λ_ =>?_) (λw=>absurd w (by decide));ac_nf;exact⟨_,_,_,rfl,.inr ⟨v,⟨by simp,λu hu=>by simp at hu;subst hu;exact ul _⟩,rfl⟩⟩
  .refine t_bl (λw=>by(have z:isN (vec (lf b t))=false:=rfl);rw[z] at w;cases w) (λ_ =>?_);ac_nf;have t0:=hp t (md t ht.1);refine zbV (zfc hb (hz t (md t ht.1)) t0) bv ?_;refine z0y (λw =>?_) (λw =>?_)
   .ac_nf;exact⟨_,_,_,rfl,.inr ⟨v,ht.new (λu hu=>hp u (md u hu)) v0 w,rfl⟩⟩
   .ac_nf;exact⟨_,_,_,rfl,.inr ⟨t,ht.old (λu hu=>hp u (md u hu)) v0 w,rfl⟩⟩
 .rintro ρ ⟨d,x3,x4,rfl,hd⟩;ac_nf
  rcases hd with ⟨e,rfl⟩ | ⟨t,ht,rfl⟩
  .exact q0 e
  .exact q1 t ht
def zem {c f:Int}(hf:1<=f/\f<=57)(q:∀b,Vb 1000 b->Q (vec b)):z0l.run [.int c,.int f] Q X:=by
 have f0:0<f:=by lia
 have c1:=jr c (show f≠0 by lia);have c2:=uN c f0;have bf:Bt 640 f:=z08 (by lia);walk_at "fn";ac_nf;refine zfY (by lia) (by lia) λm m0 bm =>?_;k_ne;ac_nf;refine z9V (by lia) bm λx bx =>?_;ac_nf;refine z9V (by lia) bm λy bY =>?_;ac_nf;refine z95 (l:=[.int (x),.int (y)]) (r:=[.int 0,.int 0]) (Da.vec (x,y)) (Da.vec (0,0)) ?_;refine t_bl (λ_ =>?_) (λ_ =>?_)
 .ac_nf;exact q (0,1) ⟨Bt.le (m:=4) (z08 (by decide)),Bt.le (m:=4) (z08 (by decide))⟩
 .ac_nf;exact q (x,y) ⟨bx.le,bY.le⟩
def zix {c:Int}(q:∀b,Vb 1000 b->Q (vec b)):z0r.run [.int c] Q X:=by
 have p20:(10:Int) ^ (20:Int).toNat=100000000000000000000:=by decide
 walk_at "fn";ac_nf;refine z5E (by decide) (by decide) λr r0 r1 =>?_;ac_nf;refine z0y (λw =>?_) (λw =>?_)
 .ac_nf;rw[p20];have b1:Bt 1000 (c % (2*100000000000000000000+1) - 100000000000000000000):=Bt.le (m:=80) (z08 (by lia));have b2:Bt 1000 (r / 405 % 1000 - 500):=Bt.le (m:=20) (z08 (by lia));generalize c % (2*100000000000000000000+1) - 100000000000000000000=x at*;generalize r / 405 % 1000 - 500=y at*;refine z95 (l:=[.int (x),.int (y)]) (r:=[.int 0,.int 0]) (Da.vec (x,y)) (Da.vec (0,0)) ?_;refine t_bl (λ_ =>?_) (λ_ =>?_)
  .ac_nf;exact q (0,1) ⟨Bt.le (m:=4) (z08 (by decide)),Bt.le (m:=4) (z08 (by decide))⟩
  .ac_nf;exact q (x,y) ⟨b1,b2⟩
 .ac_nf;have b1:Bt 1000 (r % 9 - 4):=Bt.le (m:=20) (z08 (by lia));have b2:Bt 1000 (r / 9 % 9 - 4):=Bt.le (m:=20) (z08 (by lia));generalize r % 9 - 4=x at*;generalize r / 9 % 9 - 4=y at*;refine z95 (l:=[.int (x),.int (y)]) (r:=[.int 0,.int 0]) (Da.vec (x,y)) (Da.vec (0,0)) ?_;refine t_bl (λ_ =>?_) (λ_ =>?_)
  .ac_nf;exact q (0,1) ⟨Bt.le (m:=4) (z08 (by decide)),Bt.le (m:=4) (z08 (by decide))⟩
  .ac_nf;exact q (x,y) ⟨b1,b2⟩
def z1s:Fn:=Fn.mkN 3 3 (.ret (.op pSub [.op z09 [.op z4f [.v 1,.v 0],.op pIx [.v 2,.c (.int 1)]],.op z09 [.op pIx [.v 2,.c (.int 0)],.op pIx [.v 0,.c (.int 2)]]]))
def z1v:Fn:=Fn.mkN 3 4 (.seq (.set 3 (.op z07 [.op z07 [.v 2,.v 0],.v 1]))
 (.ret (.op pTup [.op z0D [.v 0,.v 3],.op z0D [.v 1,.v 3],.op z0D [.v 2,.v 3]])))
def z11:Fn:=Fn.mkN 4 6 (.seq (.set 4 (.op pSub [.op z09 [.op pIx [.v 0,.c (.int 0)],.v 3],.op z09 [.op pIx [.v 2,.c (.int 0)],.v 1]]))
 (.seq (.set 5 (.op pSub [.op z09 [.op pIx [.v 0,.c (.int 1)],.v 3],.op z09 [.op pIx [.v 2,.c (.int 1)],.v 1]]))
 (.ret (.op z1v [.v 4,.v 5,.op pSub [.op z09 [.op pIx [.v 0,.c (.int 2)],.v 3],.op z09 [.op pIx [.v 2,.c (.int 2)],.v 1]]]))))
def z2i:Fn:=Fn.mkN 3 9 (.seq (.own 3 (.op pLst []))
 (.seq (.forr [.op pLen [.v 0]] (.nm 4) (.seq (.set 5 (.op pIx [.v 0,.op pSub [.v 4,.c (.int 1)]]))
 (.seq (.set 6 (.op pIx [.v 0,.v 4]))
 (.seq (.set 7 (.op z1s [.v 5,.v 1,.v 2]))
 (.seq (.set 8 (.op z1s [.v 6,.v 1,.v 2]))
 (.seq (.ifs (.and (.op pLt [.v 7,.c (.int 0)]) (.op pGt [.v 8,.c (.int 0)])) (.app 3 (.op z11 [.v 5,.v 7,.v 6,.v 8])) .skip)
 (.seq (.ifs (.and (.op pGt [.v 7,.c (.int 0)]) (.op pLt [.v 8,.c (.int 0)])) (.app 3 (.op z11 [.v 6,.v 8,.v 5,.v 7])) .skip)
 (.ifs (.op pLe [.v 8,.c (.int 0)]) (.app 3 (.v 6)) .skip))))))))
 (.ret (.v 3))))
end Pu
namespace Geo
def cx (u v:P):Int:=u.1*v.2 - u.2*v.1
def Rs (u:P):Prop:=0<u.1\/(u.1=0/\0<u.2)
instance (u:P):Decidable (Rs u):=inferInstanceAs (Decidable (_\/_))
def Be (u v:P):Prop:=(Rs u/\¬ Rs v)\/((Rs u↔Rs v)/\0<cx u v)
instance (u v:P):Decidable (Be u v):=inferInstanceAs (Decidable (_\/_))
def z6G (h:u≠(0,0)):Rs (ng u)↔¬ Rs u:=by
 obtain⟨a,b⟩:=u;have:¬ (a=0/\b=0):=λ⟨h1,h2⟩=>h (by rw[h1,h2]);simp only[Rs,ng];lia
def z9g (u v:P):cx (ng u) (ng v)=cx u v:=by simp only[cx,ng];grind
def zdU (u v:P):cx (ng u) v=cx v u:=by simp only[cx,ng];grind
def zbe (u v:P):cx u (ng v) = -cx u v:=by simp only[cx,ng];grind
def zjs (h:u≠(0,0)):ng u≠(0,0):=λz=>h (by
 have h1:=congrArg Prod.fst z;have h2:=congrArg Prod.snd z;simp only[ng] at h1 h2;exact vV (by simp;lia) (by simp;lia))
def zaW {u v w:P}(hu:Rs u)(hv:Rs v)(hw:Rs w)(h1:0<cx u v)(h2:0<cx v w):0<cx u w:=by
 obtain⟨u1,u2⟩:=u;obtain⟨v1,v2⟩:=v;obtain⟨w1,w2⟩:=w;simp only[Rs,cx] at*;have id1:(u1*w2 - u2*w1)*v1=(u1*v2 - u2*v1)*w1+(v1*w2 - v2*w1)*u1:=by grind
 rcases hv with hv | ⟨hv,hv2⟩
 .rcases vH 0 (u1*w2 - u2*w1) with z | z
  .exact z
  .exfalso
   have n1:(u1*w2 - u2*w1)*v1<=0:=vF z (by lia);have n2:0<=(u1*v2 - u2*v1)*w1:=wH (by lia) (by lia);have n3:0<=(v1*w2 - v2*w1)*u1:=wH (by lia) (by lia);have z2:(u1*v2 - u2*v1)*w1=0:=by omega
   have z3:(v1*w2 - v2*w1)*u1=0:=by omega
   have w0:w1=0:=(wK.mp z2).resolve_left (by lia);have u0:u1=0:=(wK.mp z3).resolve_left (by lia);subst u0;have:=wP (show 0<u2 by lia) hv;simp at h1;lia
 .subst hv;have:0<=v2*w1:=wH (by lia) (by lia);simp at h2;lia
def zaV {u v w:P}(hu:Rs u)(hv:Rs v)(hw:Rs w)(h:0<cx u w):0<cx u v\/0<cx v w:=by
 obtain⟨u1,u2⟩:=u;obtain⟨v1,v2⟩:=v;obtain⟨w1,w2⟩:=w;simp only[Rs,cx] at*;have id1:(u1*w2 - u2*w1)*v1=(u1*v2 - u2*v1)*w1+(v1*w2 - v2*w1)*u1:=by grind
 rcases vH 0 (u1*v2 - u2*v1) with z1 | z1
 .exact .inl z1
 rcases vH 0 (v1*w2 - v2*w1) with z2 | z2
 .exact .inr z2
 exfalso
 have n2:(u1*v2 - u2*v1)*w1<=0:=vF z1 (by lia);have n3:(v1*w2 - v2*w1)*u1<=0:=vF z2 (by lia)
 rcases hv with hv | ⟨hv,hv2⟩
 .have:=wP h hv;lia
 .subst hv;simp at z1;have u0:u1=0:=by
   rcases vH 0 u1 with q | q
   .have:=wP q hv2;lia
   .lia
  subst u0;have:0<=u2*w1:=wH (by lia) (by lia);simp at h;lia
def Be.tr {u v w:P}(hu:u≠(0,0))(hv:v≠(0,0))(hw:w≠(0,0))(h1:Be u v)(h2:Be v w):Be u w:=by
 rcases h1 with ⟨a,b⟩ | ⟨a,b⟩
 .rcases h2 with ⟨c,d⟩ | ⟨c,d⟩
  .exact absurd c b
  .exact .inl ⟨a,λz=>b (c.mpr z)⟩
 .rcases h2 with ⟨c,d⟩ | ⟨c,d⟩
  .exact .inl ⟨a.mpr c,d⟩
  .refine .inr ⟨a.trans c,?_⟩
   by_cases r:Rs u
   .exact zaW r (a.mp r) (c.mp (a.mp r)) b d
   .have:=zaW ((z6G hu).mpr r) ((z6G hv).mpr λz=>r (a.mpr z)) ((z6G hw).mpr λz=>r (a.mpr (c.mpr z))) (by rw[z9g];exact b) (by rw[z9g];exact d)
    rwa [z9g] at this
def Be.wk {u v w:P}(hu:u≠(0,0))(hv:v≠(0,0))(hw:w≠(0,0))(h:Be u w):Be u v\/Be v w:=by
 rcases h with ⟨a,b⟩ | ⟨a,b⟩
 .by_cases r:Rs v
  .exact .inr (.inl ⟨r,b⟩)
  .exact .inl (.inl ⟨a,r⟩)
 .by_cases r:Rs u
  .by_cases s:Rs v
   .rcases zaV r s (a.mp r) b with z | z
    .exact .inl (.inr ⟨⟨λ_=>s,λ_=>r⟩,z⟩)
    .exact .inr (.inr ⟨⟨λ_=>a.mp r,λ_=>s⟩,z⟩)
   .exact .inl (.inl ⟨r,s⟩)
  .by_cases s:Rs v
   .exact .inr (.inl ⟨s,λz=>r (a.mpr z)⟩)
   .rcases zaV ((z6G hu).mpr r) ((z6G hv).mpr s) ((z6G hw).mpr λz=>r (a.mpr z)) (by rw[z9g];exact b) with z | z
    .rw[z9g] at z;exact .inl (.inr ⟨⟨λq=>absurd q r,λq=>absurd q s⟩,z⟩)
    .rw[z9g] at z;exact .inr (.inr ⟨⟨λq=>absurd q s,λq=>absurd (a.mpr q) r⟩,z⟩)
def Be.irr:¬ Be u u:=by
 rintro(⟨a,b⟩ | ⟨_,b⟩)
 .exact b a
 .have:cx u u=0:=by simp only[cx];grind
  lia
def Dt (t:P)(l:List P):Int:=(l.map (cx · t)).sum
def Dt.app (t:P)(l m:List P):Dt t (l++m)=Dt t l+Dt t m:=by unfold Dt;rw[wY,List.sum_append]
theorem Dt.nonneg:∀{l:List P},(∀u∈l,0<=cx u t)->0<=Dt t l
 | [],_=>by simp[Dt]
 | u::l,h=>by
  have:=Dt.nonneg (t:=t) (l:=l) λx hx=>h x (by simp[hx]);have:=h u (by simp);simp[Dt] at*;lia
theorem Dt.nonpos:∀{l:List P},(∀u∈l,cx u t<=0)->Dt t l<=0
 | [],_=>by simp[Dt]
 | u::l,h=>by
  have:=Dt.nonpos (t:=t) (l:=l) λx hx=>h x (by simp[hx]);have:=h u (by simp);simp[Dt] at*;lia
theorem z5M (ht:∀u v:P,R u v->Be v t->Be u t):∀{E:List P},E.Pairwise R->∃F G,E=F++G/\(∀u∈F,Be u t)/\(∀u∈G,¬ Be u t)
 | [],_=>⟨[],[],rfl,λ_ h=>by(cases h),λ_ h=>by(cases h)⟩
 | u::E,h=>by
  rw[vh] at h
  by_cases b:Be u t
  .obtain⟨F,G,e,h1,h2⟩:=z5M ht h.2;exact⟨u::F,G,by rw[e];rfl,λx hx=>(ww.mp hx).elim (λz=>z ▸ b) (h1 x),h2⟩
  .exact⟨[],u::E,rfl,λ_ h=>by(cases h),λx hx=>(ww.mp hx).elim (λz=>z ▸ b) λz q=>b (ht u x (h.1 x z) q)⟩
def lead (ht:t≠(0,0))(hn:∀u∈E,u≠(0,0))(hs:E.Pairwise Be)(h0:Dt t E=0)(e:E=F++G)(hF:∀u∈F,Be u t)(hG:∀u∈G,¬ Be u t)(k:E=K++L):Dt t K<=Dt t F:=by
 have e0:Dt t F+Dt t G=0:=by rw[<- Dt.app, <- e];exact h0
 have nF:∀u∈F,u≠(0,0):=λu hu=>hn u (by rw[e];simp[hu]);have nG:∀u∈G,u≠(0,0):=λu hu=>hn u (by rw[e];simp[hu]);have tn:=zjs ht
 by_cases r:Rs t
 .have pF:∀u∈F,0<cx u t:=λu hu=>by
   rcases hF u hu with ⟨_,z⟩ | ⟨_,z⟩
   .exact absurd r z
   .exact z
  have dF:0<=Dt t F:=Dt.nonneg λu hu=>vf (pF u hu)
  rcases j2.mp (k.symm.trans e) with ⟨a,e1,e2⟩ | ⟨c,e1,e2⟩
  .have:0<=Dt t a:=Dt.nonneg λu hu=>vf (pF u (by rw[e1];simp[hu]));rw[e1,Dt.app];lia
  .rw[e1,Dt.app]
   rcases vH 0 (Dt t c) with z | z
   .exfalso
    obtain⟨u,hu,hp⟩:∃u∈c,0<cx u t:=by
     apply vm;intro q;have:=Dt.nonpos (t:=t) (l:=c) λu hu=>by
      rcases vH 0 (cx u t) with w | w
      .exact absurd ⟨u,hu,w⟩ q
      .exact w
     lia
    have ru:¬ Rs u:=λw=>hG u (by rw[e2];simp[hu]) (.inr ⟨⟨λ_=>r,λ_=>w⟩,hp⟩);have rt:¬ Rs (ng t):=λw=>(z6G ht).mp w r;have b1:Be (ng t) u :=.inr ⟨⟨λw=>absurd w rt,λw=>absurd w ru⟩,by rw[zdU];exact hp⟩;have dL:0<=Dt t L:=Dt.nonneg λv hv=>by
     have huv:Be u v:=by
      rw[k,e1,v3] at hs;exact hs.2.2 u (by simp[hu]) v hv
     have nv:=hn v (by rw[k];simp[hv]);have b2:=b1.tr tn (nG u (by rw[e2];simp[hu])) nv huv
     rcases b2 with ⟨w,_⟩ | ⟨_,w⟩
     .exact absurd w rt
     .rw[zdU] at w;lia
    rw[e2,Dt.app] at e0;lia
   .lia
 .have pG:∀u∈G,cx u t<=0:=λu hu=>by
   have ru:¬ Rs u:=λw=>hG u hu (.inl ⟨w,r⟩)
   rcases vH 0 (cx u t) with w | w
   .exact absurd (.inr ⟨⟨λq=>absurd q ru,λq=>absurd q r⟩,w⟩) (hG u hu)
   .exact w
  have dG:Dt t G<=0:=Dt.nonpos pG
  rcases j2.mp (k.symm.trans e) with ⟨a,e1,e2⟩ | ⟨c,e1,e2⟩
  .rw[e1,Dt.app]
   rcases vH (Dt t a) 0 with z | z
   .exfalso
    obtain⟨v,hv,hp⟩:∃v∈a,cx v t<0:=by
     apply vm;intro q;have:=Dt.nonneg (t:=t) (l:=a) λu hu=>by
      rcases vH (cx u t) 0 with w | w
      .exact absurd ⟨u,hu,w⟩ q
      .exact w
     lia
    have rv:Rs v:=by
     rcases hF v (by rw[e1];simp[hv]) with ⟨w,_⟩ | ⟨_,w⟩
     .exact w
     .lia
    have rt:Rs (ng t):=(z6G ht).mpr r;have b1:Be v (ng t) :=.inr ⟨⟨λ_=>rt,λ_=>rv⟩,by rw[zbe];lia⟩;have dK:Dt t K<=0:=Dt.nonpos λu hu=>by
     have huv:Be u v:=by
      rw[k,e2,v3] at hs;exact hs.2.2 u hu v (by simp[hv])
     have nu:=hn u (by rw[k];simp[hu])
     rcases huv.tr nu (nF v (by rw[e1];simp[hv])) tn b1 with ⟨_,w⟩ | ⟨_,w⟩
     .exact absurd rt w
     .rw[zbe] at w;lia
    rw[e1,Dt.app] at e0;lia
   .lia
  .have:Dt t c<=0:=Dt.nonpos λu hu=>pG u (by rw[e2];simp[hu]);rw[e1,Dt.app];lia
def sb (a b:P):P:=(b.1 - a.1,b.2 - a.2)
def pl (a b:P):P:=(a.1+b.1,a.2+b.2)
def vs (l:List P):P:=((l.map (·.1)).sum,(l.map (·.2)).sum)
def z2I (u:P)(l:List P):vs (u::l)=pl u (vs l):=rfl
def z9s (l m:List P):vs (l++m)=pl (vs l) (vs m):=by
 simp only[vs,pl,wY,List.sum_append]
def z7v (h:l.Perm m):vs l=vs m:=by
 induction h with
 | nil=>rfl
 | cons x _ ih=>rw[z2I,z2I,ih]
 | swap x y l=>simp only[z2I,pl];exact vV (by simp;lia) (by simp;lia)
 | trans _ _ h1 h2=>exact h1.trans h2
theorem z7Q (t:P):∀l:List P,Dt t l=cx (vs l) t
 | []=>by simp[Dt,vs,cx]
 | u::l=>by
  have ih:=z7Q t l;rw[z2I,show Dt t (u::l)=cx u t+Dt t l by simp[Dt],ih];simp only[cx,pl]
  grind
def df:List P->List P
 | a::b::r=>sb a b::df (b::r)
 | _=>[]
theorem z8z:∀{r:List P}{a q:P},q∈a::r->∃K L,df (a::r)=K++L/\vs K=sb a q
 | [],a,q,h=>by
  rw[wq.mp h];exact⟨[],[],rfl,by simp[vs,sb]⟩
 | b::r,a,q,h=>by
  rcases ww.mp h with rfl | h
  .exact⟨[],_,rfl,by simp[vs,sb]⟩
  .obtain⟨K,L,e,v⟩:=z8z h;refine⟨sb a b::K,L,by rw[df,e];rfl,?_⟩;rw[z2I,v];simp only[pl,sb];exact vV (by simp;lia) (by simp;lia)
theorem zi6:∀{r:List P}{a:P}{K L:List P},df (a::r)=K++L->∃q∈a::r,vs K=sb a q
 | [],a,K,L,h=>by
  have:K=[]:=(List.append_eq_nil_iff.mp h.symm).1;subst this;exact⟨a,by simp,by simp[vs,sb]⟩
 | b::r,a,[],L,h=>⟨a,by simp,by simp[vs,sb]⟩
 | b::r,a,u::K,L,h=>by
  rw[df,u7] at h;obtain⟨rfl,h'⟩:=List.cons.inj h;obtain⟨q,hq,v⟩:=zi6 h';refine⟨q,wm _ hq,?_⟩;rw[z2I,v];simp only[pl,sb];exact vV (by simp;lia) (by simp;lia)
theorem zb8:∀{r:List P}{a z:P},vs (df (a::r++[z]))=sb a z
 | [],a,z=>by simp[df,vs,sb]
 | b::r,a,z=>by
  show vs (sb a b::df (b::r++[z]))=_;rw[z2I,zb8];simp only[pl,sb];exact vV (by simp;lia) (by simp;lia)
theorem zdS:∀{r s:List P}{a m:P},df (a::r++m::s)=df (a::r++[m])++df (m::s)
 | [],s,a,m=>by
  show sb a m::df (m::s)=[sb a m]++df (m::s)
  rfl
 | b::r,s,a,m=>by
  show sb a b::df (b::r++m::s)=sb a b::df (b::r++[m])++df (m::s);rw[zdS]
  rfl
def mg:List P->List P->List P
 | E,[]=>E
 | E,f::F=>E.takeWhile (λu=>decide (Be u f))++f::mg (E.dropWhile (λu=>decide (Be u f))) F
theorem z4t:∀(E F:List P),(mg E F).Perm (E++F)
 | E,[]=>by simp[mg]
 | E,f::F=>by
  have ih:=z4t (E.dropWhile (λu=>decide (Be u f))) F;rw[mg];refine(jg _ (ih.cons f)).trans ?_
  conv=>rhs;rw[<- jt (p:=λu=>decide (Be u f)) (l:=E),vZ]
  exact jg _ List.perm_middle.symm
theorem zdJ:∀{E F K L:List P},mg E F=K++L->∃E1 E2 F1 F2,E=E1++E2/\F=F1++F2/\K.Perm (E1++F1)
 | E,[],K,L,h=>⟨K,L,[],[],h,rfl,by simp⟩
 | E,f::F,K,L,h=>by
  rw[mg] at h;have sp:=jt (p:=λu=>decide (Be u f)) (l:=E);generalize E.takeWhile (λu=>decide (Be u f))=T at*;generalize E.dropWhile (λu=>decide (Be u f))=R at*
  rcases j2.mp h with ⟨a,e1,e2⟩ | ⟨c,e1,e2⟩
  .cases a with
   | nil=>exact⟨T,R,[],f::F,sp.symm,rfl,by rw[e1]⟩
   | cons x a=>
    rw[u7] at e2;obtain⟨rfl,e3⟩:=List.cons.inj e2;obtain⟨E1,E2,F1,F2,q1,q2,q3⟩:=zdJ e3;refine⟨T++E1,E2,f::F1,F2,by rw[<- sp,q1,vZ],by rw[q2,u7],?_⟩;rw[e1,vZ];exact jg _ ((q3.cons f).trans List.perm_middle.symm)
  .exact⟨K,c++R,[],f::F,by rw[<- sp,e1,vZ],rfl,by simp⟩
def Nz (l:List P):Prop:=∀u∈l,u≠(0,0)
def Be.asym {u v:P}(hu:u≠(0,0))(hv:v≠(0,0))(h:Be u v):¬ Be v u:=λz=>Be.irr (h.tr hu hv hu z)
theorem zhM:∀{E F:List P},Nz E->Nz F->E.Pairwise (λx y=>¬ Be y x)->F.Pairwise (λx y=>¬ Be y x)->(mg E F).Pairwise (λx y=>¬ Be y x)
 | E,[],_,_,h,_=>by rw[mg];exact h
 | E,f::F,nE,nF,hE,hF=>by
  have sp:=jt (p:=λu=>decide (Be u f)) (l:=E);have ht:∀u∈E.takeWhile (λu=>decide (Be u f)),Be u f:=λu hu=>by
   have:=jC.mp (List.all_takeWhile (p:=λu=>decide (Be u f)) (l:=E)) u hu;o_rec
  have hdr:∀d r,E.dropWhile (λu=>decide (Be u f))=d::r->¬ Be d f:=λd r e z=>by
   have:=List.head?_dropWhile_not (λu=>decide (Be u f)) E;rw[e] at this;simp at this;exact this z
  rw[mg];have hp:=z4t (E.dropWhile (λu=>decide (Be u f))) F;generalize E.takeWhile (λu=>decide (Be u f))=T at*;generalize E.dropWhile (λu=>decide (Be u f))=R at*;have nT:Nz T:=λu hu=>nE u (by rw[<- sp];simp[hu]);have nR:Nz R:=λu hu=>nE u (by rw[<- sp];simp[hu]);have nf:=nF f (by simp);have nF':Nz F:=λu hu=>nF u (by simp[hu]);rw[<- sp,v3] at hE;rw[vh] at hF;have ih:=zhM nR nF' hE.2.1 hF.2;have mem:∀y∈mg R F,y∈R\/y∈F:=λy hy=>wG.mp (hp.mem_iff.mp hy);rw[v3,vh];refine⟨hE.1,⟨λy hy =>?_,ih⟩,λx hx y hy =>?_⟩
  .rcases mem y hy with z | z
   .cases R with
    | nil=>cases z
    | cons d r=>
     have hd:=hdr d r rfl
     rcases ww.mp z with rfl | z
     .exact hd
     .intro w
      rcases w.wk (v:=d) (nR y (by simp[z])) (nR d (by simp)) nf with q | q
      .exact(vh.mp hE.2.1).1 y z q
      .exact hd q
   .exact hF.1 y z
  .rcases ww.mp hy with rfl | hy
   .exact(ht x hx).asym (nT x hx) nf
   .rcases mem y hy with z | z
    .exact hE.2.2 x hx y z
    .intro w;exact hF.1 y z (w.tr (nF' y z) (nT x hx) nf (ht x hx))
def zf9 (ht:t≠(0,0))(nE:Nz E)(nF:Nz F)(sE:E.Pairwise Be)(sF:F.Pairwise Be)(zE:vs E=(0,0))(zF:vs F=(0,0)):
  ∃K L,mg E F=K++L/\∀K1 L1 K2 L2,E=K1++L1->F=K2++L2->Dt t K1+Dt t K2<=Dt t K:=by
 have d0:∀{l:List P},vs l=(0,0)->Dt t l=0:=λ{l} h=>by rw[z7Q,h];simp[cx]
 have wk:∀{l:List P},Nz l->l.Pairwise Be->l.Pairwise (λx y=>¬ Be y x):=λ{l} n h=>by
  have:l.Pairwise λx y=>(x∈l/\y∈l):=jj λx hx y hy=>⟨hx,hy⟩
  exact(h.and this).imp λ{x y} ⟨q,hx,hy⟩=>q.asym (n x hx) (n y hy)
 have nz:∀{l:List P}{R:P->P->Prop},Nz l->l.Pairwise R->l.Pairwise λx y=>(x≠(0,0)/\y≠(0,0))/\R x y:=λ{l R} n h=>by
  have:l.Pairwise λx y=>(x≠(0,0)/\y≠(0,0)):=jj λx hx y hy=>⟨n x hx,n y hy⟩
  exact this.and h
 have strong:∀u v:P,((u≠(0,0)/\v≠(0,0))/\Be u v)->Be v t->Be u t:=λu v ⟨⟨a,b⟩,c⟩ d=>c.tr a b ht d;have weak:∀u v:P,((u≠(0,0)/\v≠(0,0))/\¬ Be v u)->Be v t->Be u t:=λu v ⟨⟨a,b⟩,c⟩ d=>(d.wk b a ht).resolve_left c;have nM:Nz (mg E F):=λu hu=>(wG.mp ((z4t E F).mem_iff.mp hu)).elim (nE u) (nF u);obtain⟨E1,E2,e1,pE,qE⟩:=z5M strong (nz nE sE);obtain⟨F1,F2,f1,pF,qF⟩:=z5M strong (nz nF sF);obtain⟨K,L,k1,pK,qK⟩:=z5M weak (nz nM (zhM nE nF (wk nE sE) (wk nF sF)));refine⟨K,L,k1,λK1 L1 K2 L2 h1 h2 =>?_⟩;have a1:=lead ht nE sE (d0 zE) e1 pE qE h1;have a2:=lead ht nF sF (d0 zF) f1 pF qF h2;have fl:∀{A B:List P},(∀u∈A,Be u t)->(∀u∈B,¬ Be u t)->(A++B).filter (λu=>decide (Be u t))=A:=λ{A B} ha hb=>by
  rw[List.filter_append,List.filter_eq_self.mpr λu hu=>vC (ha u hu),List.filter_eq_nil_iff.mpr λu hu=>by simpa using hb u hu,v6]
 have hp:=(z4t E F).filter (λu=>decide (Be u t));rw[k1,fl pK qK,List.filter_append,e1,fl pE qE,f1,fl pF qF] at hp;have:Dt t K=Dt t E1+Dt t F1:=by rw[z7Q,z7v hp, <- z7Q,Dt.app]
 lia
def rd (h:List P):List P:=if h.length=1 then [] else df (h++h.take 1)
def zhN {a b c:P}(h:Lx a b)(k:Lx b c):Lx a c:=by
 simp only[Lx] at*;lia
def zfa (h:Lx a b):Rs (sb a b):=by
 simp only[Lx,Rs,sb] at*;lia
def zaG (h:Lx b a):¬ Rs (sb a b):=by
 simp only[Lx,Rs,sb] at*;lia
def zfW (h:a≠b):sb a b≠(0,0):=λz=>h (by
 have h1:=congrArg Prod.fst z;have h2:=congrArg Prod.snd z;simp only[sb] at h1 h2;exact vV (by lia) (by lia))
theorem zd4 (hR:∀a b,R a b->a≠b):∀{p:List P},Path R p->Nz (df p)
 | [],_=>λu hu=>by(cases hu)
 | [_],_=>λu hu=>by(cases hu)
 | a::b::r,h=>λu hu=>by
  rw[df] at hu
  rcases ww.mp hu with rfl | hu
  .exact zfW (hR a b h.1)
  .exact zd4 hR h.2 u hu
theorem z8A:u∈df p->∃a b,(∀R:P->P->Prop,Path R p->R a b)/\u=sb a b:=by
 match p with
 | []=>intro h;cases h
 | [_]=>intro h;cases h
 | a::b::r=>
  intro h;rw[df] at h
  rcases ww.mp h with rfl | h
  .exact⟨a,b,λR q=>q.1,rfl⟩
  .obtain⟨x,y,q,e⟩:=z8A h;exact⟨x,y,λR w=>q R w.2,e⟩
theorem z5K:∀{p:List P},p.Pairwise R->Path R p
 | [],_=>trivial
 | [_],_=>trivial
 | a::b::r,h=>by
  rw[vh] at h;exact⟨h.1 b (by simp),z5K h.2⟩
theorem zfs (hO:∀a b c d:P,O a b->O c d->(Rs (sb a b)↔Rs (sb c d)))(tr:∀a b c:P,O a b->O b c->a≠c):∀{p:List P},Path (Edge S) p->Path O p->(df p).Pairwise Be
 | [],_,_ =>.nil
 | [_],_,_ =>.nil
 | [a,b],_,_=>List.pairwise_singleton _ _
 | a::b::c::r,h,o=>by
  have ih:=zfs hO tr h.2 o.2;have nz:=zd4 (λ_ _ (e:Edge S _ _)=>e.ne) h.2;rw[df,vh];refine⟨λu hu =>?_,ih⟩;have first:Be (sb a b) (sb b c) :=.inr ⟨hO a b b c o.1 o.2.1,by
   have:=z3z h.1 h.2.1 (tr a b c o.1 o.2.1);have e:Qc a b c=cx (sb a b) (sb b c):=by simp only[Qc,cx,sb];grind
   rwa [e] at this⟩
  rw[df] at hu ih nz
  rcases ww.mp hu with rfl | hu
  .exact first
  .exact first.tr (zfW h.1.ne) (nz _ (by simp)) (nz u (by simp[hu])) ((vh.mp ih).1 u hu)
structure Rnd (h:List P):Prop where
 nz:Nz (rd h)
 up:(rd h).Pairwise Be
 zero:vs (rd h)=(0,0)
def Hd.rnd (x:Hd l h)(hn:l≠[]):Rnd h:=by
 obtain⟨rl,h1,h2,rfl⟩:=x;have hr:rl≠[]:=λz=>by
  obtain⟨p,r,rfl⟩:=uA hn;have:=(h2 p).mpr (by simp);rw[z] at this
  cases this
 have hp:=vq.mpr hr
 rcases vD rl.length 2 with z | z
 .have e:hull rl=rl:=if_pos (by lia);have:rd (hull rl)=[]:=by rw[e];exact if_pos (by lia)
  refine⟨?_,?_,?_⟩ <;> rw[this]
  .exact λu hu=>by(cases hu)
  .exact .nil
  .rfl
 .obtain⟨m,M,A,B,e,ml,Ml,hlt,hmin,hmax,pa,pb,wa,wb⟩:=z5q z h1;have er:rd (hull rl)=df (m::A++[M])++df (M::B++[m]):=by
   unfold rd;rw[if_neg (by rw[e];simp),e];show df (m::A++M::B++[m])=_;rw[vZ,u7];exact zdS
  have up:=z5K pa;have dn:=z5K pb;have edge:∀a b,Edge (· ∈ rl) a b->a≠b:=λa b e=>e.ne;refine⟨?_,?_,?_⟩
  .rw[er];intro u hu
   rcases wG.mp hu with hu | hu
   .exact zd4 edge wa u hu
   .exact zd4 edge wb u hu
  .rw[er,v3];refine⟨zfs (O:=Lx) (λa b c d q w=>⟨λ_=>zfa w,λ_=>zfa q⟩) (λa b c q w z=>by subst z;exact Lx.irr (zhN q w)) wa up,zfs (O:=λx y=>Lx y x) (λa b c d q w=>⟨λz=>absurd z (zaG q),λz=>absurd z (zaG w)⟩) (λa b c q w z=>by subst z;exact Lx.irr (zhN q w)) wb dn,λu hu v hv =>?_⟩;obtain⟨a,b,q,rfl⟩:=z8A hu;obtain⟨c,d,w,rfl⟩:=z8A hv;exact .inl ⟨zfa (q _ up),zaG (w _ dn)⟩
  .rw[er,z9s,zb8,zb8];simp only[pl,sb];exact vV (by simp;lia) (by simp;lia)
def zga (e:h=a::r)(k:rd h=K++L):∃q∈h,vs K=sb a q:=by
 subst e;unfold rd at k
 split at k
 .have:K=[]:=(List.append_eq_nil_iff.mp k.symm).1;subst this;exact⟨a,by simp,by simp[vs,sb]⟩
 .obtain⟨q,hq,v⟩:=zi6 (r:=r++[a]) (a:=a) k;refine⟨q,?_,v⟩;simp at hq ⊢
  rcases hq with z | z | z
  .exact .inl z
  .exact .inr z
  .exact .inl z
def z8a (e:h=a::r)(hq:q∈h):∃K L,rd h=K++L/\vs K=sb a q:=by
 subst e;unfold rd
 split
 .rename_i z
  have:r=[]:=ue.mp (by simpa using z);subst this;rw[wq.mp hq];exact⟨[],[],rfl,by simp[vs,sb]⟩
 .exact z8z (r:=r++[a]) (a:=a) (by simp at hq ⊢;rcases hq with z | z;exact .inl z;exact .inr (.inl z))
def join {l1 l2 h1 h2 r1 r2:List P}(x1:Hd l1 h1)(x2:Hd l2 h2)(n1:l1≠[])(n2:l2≠[])(e1:h1=a::r1)(e2:h2=b::r2):
  (∀K L,mg (rd h1) (rd h2)=K++L->∃p∈h1,∃q∈h2,pl (pl a b) (vs K)=pl p q)/\
  ∀p∈h1,∀q∈h2,∀d:P,∃K L,mg (rd h1) (rd h2)=K++L/\Qb (pl p q) d<=Qb (pl (pl a b) (vs K)) d:=by
 have R1:=x1.rnd n1;have R2:=x2.rnd n2;refine⟨λK L k =>?_,λp hp q hq d =>?_⟩
 .obtain⟨E1,E2,F1,F2,q1,q2,q3⟩:=zdJ k;obtain⟨p,hp,v1⟩:=zga e1 q1;obtain⟨q,hq,v2⟩:=zga e2 q2;refine⟨p,hp,q,hq,?_⟩;rw[z7v q3,z9s,v1,v2];simp only[pl,sb];exact vV (by simp;lia) (by simp;lia)
 .by_cases hd:d=(0,0)
  .subst hd;exact⟨[],_,rfl,by simp[Qb]⟩
  .have ht:((-d.2,d.1):P)≠(0,0):=λz=>hd (by
    have z1:=congrArg Prod.fst z;have z2:=congrArg Prod.snd z;simp at z1 z2;exact vV z2 z1)
   obtain⟨K,L,k,far⟩:=zf9 ht R1.nz R2.nz R1.up R2.up R1.zero R2.zero;obtain⟨K1,L1,k1,v1⟩:=z8a e1 hp;obtain⟨K2,L2,k2,v2⟩:=z8a e2 hq;refine⟨K,L,k,?_⟩;have:=far K1 L1 K2 L2 k1 k2;rw[z7Q,z7Q,z7Q,v1,v2] at this;simp only[cx,sb,Qb,pl] at*
   grind
def zaB {a b c d:Int}(ha:0<a)(hb:0<=b)(hc:c<0)(hd:0<=d)(e:a*b=c*d):d=0:=by
 have h1:=wH (vf ha) hb;have h2:=vF (vf hc) hd;have h3:c*d=0:=by lia
 rcases wK.mp h3 with z | z
 .lia
 .exact z
def sqp {a b:Int}(h:¬ (a=0/\b=0)):0<a*a+b*b:=by
 have sq:∀x:Int,0<=x*x:=λx=>by
  rcases Int.le_total 0 x with z | z
  .exact wH z z
  .exact uY z z
 have h1:=sq a;have h2:=sq b
 rcases jK (Int.add_nonneg h1 h2) with z | z
 .exact z
 .exfalso
  have z1:a*a=0:=by omega
  have z2:b*b=0:=by omega
  have y1:=wK.mp z1;have y2:=wK.mp z2;exact h ⟨by lia,by lia⟩
def zdH {a b o c:P}(e1:Edge S a b)(e2:Edge S o c)(ha:a≠o)(hb:b≠o):0<Qc a b o:=by
 rcases jK (e1.left o e2.sa) with z | z
 .exact z
 exfalso
 have z:=z.symm;have bt:=e1.btw o e2.sa z;have np:=((ze2 e1.ne).mp ⟨z,bt.1,bt.2⟩).2.2;have la:=e2.left a e1.sa;have lb:=e2.left b e1.sb;have ba:=e2.btw a e1.sa;have bb:=e2.btw b e1.sb;have nc:=e2.ne;obtain⟨a1,a2⟩:=a;obtain⟨b1,b2⟩:=b;obtain⟨o1,o2⟩:=o;obtain⟨c1,c2⟩:=c;simp only[Qc,dot] at z np la lb ba bb;have ha':¬ (a1 - o1=0/\a2 - o2=0):=λw=>ha (vV (by simp;lia) (by simp;lia));have hb':¬ (b1 - o1=0/\b2 - o2=0):=λw=>hb (vV (by simp;lia) (by simp;lia));have hc':¬ (c1 - o1=0/\c2 - o2=0):=λw=>nc (vV (by simp;lia) (by simp;lia));have z':(a1 - o1)*(b2 - o2) - (a2 - o2)*(b1 - o1)=0:=by rw[<- z];grind
 clear z ha hb nc bt e1 e2;generalize a1 - o1=u1 at*;generalize a2 - o2=u2 at*;generalize b1 - o1=v1 at*;generalize b2 - o2=v2 at*;generalize c1 - o1=s1 at*;generalize c2 - o2=s2 at*;have U:=sqp ha';have V:=sqp hb';have C:=sqp hc';have lag:(u1*v1+u2*v2)*(u1*v1+u2*v2)+(u1*v2 - u2*v1)*(u1*v2 - u2*v1)=(u1*u1+u2*u2)*(v1*v1+v2*v2):=by grind
 have i1:(u1*u1+u2*u2)*(s1*v2 - s2*v1)=(u1*v1+u2*v2)*(s1*u2 - s2*u1)+(u1*v2 - u2*v1)*(s1*u1+s2*u2):=by grind
 have i2:(u1*u1+u2*u2)*(v1*s1+v2*s2)=(u1*v1+u2*v2)*(u1*s1+u2*s2) - (u1*v2 - u2*v1)*(s1*u2 - s2*u1):=by grind
 have i3:(u1*s1+u2*s2)*(u1*s1+u2*s2)+(s1*u2 - s2*u1)*(s1*u2 - s2*u1)=(u1*u1+u2*u2)*(s1*s1+s2*s2):=by grind
 rw[z',jw,Int.add_zero] at lag i1;rw[z',jw,Int.sub_zero] at i2;have UV:=wP U V;have neg:u1*v1+u2*v2<0:=by
  rcases jK np with w | w
  .exact w
  .rw[w] at lag;lia
 have k1:s1*u2 - s2*u1=0:=zaB U lb neg la i1;have k1':s1*v2 - s2*v1=0:=by
  rw[k1,Int.mul_zero] at i1
  rcases wK.mp i1 with w | w
  .lia
  .exact w
 have k2:=(ba k1).1;have k3:=(bb k1').1;have k4:u1*s1+u2*s2=0:=zaB U k3 neg k2 i2;rw[k1,k4] at i3;have:=wP U C;lia
def zd6 {c:Int}(hp:Qb p u<=c)(hd:c<Qb d u)(hw:Qb p w<=Qb d w)
  (i1:Qb a1 u<=c) (o1:c<Qb b1 u) (m1:Qb q1 u=c) (n1:Qc a1 b1 q1=0) (i2:Qb b2 u<=c) (o2:c<Qb a2 u) (m2:Qb q2 u=c) (n2:Qc a2 b2 q2=0)
  (p1:0<=Qc a1 b1 p) (d1:0<=Qc a1 b1 d) (p2:0<=Qc a2 b2 p) (d2:0<=Qc a2 b2 d):Qb p w<=Qb q1 w\/Qb p w<=Qb q2 w:=by
 have hα:0<Qb d u - c:=by lia
 have hβ:0<=c - Qb p u:=by lia
 generalize hA:Qb d u - c=α at*;generalize hB:c - Qb p u=β at*;have uu:0<u.1*u.1+u.2*u.2:=by
  refine sqp λz =>?_;unfold Qb at i1 o1;rw[z.1,z.2] at i1 o1;simp at i1 o1;lia
 have key:∀{a b q:P},Qb q u=c->Qc a b q=0->0<=Qc a b p->0<=Qc a b d->0<=(u.1*(p.2*α+d.2*β - (α+β)*q.2) - u.2*(p.1*α+d.1*β - (α+β)*q.1))*(Qb b u - Qb a u):=by
  intro a b q mq nq pq dq;have h1:0<=Qc a b p*α+Qc a b d*β:=Int.add_nonneg (wH pq (vf hα)) (wH dq hβ);have perp:u.1*(p.1*α+d.1*β - (α+β)*q.1)+u.2*(p.2*α+d.2*β - (α+β)*q.2)=0:=by
   have e1:Qb p u*α+Qb d u*β=c*(α+β):=by rw[<- hA, <- hB];grind
   unfold Qb at e1 mq
   grind
  have h2:Qc a b p*α+Qc a b d*β=(b.1 - a.1)*(p.2*α+d.2*β - (α+β)*q.2) - (b.2 - a.2)*(p.1*α+d.1*β - (α+β)*q.1):=by
   unfold Qc at nq ⊢
   grind
  rw[h2] at h1;generalize p.1*α+d.1*β - (α+β)*q.1=x at*;generalize p.2*α+d.2*β - (α+β)*q.2=y at*;have h3:=wH h1 (vf uu);have h4:((b.1 - a.1)*y - (b.2 - a.2)*x)*(u.1*u.1+u.2*u.2)=(u.1*y - u.2*x)*(Qb b u - Qb a u):=by
   unfold Qb
   grind
  rw[h4] at h3;exact h3
 have fin:∀{q:P},Qb q u=c->(u.1*(p.2*α+d.2*β - (α+β)*q.2) - u.2*(p.1*α+d.1*β - (α+β)*q.1))*(u.1*w.2 - u.2*w.1)<=0->Qb p w<=Qb q w:=by
  intro q mq h;have perp:u.1*(p.1*α+d.1*β - (α+β)*q.1)+u.2*(p.2*α+d.2*β - (α+β)*q.2)=0:=by
   have e1:Qb p u*α+Qb d u*β=c*(α+β):=by rw[<- hA, <- hB];grind
   unfold Qb at e1 mq
   grind
  have e2:Qb p w*α+Qb d w*β - (α+β)*Qb q w=(p.1*α+d.1*β - (α+β)*q.1)*w.1+(p.2*α+d.2*β - (α+β)*q.2)*w.2:=by unfold Qb;grind
  generalize p.1*α+d.1*β - (α+β)*q.1=x at*;generalize p.2*α+d.2*β - (α+β)*q.2=y at*;have e3:(x*w.1+y*w.2)*(u.1*u.1+u.2*u.2)=(u.1*y - u.2*x)*(u.1*w.2 - u.2*w.1):=by grind
  have e4:x*w.1+y*w.2<=0:=by
   rcases vH 0 (x*w.1+y*w.2) with z | z
   .have:=wP z uu;lia
   .exact z
  have e5:=wM hw hβ;have e6:Qb p w*(α+β)<=Qb q w*(α+β):=by grind
  exact ug e6 (by lia)
 have k1:=key m1 n1 p1 d1;have k2:=key m2 n2 p2 d2;have s1:0<=u.1*(p.2*α+d.2*β - (α+β)*q1.2) - u.2*(p.1*α+d.1*β - (α+β)*q1.1):=z1Z (show 0<Qb b1 u - Qb a1 u by lia) k1;have s2:u.1*(p.2*α+d.2*β - (α+β)*q2.2) - u.2*(p.1*α+d.1*β - (α+β)*q2.1)<=0:=by
  have:0 <= -(u.1*(p.2*α+d.2*β - (α+β)*q2.2) - u.2*(p.1*α+d.1*β - (α+β)*q2.1)):=z1Z (show 0<Qb a2 u - Qb b2 u by lia) (by grind);lia
 rcases Int.le_total (u.1*w.2 - u.2*w.1) 0 with t | t
 .exact .inl (fin m1 (uX s1 t))
 .exact .inr (fin m2 (vF s2 t))
structure Mid (u:P)(c:Int)(a b q:P):Prop where
 on:Qb q u=c
 line:Qc a b q=0
def z84 (p u:P):Qb p (-u.1,-u.2) = -Qb p u:=by unfold Qb;grind
end Geo
namespace Pu
open PySem L2 Mth
def zg0 (hb:0<b)(bb:Bt 9000 b)(q:∀t,Lw x y b t->Q (pl3 t)):z1v.run [.int x,.int y,.int b] Q X:=by
 have hg:((Int.gcd ((Int.gcd b x:Nat):Int) y:Nat):Int)=g3 x y b:=rfl;have hp:=zdy (x:=x) (y:=y) hb;have g0:=zb3 (x:=x) (y:=y) hb;have gb:=z6d x y b;have bg:Bt 9000 (g3 x y b):=Bt.le (bb.of_abs (by
  have:=uJ.mpr gb;exact Nat.le_of_dvd (by lia) this))
 walk_at "fn";ac_nf;refine z2x ?_;ac_nf;refine z2x ?_;rw[hg];generalize g3 x y b=g at*;ac_nf;refine q (x / g,y / g,b / g) ?_;obtain⟨k,rfl⟩:=gb;exact⟨⟨by have:=hp.pos;exact this,hp.cop⟩,hp.cx,hp.cy,hp.lu,hp.lv,Int.ediv_le_self _ (by lia)⟩
def bey (b m:Int × Int)(t:T3):Int:=ss b t*m.2 - m.1*t.2.2
def Xng (b m:Int × Int)(a c t:T3):Prop:=Lw (a.1*bey b m c - c.1*bey b m a) (a.2.1*bey b m c - c.2.1*bey b m a) (a.2.2*bey b m c - c.2.2*bey b m a) t
def z5s {a c:T3}(ha:0<a.2.2)(hc:0<c.2.2)(h1:bey b m a<0)(h2:0<bey b m c):0<a.2.2*bey b m c - c.2.2*bey b m a:=by
 have e1:=wP ha h2;have e2:=wP hc (show 0 < -bey b m a by lia);rw[Int.mul_neg] at e2;lia
abbrev uB (b m:Int × Int):Geo.P:=(b.1*m.2,b.2*m.2)
def zdZ (d:Dv M t):Qb (Geo.up M t) (uB b m) - m.1*M=bey b m t*(M / t.2.2):=by
 obtain⟨k0,e⟩:=d.k;unfold Qb Geo.up bey ss uB;k_in;generalize M / t.2.2=k at*;rw[<- e]
 grind
def z7o (d:Dv M t):(Qb (Geo.up M t) (uB b m)<=m.1*M↔bey b m t<=0)/\(Qb (Geo.up M t) (uB b m)<m.1*M↔bey b m t<0):=by
 have e:=zdZ (b:=b) (m:=m) d;obtain⟨k0,_⟩:=d.k;have s:=z2M (x:=bey b m t) (y:=Qb (Geo.up M t) (uB b m) - m.1*M) k0 (show (0:Int)<1 by decide) (by rw[e];grind);lia
def Xng.bey0 {a c t:T3}(p0:0<a.2.2*bey b m c - c.2.2*bey b m a)(h:Xng b m a c t):bey b m t=0:=by
 have e1:=h.cx;have e2:=h.cy;have:bey b m t*(a.2.2*bey b m c - c.2.2*bey b m a)=0:=by
  have f:bey b m t*(a.2.2*bey b m c - c.2.2*bey b m a)=(b.1*(t.1*(a.2.2*bey b m c - c.2.2*bey b m a))+b.2*(t.2.1*(a.2.2*bey b m c - c.2.2*bey b m a)))*m.2 - m.1*t.2.2*(a.2.2*bey b m c - c.2.2*bey b m a):=by
   rw[show bey b m t=(b.1*t.1+b.2*t.2.1)*m.2 - m.1*t.2.2 from rfl]
   grind
  rw[f,e1,e2];have ga:bey b m a=(b.1*a.1+b.2*a.2.1)*m.2 - m.1*a.2.2:=rfl;have gc:bey b m c=(b.1*c.1+b.2*c.2.1)*m.2 - m.1*c.2.2:=rfl;generalize bey b m a=α at*;generalize bey b m c=β at*
  grind
 rcases wK.mp this with z | z
 .exact z
 .lia
def Xng.line {b m:Int × Int}{a c t:T3}(p0:0<a.2.2*bey b m c - c.2.2*bey b m a)(h:Xng b m a c t):cr3 a c t=0:=by
 have e1:=h.cx;have e2:=h.cy;generalize bey b m a=α at*;generalize bey b m c=β at*;have:cr3 a c t*(a.2.2*β - c.2.2*α)=0:=by
  have f:cr3 a c t*(a.2.2*β - c.2.2*α)=a.1*(c.2.1*t.2.2*(a.2.2*β - c.2.2*α) - t.2.1*(a.2.2*β - c.2.2*α)*c.2.2) - a.2.1*(c.1*t.2.2*(a.2.2*β - c.2.2*α) - t.1*(a.2.2*β - c.2.2*α)*c.2.2)+a.2.2*(c.1*(t.2.1*(a.2.2*β - c.2.2*α)) - c.2.1*(t.1*(a.2.2*β - c.2.2*α))):=by
   unfold cr3
   grind
  rw[f,e1,e2]
  grind
 rcases wK.mp this with z | z
 .exact z
 .lia
def Xng.mid {a c t:T3}(ha:Dv M a)(hc:Dv M c)(ht:Dv M t)(h1:bey b m a<0)(h2:0<bey b m c)(h:Xng b m a c t):Mid (uB b m) (m.1*M) (Geo.up M a) (Geo.up M c) (Geo.up M t):=by
 have p0:=z5s ha.pos hc.pos h1 h2;refine⟨?_,(zbh ha hc ht).2.mp (h.line p0)⟩;have e:=zdZ (b:=b) (m:=m) ht;rw[h.bey0 p0,jw] at e;lia
end Pu
namespace Geo
def Ed (K:P->Prop)(a b:P):Prop:=∀r,K r->0<=Qc a b r
def Ch {α:Type}(R:α->α->Prop):α->List α->Prop
 | _,[]=>True
 | a,b::r=>R a b/\Ch R b r
theorem Ch.app {α:Type}{R:α->α->Prop}:∀{a:α}{l r:List α},Ch R a (l++r)↔Ch R a l/\Ch R ((a::l).getLast (by simp)) r
 | a,[],r=>by simp[Ch]
 | a,b::l,r=>by
  simp only[u7,Ch];rw[Ch.app (a:=b) (l:=l),and_assoc]
  rfl
theorem Ch.mem {α:Type}{R R':α->α->Prop}:∀{a:α}{l:List α},(∀x y,(x=a\/x∈l)->y∈l->R x y->R' x y)->Ch R a l->Ch R' a l
 | _,[],_,_=>trivial
 | _,b::_,i,h=>⟨i _ _ (.inl rfl) (by simp) h.1,Ch.mem (λx y hx hy=>i x y (.inr (by rcases hx with rfl | hx <;> simp[*])) (by simp[hy])) h.2⟩
theorem Ch.map {α β:Type}{f:α->β}{R:β->β->Prop}:∀{a:α}{l:List α},Ch R (f a) (l.map f)↔Ch (λx y=>R (f x) (f y)) a l
 | _,[]=>Iff.rfl
 | _,_::_=>and_congr Iff.rfl Ch.map
structure Sg (u:P)(c:Int)(a b x:P):Prop where
 on:Qb x u=c
 ex:∃i j:Int,0<i/\0<j/\x.1*(i+j)=a.1*i+b.1*j/\x.2*(i+j)=a.2*i+b.2*j
def Sg.swap {c:Int}(h:Sg u c a b x):Sg u c b a x:=by
 obtain⟨on,i,j,h1,h2,e1,e2⟩:=h;exact⟨on,j,i,h2,h1,by grind,by grind⟩
def Sg.left {u:P}{c:Int}{a b x r:P}(h:Sg u c a b x)(k:0<=Qc a b r):0<=Qc a x r:=by
 obtain⟨on,i,j,h1,h2,e1,e2⟩:=h;have e:Qc a x r*(i+j)=j*Qc a b r:=by unfold Qc;grind
 exact z1Z (show 0<i+j by lia) (by rw[e];exact wH (by lia) k)
def Sg.right {c:Int}(h:Sg u c a b x)(k:0<=Qc a b r):0<=Qc x b r:=by
 obtain⟨on,i,j,h1,h2,e1,e2⟩:=h;have e:Qc x b r*(i+j)=i*Qc a b r:=by unfold Qc;grind
 exact z1Z (show 0<i+j by lia) (by rw[e];exact wH (by lia) k)
def Sg.line {u:P}{c:Int}{a b x:P}(h:Sg u c a b x):Qc a b x=0:=by
 obtain⟨on,i,j,h1,h2,e1,e2⟩:=h;have e:Qc a b x*(i+j)=0:=by unfold Qc;grind
 rcases wK.mp e with z | z
 .exact z
 .lia
def Lv (K:P->Prop)(u:P)(c:Int)(e:P):Prop:=Qb e u=c/\∀r,K r->Qb r u=c->0<=u.1*(r.2 - e.2) - u.2*(r.1 - e.1)
def Lv.of {K:P->Prop}{u a b e:P}{c:Int}(he:Qb e u=c)(hl:Qc a b e=0)(hab:Qb a u<Qb b u)(h:Ed K a b):Lv K u c e:=by
 refine⟨he,λr hr hrc =>?_⟩;have k:=h r hr;have uu:0<u.1*u.1+u.2*u.2:=by
  refine sqp λz =>?_;unfold Qb at hab;rw[z.1,z.2] at hab;simp at hab
 have h2:Qc a b r=(b.1 - a.1)*(r.2 - e.2) - (b.2 - a.2)*(r.1 - e.1):=by
  unfold Qc at hl ⊢
  grind
 have perp:u.1*(r.1 - e.1)+u.2*(r.2 - e.2)=0:=by unfold Qb at he hrc;grind
 rw[h2] at k;generalize r.1 - e.1=x at*;generalize r.2 - e.2=y at*;have h3:=wH k (vf uu);have h4:((b.1 - a.1)*y - (b.2 - a.2)*x)*(u.1*u.1+u.2*u.2)=(u.1*y - u.2*x)*(Qb b u - Qb a u):=by
  unfold Qb
  grind
 rw[h4] at h3;exact z1Z (show 0<Qb b u - Qb a u by lia) h3
def Lv.ed {K:P->Prop}{u e f:P}{c:Int}(uu:0<u.1*u.1+u.2*u.2)(h:Lv K u c e)(hf:K f)(hfc:Qb f u=c):Ed (λr=>K r/\Qb r u<=c) e f:=by
 intro r hr;have s:=h.2 f hf hfc;have he:=h.1;have hr2:=hr.2;have perp:u.1*(f.1 - e.1)+u.2*(f.2 - e.2)=0:=by unfold Qb at he hfc;grind
 have e1:Qc e f r*(u.1*u.1+u.2*u.2)=(u.1*(f.2 - e.2) - u.2*(f.1 - e.1))*(c - Qb r u):=by
  unfold Qc;unfold Qb at he ⊢;rw[<- he];generalize hx:f.1 - e.1=x at*;generalize hy:f.2 - e.2=y at*
  grind
 exact z1Z uu (by rw[e1];exact wH s (by lia))
def Pc (u:P)(c:Int)(a b:P)(ps:List P):Prop:=
 (Qb a u<c/\c<Qb b u/\∃x,Sg u c a b x/\ps=[x])\/(c<Qb a u/\Qb b u<c/\∃x,Sg u c a b x/\ps=[x,b])\/(Qb b u<=c/\¬ (c<Qb a u/\Qb b u<c)/\ps=[b])\/(c<Qb b u/\c<=Qb a u/\ps=[])
def Cut (u:P)(c:Int):P->List P->List P->Prop
 | _,[],out=>out=[]
 | a,b::r,out=>∃ps o,Pc u c a b ps/\Cut u c b r o/\out=ps++o
def Tl (K:P->Prop)(u:P)(c:Int)(a e:P):Prop:=(Qb a u<=c/\e=a)\/(c<Qb a u/\Lv K u c e)
def Pc.step {K:P->Prop}{u a b e:P}{c:Int}{ps:List P}(uu:0<u.1*u.1+u.2*u.2)(h:Pc u c a b ps)(hK:∀p∈ps,K p)(t:Tl K u c a e)(hE:Ed K a b):Ch (Ed λr=>K r/\Qb r u<=c) e ps/\Tl K u c b ((e::ps).getLast (by simp)):=by
 rcases h with ⟨h1,h2,x,hx,rfl⟩ | ⟨h1,h2,x,hx,rfl⟩ | ⟨h1,h2,rfl⟩ | ⟨h1,h2,rfl⟩
 .rcases t with ⟨_,rfl⟩ | ⟨z,_⟩
  .exact⟨⟨λr hr=>hx.left (hE r hr.1),trivial⟩,.inr ⟨h2,Lv.of hx.on hx.line (by lia) hE⟩⟩
  .lia
 .rcases t with ⟨z,_⟩ | ⟨_,lv⟩
  .lia
  .exact⟨⟨lv.ed uu (hK x (by simp)) hx.on,λr hr=>hx.right (hE r hr.1),trivial⟩,.inl ⟨by lia,rfl⟩⟩
 .rcases t with ⟨_,rfl⟩ | ⟨z,lv⟩
  .exact⟨⟨λr hr=>hE r hr.1,trivial⟩,.inl ⟨h1,rfl⟩⟩
  .exact⟨⟨lv.ed uu (hK b (by simp)) (by lia),trivial⟩,.inl ⟨h1,rfl⟩⟩
 .rcases t with ⟨z,rfl⟩ | ⟨z,lv⟩
  .exact⟨trivial,.inr ⟨h1,Lv.of (a:=e) (b:=b) (show Qb e u=c by lia) (show Qc e b e=0 by unfold Qc;grind) (by lia) hE⟩⟩
  .exact⟨trivial,.inr ⟨h1,lv⟩⟩
def zcK:((a::(l++r)).getLast (by simp))=(((a::l).getLast (by simp))::r).getLast (by simp):=by
 cases r with
 | nil=>simp
 | cons b r=>
  rw[w6 (by simp),wX _ (by simp)];exact(w6 (l:=b::r) (by simp)).symm
theorem Cut.chain {c:Int}(uu:0<u.1*u.1+u.2*u.2):∀{a e:P}{l out:List P},Cut u c a l out->(∀p∈out,K p)->Tl K u c a e->Ch (Ed K) a l->Ch (Ed λr=>K r/\Qb r u<=c) e out/\Tl K u c ((a::l).getLast (by simp)) ((e::out).getLast (by simp))
 | a,e,[],out,h,_,t,_=>by
  have h':out=[]:=h;subst h';exact⟨trivial,t⟩
 | a,e,b::r,out,h,hK,t,hE=>by
  k_go;obtain⟨s1,s2⟩:=h1.step uu (λp hp=>hK p (wR _ hp)) t hE.1;obtain⟨w1,w2⟩:=Cut.chain uu h2 (λp hp=>hK p (wF _ hp)) s2 hE.2;refine⟨Ch.app.mpr ⟨s1,w1⟩,?_⟩;rw[zcK];exact w2
theorem Cut.app {u:P}{c:Int}:∀{a:P}{l r out:List P},Cut u c a (l++r) out->∃o1 o2,Cut u c a l o1/\Cut u c ((a::l).getLast (by simp)) r o2/\out=o1++o2
 | a,[],r,out,h=>⟨[],out,rfl,h,rfl⟩
 | a,b::l,r,out,h=>by
  k_go;obtain⟨o1,o2,k1,k2,rfl⟩:=Cut.app (l:=l) h2;exact⟨ps++o1,o2,⟨ps,o1,h1,k1,rfl⟩,k2,by simp⟩
def Rcy (K:P->Prop)(l:List P):Prop:=∃h:l≠[],Ch (Ed K) (l.getLast h) l
def Cut.round {c:Int}(uu:0<u.1*u.1+u.2*u.2){l out:List P}(hl:l≠[])(h:Cut u c (l.getLast hl) l out)(hK:∀p∈out,K p)(R:Ch (Ed K) (l.getLast hl) l)(hi:∃a∈l,Qb a u<=c):Rcy (λr=>K r/\Qb r u<=c) out:=by
 obtain⟨a,ha,hac⟩:=hi;obtain⟨pre,post,rfl⟩:=jJ ha;have e0:pre++a::post=(pre++[a])++post:=by simp
 have hlast:(pre++a::post).getLast hl=(a::post).getLast (by simp):=by rw[wX]
 rw[hlast,e0] at h R;obtain⟨o1,o2,c1,c2,rfl⟩:=Cut.app h;obtain⟨r1,r2⟩:=Ch.app.mp R;have mid:((a::post).getLast (wC _ _)::(pre++[a])).getLast (wC _ _)=a:=by
  rw[w6 (by simp),wX _ (by simp)]
  rfl
 rw[mid] at c2 r2;obtain⟨w1,w2⟩:=Cut.chain uu c2 (λp hp=>hK p (wF _ hp)) (.inl ⟨hac,rfl⟩) r2;obtain⟨v1,v2⟩:=Cut.chain uu c1 (λp hp=>hK p (wR _ hp)) w2 r1;rw[mid] at v2;have la:(((a::o2).getLast (by simp))::o1).getLast (by simp)=a:=by
  rcases v2 with ⟨_,e⟩ | ⟨z,_⟩
  .exact e
  .lia
 have n1:o1≠[]:=by
  obtain⟨p1,p2,q1,q2,rfl⟩:=Cut.app c1;obtain⟨ps,o,k1,k2,rfl⟩:=q2;have:ps≠[]:=by
   rcases k1 with ⟨_,z,_⟩ | ⟨_,_,x,_,rfl⟩ | ⟨_,_,rfl⟩ | ⟨z,_⟩
   .lia
   .simp
   .simp
   .lia
  simp[this]
 have l1:o1.getLast n1=a:=by
  rw[<- la,w6 n1]
 refine⟨by simp[n1],?_⟩;have l2:(o1++o2).getLast (by simp[n1])=(a::o2).getLast (by simp):=by
  cases o2 with
  | nil=>simp[l1]
  | cons b r=>
   rw[wX _ (by simp)];exact(w6 (a:=a) (l:=b::r) (by simp)).symm
 rw[l2];refine Ch.app.mpr ⟨v1,?_⟩;rw[la];exact w1
theorem Cut.join {c:Int}:∀{a:P}{l r o1 o2:List P},Cut u c a l o1->Cut u c ((a::l).getLast (wC _ _)) r o2->Cut u c a (l++r) (o1++o2)
 | a,[],r,o1,o2,h,k=>by
  have h':o1=[]:=h;subst h';exact k
 | a,b::l,r,o1,o2,h,k=>by
  k_go;exact⟨ps,o++o2,h1,Cut.join h2 k,by simp⟩
def Pc.has {u a b:P}{c:Int}{ps:List P}(h:Pc u c a b ps)(hb:Qb b u<=c):b∈ps:=by
 rcases h with ⟨_,z,_⟩ | ⟨_,_,x,_,rfl⟩ | ⟨_,_,rfl⟩ | ⟨z,_⟩
 .omega
 .simp
 .simp
 .omega
def Cut.turn {c:Int}{l out:List P}(hl:l≠[])(h:Cut u c (l.getLast hl) l out)(hR:Ch R (l.getLast hl) l)(ha:a∈l):∃l2 out2,Ch R a l2/\Cut u c a l2 out2/\(∀x,x∈l2↔x∈l)/\∀x,x∈out2↔x∈out:=by
 obtain⟨pre,post,rfl⟩:=jJ ha;have e0:pre++a::post=(pre++[a])++post:=by simp
 have hlast:(pre++a::post).getLast hl=(a::post).getLast (wC _ _):=by rw[wX]
 rw[hlast,e0] at h hR;obtain⟨o1,o2,c1,c2,rfl⟩:=Cut.app h;obtain⟨r1,r2⟩:=Ch.app.mp hR;have mid:((a::post).getLast (wC _ _)::(pre++[a])).getLast (wC _ _)=a:=by
  rw[w6 (by simp),wX _ (by simp)]
  rfl
 rw[mid] at c2 r2;refine⟨post++(pre++[a]),o2++o1,Ch.app.mpr ⟨r2,r1⟩,Cut.join c2 c1,λx =>?_,λx =>?_⟩
 .simp only[wG,ww,vn,jc]
  constructor <;> (intro z;rcases z with z | z | z <;> simp[z])
 .simp only[wG];exact or_comm
theorem Cut.io {c:Int}:∀{a:P}{l out:List P},Qb a u<=c->Ch (Ed K) a l->Cut u c a l out->(∃b∈l,c<Qb b u)->∃a' b' q,Ed K a' b'/\Qb a' u<=c/\c<Qb b' u/\(q=a\/q∈out)/\Qb q u=c/\Qc a' b' q=0
 | a,[],out,_,_,_,⟨b,hb,_⟩=>by simp at hb
 | a,b::r,out,ha,hE,h,⟨b',hb',ho⟩=>by
  k_go
  rcases vH c (Qb b u) with z | z
  .rcases vH (Qb a u) c with y | y
   .rcases h1 with ⟨_,_,x,hx,rfl⟩ | ⟨w,_⟩ | ⟨w,_⟩ | ⟨_,w,_⟩
    .exact⟨a,b,x,hE.1,ha,z,.inr (by simp),hx.on,hx.line⟩
    .omega
    .omega
    .omega
   .exact⟨a,b,a,hE.1,ha,z,.inl rfl,by omega,by unfold Qc;grind⟩
  .have mb:b'∈r:=by
    rcases ww.mp hb' with w | w
    .subst w;omega
    .exact w
   obtain⟨a',b2,q,q1,q2,q3,q4,q5⟩:=Cut.io z hE.2 h2 ⟨b',mb,ho⟩;refine⟨a',b2,q,q1,q2,q3,.inr ?_,q5⟩
   rcases q4 with rfl | w
   .exact wR _ (h1.has z)
   .exact wF _ w
theorem Cut.oi {c:Int}:∀{a:P}{l out:List P},c<Qb a u->Ch (Ed K) a l->Cut u c a l out->(∃b∈l,Qb b u<=c)->∃a' b' q,Ed K a' b'/\c<Qb a' u/\Qb b' u<=c/\q∈out/\Qb q u=c/\Qc a' b' q=0
 | a,[],out,_,_,_,⟨b,hb,_⟩=>by simp at hb
 | a,b::r,out,ha,hE,h,⟨b',hb',ho⟩=>by
  k_go
  rcases vH c (Qb b u) with z | z
  .have mb:b'∈r:=by
    rcases ww.mp hb' with w | w
    .subst w;omega
    .exact w
   obtain⟨a',b2,q,q1,q2,q3,q4,q5⟩:=Cut.oi z hE.2 h2 ⟨b',mb,ho⟩;exact⟨a',b2,q,q1,q2,q3,wF _ q4,q5⟩
  .rcases vH (Qb b u) c with y | y
   .rcases h1 with ⟨_,w,_⟩ | ⟨_,_,x,hx,rfl⟩ | ⟨_,w,_⟩ | ⟨w,_⟩
    .omega
    .exact⟨a,b,x,hE.1,ha,z,by simp,hx.on,hx.line⟩
    .exact absurd ⟨ha,y⟩ w
    .omega
   .exact⟨a,b,b,hE.1,ha,z,wR _ (h1.has z),by omega,by unfold Qc;grind⟩
theorem Cut.own {u:P}{c:Int}:∀{a:P}{l out:List P},Cut u c a l out->∀d∈l,Qb d u<=c->d∈out
 | a,[],out,h,d,hd,_=>by simp at hd
 | a,b::r,out,h,d,hd,hc=>by
  k_go
  rcases ww.mp hd with rfl | w
  .exact wR _ (h1.has hc)
  .exact wF _ (Cut.own h2 d w hc)
theorem Cut.far {h l out:List P}{c:Int}(X:z04 (· ∈ l) h)(hl:l≠[])(R:Ch (Ed (In h)) (l.getLast hl) l)(C:Cut u c (l.getLast hl) l out)(hp:In h p)(gp:Qb p u<=c)(w:P):∃d∈out,Qb p w<=Qb d w:=by
 obtain⟨d,hd,dw⟩:=X.far hp w;have dl:=X.sub d hd
 rcases vH c (Qb d u) with o | i
 .obtain⟨e,he,eu⟩:=X.far hp (-u.1,-u.2);rw[z84,z84] at eu;have e0:Qb e u<=c:=by omega
  have el:=X.sub e he;obtain⟨l2,out2,R2,C2,m2,n2⟩:=C.turn hl R el;obtain⟨a1,b1,q1,E1,i1,o1,w1,s1,t1⟩:=Cut.io e0 R2 C2 ⟨d,(m2 d).mpr dl,o⟩;have w1':q1∈out:=by
   rcases w1 with rfl | z
   .exact C.own q1 el e0
   .exact(n2 q1).mp z
  obtain⟨l3,out3,R3,C3,m3,n3⟩:=C.turn hl R dl;obtain⟨a2,b2,q2,E2,o2,i2,w2,s2,t2⟩:=Cut.oi o R3 C3 ⟨e,(m3 e).mpr el,e0⟩;have dI:In h d:=X.in dl
  rcases zd6 gp o dw i1 o1 s1 t1 i2 o2 s2 t2 (E1 p hp) (E1 d dI) (E2 p hp) (E2 d dI) with z | z
  .exact⟨q1,w1',z⟩
  .exact⟨q2,(n3 q2).mp w2,z⟩
 .exact⟨d,C.own d dl i,dw⟩
theorem Cut.sub {h l:List P}{S:P->Prop}{u:P}{c:Int}(X:z04 S h):∀{a:P}{l out:List P},In h a->(∀b∈l,In h b)->Cut u c a l out->∀p∈out,In h p/\Qb p u<=c
 | a,[],out,_,_,hc,p,hp=>by
  have hc':out=[]:=hc;subst hc';simp at hp
 | a,b::r,out,ha,hb,hc,p,hp=>by
  obtain⟨ps,o,h1,h2,rfl⟩:=hc;have bI:=hb b (by simp)
  rcases wG.mp hp with z | z
  .have sg:∀{x},Sg u c a b x->In h x/\Qb x u<=c:=λ{x} hx=>by
    obtain⟨on,i,j,k1,k2,e1,e2⟩:=hx;exact⟨In.between X ha bI (vf k1) (vf k2) (by omega) e1 e2,Int.le_of_eq on⟩
   rcases h1 with ⟨_,_,x,hx,rfl⟩ | ⟨_,y,x,hx,rfl⟩ | ⟨y,_,rfl⟩ | ⟨_,_,rfl⟩
   .rw[wq.mp z];exact sg hx
   .simp only[ww,vn,jc] at z
    rcases z with rfl | rfl
    .exact sg hx
    .exact⟨bI,by omega⟩
   .rw[wq.mp z];exact⟨bI,y⟩
   .simp at z
  .exact Cut.sub X (l:=r) bI (λb' hb'=>hb b' (wm _ hb')) h2 p z
end Geo
namespace Pu
open PySem L2 Mth
def InA (C:List T3)(p:T3):Prop:=∀w:Int × Int,∃c∈C,Nf w p c
def z35 {p c:T3}(hp:Dv M p)(hc:Dv M c):Nf w p c↔Qb (Geo.up M p) w<=Qb (Geo.up M c) w:=by
 have t:=tops (x:=ss w p) (y:=ss w c) hp.pos hc.pos hp.dvd hc.dvd hp.m;have e:∀q:T3,Qb (Geo.up M q) w=ss w q*(M / q.2.2):=λq=>by unfold Qb Geo.up ss;grind
 rw[e,e];unfold Nf;lia
theorem z7A:∀l:List Geo.P,∃rl:List Geo.P,rl.Pairwise Lx/\∀p,p∈rl↔p∈l
 | []=>⟨[],.nil,by simp⟩
 | a::l=>by
  obtain⟨rl,pw,hm⟩:=z7A l
  by_cases ha:a∈rl
  .refine⟨rl,pw,λp =>?_⟩;rw[hm,ww]
   w_up
   .exact .inr
   .rintro(rfl | z)
    .exact(hm p).mp ha
    .exact z
  .refine⟨rl.filter (λp=>decide (Lx p a))++a::rl.filter (λp=>decide (Lx a p)),?_,λp =>?_⟩
   .refine v3.mpr ⟨pw.filter _,vh.mpr ⟨λp hp=>ur (jl.mp hp).2,pw.filter _⟩,λp hp q hq =>?_⟩;have h1:Lx p a:=ur (jl.mp hp).2
    rcases ww.mp hq with rfl | hq
    .exact h1
    .exact h1.tr (ur (jl.mp hq).2)
   .rw[wG,ww,jl,jl,ww,hm]
    w_up
    .rintro(z | z | z)
     .exact .inr z.1
     .exact .inl z
     .exact .inr z.1
    .rintro(z | z)
     .exact .inr (.inl z)
     .rcases Lx.tri p a with y | y | y
      .exact .inl ⟨z,vC y⟩
      .exact .inr (.inl y)
      .exact .inr (.inr ⟨z,vC y⟩)
def zfm (ne:l≠[]):∃h,z04 (· ∈ l) h:=by
 obtain⟨rl,pw,hm⟩:=z7A l;exact⟨_,Hd.is ⟨rl,pw,hm,rfl⟩ ne⟩
def z5p (X:z04 (· ∈ C.map (Geo.up M)) h)(hC:∀t∈C,Dv M t)(hp:Dv M p):In h (Geo.up M p)↔InA C p:=by
 w_up
 .intro z w;obtain⟨c,hc,cw⟩:=X.far z w;obtain⟨t,ht,rfl⟩:=wv.mp (X.sub c hc);exact⟨t,ht,(z35 hp (hC t ht)).mpr cw⟩
 .intro z;refine In.at_far X λw =>?_;obtain⟨t,ht,tw⟩:=z w;obtain⟨c,hc,cw⟩:=X.far (X.in (vd (f:=Geo.up M) ht)) w;exact⟨c,hc,Int.le_trans ((z35 hp (hC t ht)).mp tw) cw⟩
def zjB (X:z04 S h)(k:∀r∈h,0<=Qc a b r):Ed (In h) a b:=λr hr=>by
 obtain⟨c,hc,cw⟩:=X.far hr (b.2 - a.2,a.1 - b.1);have:=k c hc;unfold Qb at cw;unfold Qc at this ⊢
 grind
def WC (C:List T3):Prop:=∃h:C≠[],Ch (λa b=>∀r∈C,0<=cr3 a b r) (C.getLast h) C
def Pc3 (b m:Int × Int)(a c:T3)(ps:List T3):Prop:=
 (bey b m a<0/\0<bey b m c/\∃t,Xng b m a c t/\ps=[t])\/(0<bey b m a/\bey b m c<0/\∃t,Xng b m c a t/\ps=[t,c])\/(bey b m c<=0/\¬ (0<bey b m a/\bey b m c<0)/\ps=[c])\/(0<bey b m c/\0<=bey b m a/\ps=[])
def Cut3 (b m:Int × Int):T3->List T3->List T3->Prop
 | _,[],out=>out=[]
 | a,c::r,out=>∃ps o,Pc3 b m a c ps/\Cut3 b m c r o/\out=ps++o
def Xng.sg {a c t:T3}(ha:Dv M a)(hc:Dv M c)(ht:Dv M t)(h1:bey b m a<0)(h2:0<bey b m c)(h:Xng b m a c t):Sg (uB b m) (m.1*M) (Geo.up M a) (Geo.up M c) (Geo.up M t):=by
 refine⟨(h.mid ha hc ht h1 h2).on,a.2.2*bey b m c,c.2.2 * -bey b m a,wP ha.pos h2,wP hc.pos (by lia),?_,?_⟩
 .have e1:=h.cx;obtain⟨_,fa⟩:=ha.k;obtain⟨_,fc⟩:=hc.k;obtain⟨_,ft⟩:=ht.k;unfold Geo.up;k_in;generalize bey b m a=α at*;generalize bey b m c=β at*;generalize M / a.2.2=i at*;generalize M / c.2.2=j at*;generalize M / t.2.2=k at*;have:t.1*k*(a.2.2*β+c.2.2 * -α)=t.1*(a.2.2*β - c.2.2*α)*k:=by grind
  rw[this,e1]
  grind
 .have e2:=h.cy;obtain⟨_,fa⟩:=ha.k;obtain⟨_,fc⟩:=hc.k;obtain⟨_,ft⟩:=ht.k;unfold Geo.up;k_in;generalize bey b m a=α at*;generalize bey b m c=β at*;generalize M / a.2.2=i at*;generalize M / c.2.2=j at*;generalize M / t.2.2=k at*;have:t.2.1*k*(a.2.2*β+c.2.2 * -α)=t.2.1*(a.2.2*β - c.2.2*α)*k:=by grind
  rw[this,e2]
  grind
theorem Pc3.up {M:Int}{b m:Int × Int}{a c:T3}{ps:List T3}(h:Pc3 b m a c ps)(ha:Dv M a)(hc:Dv M c)(hp:∀t∈ps,Dv M t):Pc (uB b m) (m.1*M) (Geo.up M a) (Geo.up M c) (ps.map (Geo.up M)):=by
 have sa:=z7o (b:=b) (m:=m) ha;have sc:=z7o (b:=b) (m:=m) hc
 rcases h with ⟨h1,h2,t,ht,rfl⟩ | ⟨h1,h2,t,ht,rfl⟩ | ⟨h1,h2,rfl⟩ | ⟨h1,h2,rfl⟩
 .exact .inl ⟨sa.2.mpr h1,by lia,_,ht.sg ha hc (hp t (by simp)) h1 h2,rfl⟩
 .exact .inr (.inl ⟨by lia,sc.2.mpr h2,_,(ht.sg hc ha (hp t (by simp)) h2 h1).swap,rfl⟩)
 .exact .inr (.inr (.inl ⟨sc.1.mpr h1,by lia,rfl⟩))
 .exact .inr (.inr (.inr ⟨by lia,by lia,rfl⟩))
theorem Cut3.up {M:Int}{b m:Int × Int}:∀{a:T3}{l out:List T3},Cut3 b m a l out->Dv M a->(∀t∈l,Dv M t)->(∀t∈out,Dv M t)->Cut (uB b m) (m.1*M) (Geo.up M a) (l.map (Geo.up M)) (out.map (Geo.up M))
 | a,[],out,h,_,_,_=>by
  have h':out=[]:=h;subst h'
  rfl
 | a,c::r,out,h,ha,hl,ho=>by
  k_go;exact⟨_,_,h1.up ha (hl c (by simp)) λt ht=>ho t (wR _ ht),h2.up (hl c (by simp)) (λt ht=>hl t (wm _ ht)) λt ht=>ho t (wF _ ht),by rw[wY]⟩
def z8q (h:C≠[]):(C.map f).getLast (by simpa using h)=f (C.getLast h):=by rw[List.getLast_map]
def Cut3.step {b m:Int × Int}{C C':List T3}(hb:¬ (b.1=0/\b.2=0))(hm:0<m.2)(hC:∀t∈C,0<t.2.2)(hC':∀t∈C',0<t.2.2)(wc:WC C)(ct:Cut3 b m (C.getLast wc.1) C C'):
  (C'=[]\/WC C')/\∀p:T3,0<p.2.2->(InA C' p↔InA C p/\bey b m p<=0):=by
 obtain⟨ne,ch⟩:=wc;have main:∀p:T3,0<p.2.2->∃(M:Int) (h:List Geo.P),(∀t∈C,Dv M t)/\(∀t∈C',Dv M t)/\Dv M p/\z04 (· ∈ C.map (Geo.up M)) h/\Ch (Ed (In h)) ((C.map (Geo.up M)).getLast (by simpa using ne)) (C.map (Geo.up M))/\Cut (uB b m) (m.1*M) ((C.map (Geo.up M)).getLast (by simpa using ne)) (C.map (Geo.up M)) (C'.map (Geo.up M)):=λp hp=>by
  obtain⟨M,_,hM⟩:=z4C (l:=C++(C'++[p])) λt ht=>by
   rcases wG.mp ht with z | z
   .exact hC t z
   .rcases wG.mp z with z | z
    .exact hC' t z
    .rw[wq.mp z];exact hp
  have m1:∀t∈C,Dv M t:=λt ht=>hM t (wR _ ht);have m2:∀t∈C',Dv M t:=λt ht=>hM t (wF _ (wR _ ht));obtain⟨h,X⟩:=zfm (l:=C.map (Geo.up M)) (by simpa using ne);have lm:=z8q (f:=Geo.up M) ne;have ml:=m1 _ (u8 ne);refine⟨M,h,m1,m2,hM p (by simp),X,?_,?_⟩
  .rw[lm];refine Ch.map.mpr (Ch.mem (λx y hx hy k =>?_) ch);have mx:Dv M x:=by
    rcases hx with rfl | hx
    .exact ml
    .exact m1 x hx
   refine zjB X λr hr =>?_;obtain⟨t,ht,rfl⟩:=wv.mp (X.sub r hr);exact(zbi mx (m1 y hy) (m1 t ht)).mp (k t ht)
  .rw[lm];exact ct.up ml m1 m2
 have uu:0<(uB b m).1*(uB b m).1+(uB b m).2*(uB b m).2:=sqp λz=>hb ⟨by
  rcases wK.mp z.1 with y | y
  .exact y
  .lia,by
  rcases wK.mp z.2 with y | y
  .exact y
  .lia⟩
 refine⟨?_,λp hp =>?_⟩
 .by_cases e:C'=[]
  .exact .inl e
  .right
   obtain⟨M,h,m1,m2,_,X,R,K⟩:=main (0,0,1) (by decide);have sub:=Cut.sub (l:=[]) X (X.in (u8 (by simpa using ne))) (λq hq=>X.in hq) K;have hi:∃a∈C.map (Geo.up M),Qb a (uB b m)<=m.1*M:=by
    obtain⟨t,ht⟩:=j3 _ e;obtain⟨z1,z2⟩:=sub _ (vd ht);obtain⟨c,hc,cw⟩:=X.far z1 (-(uB b m).1,-(uB b m).2);rw[z84,z84] at cw;exact⟨c,X.sub c hc,by lia⟩
   obtain⟨ne',R'⟩:=Cut.round uu (by simpa using ne) K (λq hq=>(sub q hq).1) R hi;refine⟨e,?_⟩;rw[z8q e] at R';have ml:=m2 _ (u8 e);refine Ch.mem (λx y hx hy k r hr =>?_) (Ch.map.mp R');have mx:Dv M x:=by
    rcases hx with rfl | hx
    .exact ml
    .exact m2 x hx
   exact(zbi mx (m2 y hy) (m2 r hr)).mpr (k _ (sub _ (vd hr)))
 .obtain⟨M,h,m1,m2,mp,X,R,K⟩:=main p hp;have sub:=Cut.sub (l:=[]) X (X.in (u8 (by simpa using ne))) (λq hq=>X.in hq) K;have sp:=z7o (b:=b) (m:=m) mp
  w_up
  .intro z;refine⟨(z5p X m1 mp).mp (In.at_far X λw =>?_),sp.1.mp ?_⟩
   .obtain⟨c,hc,cw⟩:=z w;obtain⟨d,hd,dw⟩:=X.far (sub _ (vd hc)).1 w;exact⟨d,hd,Int.le_trans ((z35 mp (m2 c hc)).mp cw) dw⟩
   .obtain⟨c,hc,cw⟩:=z (uB b m);exact Int.le_trans ((z35 mp (m2 c hc)).mp cw) (sub _ (vd hc)).2
  .rintro⟨z1,z2⟩ w;obtain⟨d,hd,dw⟩:=Cut.far X (by simpa using ne) R K ((z5p X m1 mp).mpr z1) (sp.1.mpr z2) w;obtain⟨t,ht,rfl⟩:=wv.mp hd;exact⟨t,ht,(z35 mp (m2 t ht)).mpr dw⟩
end Pu
namespace Geo
section
variable {α:Type}{Pc:α->α->List α->Prop}{R R':α->α->Prop}{inn Ex:α->Prop}
def CutG (Pc:α->α->List α->Prop):α->List α->List α->Prop
 | _,[],out=>out=[]
 | a,c::r,out=>∃ps o,Pc a c ps/\CutG Pc c r o/\out=ps++o
def TlG (inn Ex:α->Prop)(a e:α):Prop:=(inn a/\e=a)\/(¬ inn a/\Ex e)
structure StG (Pc:α->α->List α->Prop)(R R':α->α->Prop)(inn Ex:α->Prop):Prop where
 step:∀a c ps e,Pc a c ps->R a c->TlG inn Ex a e->Ch R' e ps/\TlG inn Ex c ((e::ps).getLast (wC _ _))
 has:∀a c ps,Pc a c ps->inn c->ps≠[]
def z73:((a::(l++r)).getLast (wC _ _))=(((a::l).getLast (wC _ _))::r).getLast (wC _ _):=by
 cases r with
 | nil=>simp
 | cons b r=>
  rw[w6 (by simp),wX _ (by simp)];exact(w6 (l:=b::r) (by simp)).symm
theorem CutG.chain (st:StG Pc R R' inn Ex):∀{a e:α}{l out:List α},CutG Pc a l out->TlG inn Ex a e->Ch R a l->Ch R' e out/\TlG inn Ex ((a::l).getLast (wC _ _)) ((e::out).getLast (wC _ _))
 | a,e,[],out,h,t,_=>by
  have h':out=[]:=h;subst h';exact⟨trivial,t⟩
 | a,e,b::r,out,h,t,hE=>by
  k_go;obtain⟨s1,s2⟩:=st.step a b ps e h1 hE.1 t;obtain⟨w1,w2⟩:=CutG.chain st h2 s2 hE.2;refine⟨Ch.app.mpr ⟨s1,w1⟩,?_⟩;rw[z73];exact w2
theorem CutG.app:∀{a:α}{l r out:List α},CutG Pc a (l++r) out->∃o1 o2,CutG Pc a l o1/\CutG Pc ((a::l).getLast (wC _ _)) r o2/\out=o1++o2
 | a,[],r,out,h=>⟨[],out,rfl,h,rfl⟩
 | a,b::l,r,out,h=>by
  k_go;obtain⟨o1,o2,k1,k2,rfl⟩:=CutG.app (l:=l) h2;exact⟨ps++o1,o2,⟨ps,o1,h1,k1,rfl⟩,k2,by simp⟩
def CutG.round (st:StG Pc R R' inn Ex){l out:List α}(hl:l≠[])(h:CutG Pc (l.getLast hl) l out)(hR:Ch R (l.getLast hl) l)(hi:∃a∈l,inn a):∃ho:out≠[],Ch R' (out.getLast ho) out:=by
 obtain⟨a,ha,hac⟩:=hi;obtain⟨pre,post,rfl⟩:=jJ ha;have e0:pre++a::post=(pre++[a])++post:=by simp
 have hlast:(pre++a::post).getLast hl=(a::post).getLast (wC _ _):=by rw[wX]
 rw[hlast,e0] at h hR;obtain⟨o1,o2,c1,c2,rfl⟩:=CutG.app h;obtain⟨r1,r2⟩:=Ch.app.mp hR;have mid:((a::post).getLast (wC _ _)::(pre++[a])).getLast (wC _ _)=a:=by
  rw[w6 (by simp),wX _ (by simp)]
  rfl
 rw[mid] at c2 r2;obtain⟨w1,w2⟩:=CutG.chain st c2 (.inl ⟨hac,rfl⟩) r2;obtain⟨v1,v2⟩:=CutG.chain st c1 w2 r1;rw[mid] at v2;have la:(((a::o2).getLast (wC _ _))::o1).getLast (wC _ _)=a:=by
  rcases v2 with ⟨_,e⟩ | ⟨z,_⟩
  .exact e
  .exact absurd hac z
 have n1:o1≠[]:=by
  obtain⟨p1,p2,q1,q2,rfl⟩:=CutG.app c1;obtain⟨ps,o,k1,k2,rfl⟩:=q2;simp[st.has _ _ _ k1 hac]
 have l1:o1.getLast n1=a:=by rw[<- la,w6 n1]
 refine⟨by simp[n1],?_⟩;have l2:(o1++o2).getLast (by simp[n1])=(a::o2).getLast (wC _ _):=by
  cases o2 with
  | nil=>simp[l1]
  | cons b r=>
   rw[wX _ (by simp)];exact(w6 (a:=a) (l:=b::r) (by simp)).symm
 rw[l2];refine Ch.app.mpr ⟨v1,?_⟩;rw[la];exact w1
end
structure Ln where
 x:Int
 y:Int
 z:Int
def Ln.on (L:Ln)(t:T3):Prop:=L.x*t.1+L.y*t.2.1=L.z*t.2.2
def zhl {L N:Ln}(lo:Lo t)(h1:L.on t)(h2:N.on t)(d:L.x*N.y - L.y*N.x≠0):t.2.2.natAbs<=(L.x*N.y - L.y*N.x).natAbs/\t.1.natAbs<=(L.z*N.y - L.y*N.z).natAbs/\t.2.1.natAbs<=(L.x*N.z - L.z*N.x).natAbs:=by
 unfold Ln.on at h1 h2;have e1:t.1*(L.x*N.y - L.y*N.x)=(L.z*N.y - L.y*N.z)*t.2.2:=by grind
 have e2:t.2.1*(L.x*N.y - L.y*N.x)=(L.x*N.z - L.z*N.x)*t.2.2:=by grind
 generalize L.x*N.y - L.y*N.x=D at*;generalize L.z*N.y - L.y*N.z=A at*;generalize L.x*N.z - L.z*N.x=B at*;obtain⟨w0,g⟩:=lo;have dv:t.2.2 ∣ D:=by
  have a1:t.2.2 ∣ D*t.1:=⟨A,by grind⟩
  have a2:t.2.2 ∣ D*t.2.1:=⟨B,by grind⟩
  have n1:t.2.2.natAbs ∣ D.natAbs*t.1.natAbs:=by rw[<- vz];exact uJ.mpr a1
  have n2:t.2.2.natAbs ∣ D.natAbs*t.2.1.natAbs:=by rw[<- vz];exact uJ.mpr a2
  have n3:t.2.2.natAbs ∣ D.natAbs*t.2.2.natAbs:=⟨D.natAbs,Nat.mul_comm _ _⟩
  have g':Nat.gcd (Nat.gcd t.1.natAbs t.2.1.natAbs) t.2.2.natAbs=1:=g;have k:t.2.2.natAbs ∣ D.natAbs*Nat.gcd (Nat.gcd t.1.natAbs t.2.1.natAbs) t.2.2.natAbs:=by
   rw[<- Nat.gcd_mul_left, <- Nat.gcd_mul_left];exact Nat.dvd_gcd (Nat.dvd_gcd n1 n2) n3
  rw[g',Nat.mul_one] at k;exact uJ.mp k
 obtain⟨q,rfl⟩:=dv;have q0:q≠0:=λz=>d (by rw[z];simp);have f1:t.1*q=A:=j1 (show t.2.2≠0 by lia) (by grind);have f2:t.2.1*q=B:=j1 (show t.2.2≠0 by lia) (by grind);have qp:0<q.natAbs:=Int.natAbs_pos.mpr q0;refine⟨?_,?_,?_⟩
 .rw[vz];exact uT _ qp
 .rw[<- f1,vz];exact uT _ qp
 .rw[<- f2,vz];exact uT _ qp
end Geo
namespace Pu
open PySem L2 Mth
structure Py (t:T3):Prop where
 lo:Lo t
 bx:Bt 1804 t.1
 bY:Bt 1804 t.2.1
 bw:Bt 1603 t.2.2
def Py.tz {t:T3}(h:Py t):Tz t:=⟨h.bx.le,h.bY.le,h.bw.le⟩
structure Sd (b m:Int × Int):Prop where
 b1:Bt 601 b.1
 b2:Bt 601 b.2
 pos:0<m.2
 m1:Bt 1002 m.1
 m2:Bt 200 m.2
def zbr (h:Sd b m)(ht:Py t):Bt 2607 (bey b m t):=
 (Bt.sub (Bt.mul (Bt.add (Bt.mul h.b1 ht.bx) (Bt.mul h.b2 ht.bY)) h.m2) (Bt.mul h.m1 ht.bw)).le
def zdr (h:Sd b m)(ht:Py t)(q:Q (.int (bey b m t))):z1s.run [pl3 t,vec b,vec m] Q X:=by
 have h1:=h.b1;have h2:=h.b2;have t1:=ht.bx;have t2:=ht.bY;have t3:=ht.bw;have m1:=h.m1;have m2:=h.m2;have s0:Bt 2406 (b.1*t.1+b.2*t.2.1):=(Bt.add (Bt.mul h1 t1) (Bt.mul h2 t2)).le;show z1s.run [.tup [.int t.1,.int t.2.1,.int t.2.2],.tup [.int b.1,.int b.2],.tup [.int m.1,.int m.2]] Q X;walk_at "fn";ac_nf;show z4f.run _ _ _;walk_at "fn";ac_nf;exact q
def z86 {a c:T3}(h:Sd b m)(ha:Py a)(hc:Py c)(h1:bey b m a<0)(h2:0<bey b m c)(q:∀t,Xng b m a c t->Q (pl3 t)):z11.run [pl3 a,.int (bey b m a),pl3 c,.int (bey b m c)] Q X:=by
 have e1:=zbr h ha;have e2:=zbr h hc;have p0:=z5s ha.lo.1 hc.lo.1 h1 h2;have a1:=ha.bx;have a2:=ha.bY;have a3:=ha.bw;have c1:=hc.bx;have c2:=hc.bY;have c3:=hc.bw;have b0:Bt 4211 (a.2.2*bey b m c - c.2.2*bey b m a):=(Bt.sub (Bt.mul a3 e2) (Bt.mul c3 e1)).le;have q':∀t,Lw (a.1*bey b m c - c.1*bey b m a) (a.2.1*bey b m c - c.2.1*bey b m a) (a.2.2*bey b m c - c.2.2*bey b m a) t->Q (pl3 t):=q;generalize bey b m a=α at*;generalize bey b m c=β at*;show z11.run [.tup [.int a.1,.int a.2.1,.int a.2.2],.int α,.tup [.int c.1,.int c.2.1,.int c.2.2],.int β] Q X;walk_at "fn";ac_nf;exact zg0 p0 b0.le q'
theorem Cut3.join:∀{a:T3}{l r o1 o2:List T3},Cut3 b m a l o1->Cut3 b m ((a::l).getLast (wC _ _)) r o2->Cut3 b m a (l++r) (o1++o2)
 | a,[],r,o1,o2,h,k=>by
  have h':o1=[]:=h;subst h';exact k
 | a,c::l,r,o1,o2,h,k=>by
  k_go;exact⟨ps,o++o2,h1,Cut3.join h2 k,by simp⟩
def z8I (ne:h≠[]){k:Nat}(hk:k<h.length):h[(k+h.length - 1) % h.length]? = some ((h.getLast ne::h.take k).getLast (wC _ _)):=by
 cases k with
 | zero=>
  rw[je,wQ (by lia)];simp[jA]
 | succ k=>
  rw[show k+1+h.length - 1=k+h.length by lia,vS,wQ (by lia)];have:h.take (k+1)≠[]:=by
   intro z;have:=congrArg List.length z;rw[vO,v7] at this;lia
  rw[w6 this,jA,wp (by lia)];simp only[vO,List.getElem_take]
  congr 2
  lia
def zg3 (hd:d=pls3 h\/d = .lst (h.map pl3))(sd:Sd b m)(hp:∀t∈h,Py t)(hz:h.length<=1000)(q:∀left,(h=[]->left=[])->(∀ne:h≠[],Cut3 b m (h.getLast ne) h left)->left.length<=2*h.length->Q (.lst (left.map pl3))):z2i.run [d,vec b,vec m] Q X:=by
 have eat:∀{k:Int}{t:T3}{Q:DK}{X:XP},atI h k=some t->Q (pl3 t)->pIx.run [d,.int k] Q X:=λ{k t Q X} e qq=>by
  rcases hd with rfl | rfl
  .exact zhB (z1f (z0w e) qq)
  .exact zhC (z1f (z0w e) qq)
 have eln:∀{Q:DK}{X:XP},Q (.int (h.length:Int))->pLen.run [d] Q X:=λ{Q X} qq=>by
  rcases hd with rfl | rfl
  .exact zdF (by rw[wg];exact qq)
  .exact zdG (by rw[wg];exact qq)
 walk_at "fn";ac_nf;refine⟨λx hx=>by simp at hx,?_⟩;ac_rfl;ac_nf;refine eln ?_;ac_nf;refine z5g (by lia) (by lia) ?_;rw[show ((h.length:Nat):Int).toNat=h.length by simp];refine z0u (f:=λ(j:Nat)=>D.int (j:Int)) (λdn ρ=>∃(left:List T3) (x4 x5 x6 x7 x8:B),ρ=[.s d,.s (vec b),.s (vec m),.o (.lst (left.map pl3)),x4,x5,x6,x7,x8]/\left.length<=2*dn.length/\∀ne:h≠[],Cut3 b m (h.getLast ne) (h.take dn.length) left)
  ⟨[],_,_,_,_,_,rfl,by simp,λne=>by simp[Cut3]⟩ ?_ ?_
 .rintro dn k r ρ e ⟨left,x4,x5,x6,x7,x8,rfl,ll,la⟩;have hk:k<h.length:=vI.mp (by rw[e];simp);have kd:dn.length=k:=by
   have h1:(List.range h.length)[dn.length]? = some k:=by rw[e];simp
   have h2:dn.length<(List.range h.length).length:=by rw[e];simp
   rw[wp h2] at h1;simpa using h1
  have ne:h≠[]:=λz=>by rw[z] at hk;simp at hk
  have la:=la ne;rw[kd] at la ll;have ea:=z8I ne hk;have ec:=wp hk;have a1:atI h ((k:Int) - 1)=_:=(zdg (j:=1) hk (by lia)).trans ea;have a0:atI h (k:Int)=_:=(z24 hk).trans ec;have ma:=wy ea;have mc:=wy ec;have tk:h.take (k+1)=h.take k++[h[k]]:=by rw[List.take_succ,ec];rfl
  have pa:=hp _ ma;have pc:=hp _ mc;have dl:(dn++[k]).length=k+1:=by simp[kd]
  have fin:∀(ps:List T3),Pc3 b m ((h.getLast ne::h.take k).getLast (wC _ _)) h[k] ps->ps.length<=2->∀l2:List D,l2=left.map pl3++ps.map pl3->∀x4 x5 x6 x7 x8:B,∃(left:List T3) (y4 y5 y6 y7 y8:B),[.s d,.s (vec b),.s (vec m),.o (.lst l2),x4,x5,x6,x7,x8]=[.s d,.s (vec b),.s (vec m),.o (.lst (left.map pl3)),y4,y5,y6,y7,y8]/\left.length<=2*(dn++[k]).length/\∀ne:h≠[],Cut3 b m (h.getLast ne) (h.take (dn++[k]).length) left:=λps hps hl l2 e2 x4 x5 x6 x7 x8=>
   ⟨left++ps,x4,x5,x6,x7,x8,by rw[e2, <- wY],by rw[dl,wL];lia,λne'=>by
    rw[dl,tk];exact Cut3.join la ⟨ps,[],hps,rfl,by simp⟩⟩
  generalize (h.getLast ne::h.take k).getLast (wC _ _)=a at*;generalize h[k]=c at*;l_bnd;ac_rfl;ac_nf;refine eat a1 ?_;refine⟨by walk_at "sf",?_⟩;ac_rfl;ac_nf;refine eat a0 ?_;refine⟨by walk_at "sf",?_⟩;ac_rfl;ac_nf;refine zdr sd pa ?_;refine⟨by walk_at "sf",?_⟩;ac_rfl;ac_nf;refine zdr sd pc ?_;refine⟨by walk_at "sf",?_⟩;ac_rfl;ac_nf;refine z0y (λα0 =>?_) (λα0 =>?_)
  .ac_nf;refine z0y (λβ0 =>?_) (λβ0 =>?_)
   .ac_nf;refine z3p (l:=left.map pl3) (z0x rfl ?_);ac_nf;refine z86 sd pa pc α0 β0 λt ht =>?_;kd_p;ac_rfl;ac_nf;kd_p1;refine t_bl (λw=>absurd w (by decide)) (λ_ =>?_);ac_nf;kd_p1;ac_nf;exact fin [t] (.inl ⟨α0,β0,t,ht,rfl⟩) (by simp) _ rfl _ _ _ _ _
   .ac_nf;kd_p1;refine t_bl (λw=>absurd w (by decide)) (λ_ =>?_);ac_nf;refine z3G (by lia) ?_;refine z3p (l:=left.map pl3) (z0x rfl ?_);ac_nf;kd_p;ac_rfl;exact fin [c] (.inr (.inr (.inl ⟨by lia,by lia,rfl⟩))) (by simp) _ rfl _ _ _ _ _
  .refine t_bl (λw=>absurd w (by decide)) (λ_ =>?_);ac_nf;refine z0y (λα1 =>?_) (λα1 =>?_)
   .ac_nf;refine z0y (λβ0 =>?_) (λβ0 =>?_)
    .refine z3p (l:=left.map pl3) (z0x rfl ?_);ac_nf;refine z86 sd pc pa β0 α1 λt ht =>?_;kd_p;ac_rfl;ac_nf;refine z3G (by lia) ?_;refine z3p (l:=left.map pl3++[pl3 t]) (z0x rfl ?_);ac_nf;refine⟨by simp;exact szl' (by lia),Safe.of_noL rfl rfl _,?_⟩;ac_rfl;exact fin [t,c] (.inr (.inl ⟨α1,β0,t,ht,rfl⟩)) (by simp) _ (by simp) _ _ _ _ _
    .ac_nf;refine z0y (λβ1 =>?_) (λβ1 =>?_)
     .refine z3p (l:=left.map pl3) (z0x rfl ?_);ac_nf;kd_p;ac_rfl;exact fin [c] (.inr (.inr (.inl ⟨by lia,by lia,rfl⟩))) (by simp) _ rfl _ _ _ _ _
     .ac_nf;exact fin [] (.inr (.inr (.inr ⟨by lia,by lia,rfl⟩))) (by simp) _ (by simp) _ _ _ _ _
   .refine t_bl (λw=>absurd w (by decide)) (λ_ =>?_);ac_nf;refine z0y (λβ1 =>?_) (λβ1 =>?_)
    .refine z3p (l:=left.map pl3) (z0x rfl ?_);ac_nf;kd_p;ac_rfl;exact fin [c] (.inr (.inr (.inl ⟨by lia,by lia,rfl⟩))) (by simp) _ rfl _ _ _ _ _
    .ac_nf;exact fin [] (.inr (.inr (.inr ⟨by lia,by lia,rfl⟩))) (by simp) _ (by simp) _ _ _ _ _
 .rintro ρ ⟨left,x4,x5,x6,x7,x8,rfl,ll,la⟩;ac_nf;rw[jT] at ll la;refine q left (λz =>?_) (λne =>?_) ll
  .rw[z] at ll;exact ue.mp (by simpa using ll)
  .have:=la ne;rw[List.take_length] at this;exact this
structure LB (L:Geo.Ln):Prop where
 bx:Bt 801 L.x
 bY:Bt 801 L.y
 bz:Bt 1002 L.z
 ne:¬ (L.x=0/\L.y=0)
def OnL (a c:T3):Prop:=∃L:Geo.Ln,LB L/\L.on a/\L.on c
def OnL.swap {a c:T3}(h:OnL a c):OnL c a:=let ⟨L,h1,h2,h3⟩:=h;⟨L,h1,h3,h2⟩
def lnOf (b m:Int × Int):Geo.Ln:=⟨b.1*m.2,b.2*m.2,m.1⟩
def z6Q:(lnOf b m).on t↔bey b m t=0:=by
 unfold Geo.Ln.on lnOf bey ss;k_in
 constructor <;> (intro h;grind)
def Sd.lb (h:Sd b m)(hb:¬ (b.1=0/\b.2=0)):LB (lnOf b m):=⟨(Bt.mul h.b1 h.m2).le,(Bt.mul h.b2 h.m2).le,h.m1,λz=>hb ⟨by
 rcases wK.mp z.1 with y | y
 .exact y
 .have:=h.pos;lia,by
 rcases wK.mp z.2 with y | y
 .exact y
 .have:=h.pos;lia⟩⟩
def Xng.onl {a c t:T3}{L:Geo.Ln}(p0:0<a.2.2*bey b m c - c.2.2*bey b m a)(h:Xng b m a c t)(ha:L.on a)(hc:L.on c):L.on t:=by
 have e1:=h.cx;have e2:=h.cy;unfold Geo.Ln.on at*;generalize bey b m a=α at*;generalize bey b m c=β at*;refine uf (show a.2.2*β - c.2.2*α≠0 by lia) ?_;rw[show (L.x*t.1+L.y*t.2.1)*(a.2.2*β - c.2.2*α)=L.x*(t.1*(a.2.2*β - c.2.2*α))+L.y*(t.2.1*(a.2.2*β - c.2.2*α)) by grind,e1,e2]
 grind
def Xng.py {b m:Int × Int}{a c t:T3}(sd:Sd b m)(hb:¬ (b.1=0/\b.2=0))(wa:0<a.2.2)(wc:0<c.2.2)(h1:bey b m a<0)(h2:0<bey b m c)(h:Xng b m a c t)(o:OnL a c):Py t:=by
 have p0:=z5s wa wc h1 h2;obtain⟨L,lb,la,lc⟩:=o;have N:=sd.lb hb;have l1:=h.onl p0 la lc;have l2:=z6Q.mpr (h.bey0 p0);have d:L.x*(lnOf b m).y - L.y*(lnOf b m).x≠0:=λz=>by
  have z':m.2*(L.x*b.2 - L.y*b.1)=0:=by
   have:L.x*(b.2*m.2) - L.y*(b.1*m.2)=0:=z
   grind
  have z2:L.x*b.2=L.y*b.1:=by
   rcases wK.mp z' with y | y
   .have:=sd.pos;lia
   .lia
  unfold Geo.Ln.on at la lc;have dd:L.x*(a.1*c.2.2 - c.1*a.2.2)+L.y*(a.2.1*c.2.2 - c.2.1*a.2.2)=0:=by grind
  have bd:b.1*(a.1*c.2.2 - c.1*a.2.2)+b.2*(a.2.1*c.2.2 - c.2.1*a.2.2)=0:=by
   generalize a.1*c.2.2 - c.1*a.2.2=dx at*;generalize a.2.1*c.2.2 - c.2.1*a.2.2=dy at*
   by_cases lx:L.x=0
   .have ly:L.y≠0:=λy=>lb.ne ⟨lx,y⟩;have y1:dy=0:=by
     rw[lx] at dd
     rcases wK.mp (show L.y*dy=0 by lia) with y | y
     .exact absurd y ly
     .exact y
    have y2:b.1=0:=by
     rw[lx] at z2
     rcases wK.mp (show L.y*b.1=0 by lia) with y | y
     .exact absurd y ly
     .exact y
    rw[y1,y2];simp
   .rcases wK.mp (show L.x*(b.1*dx+b.2*dy)=0 by grind) with y | y
    .exact absurd y lx
    .exact y
  have e:bey b m a*c.2.2 - bey b m c*a.2.2=m.2*(b.1*(a.1*c.2.2 - c.1*a.2.2)+b.2*(a.2.1*c.2.2 - c.2.1*a.2.2)):=by
   unfold bey ss
   grind
  rw[bd,Int.mul_zero] at e;have k1:=wP wc (show 0 < -bey b m a by lia);have k2:=wP wa h2
  grind
 obtain⟨w,x,y⟩:=zhl h.lo l1 l2 d;refine⟨h.lo,?_,?_,?_⟩
 .have bb:Bt 1804 (L.z*(lnOf b m).y - L.y*(lnOf b m).z):=(Bt.sub (Bt.mul lb.bz N.bY) (Bt.mul lb.bY N.bz)).le;exact bb.of_abs x
 .have bb:Bt 1804 (L.x*(lnOf b m).z - L.z*(lnOf b m).x):=(Bt.sub (Bt.mul lb.bx N.bz) (Bt.mul lb.bz N.bx)).le;exact bb.of_abs y
 .have bb:Bt 1603 (L.x*(lnOf b m).y - L.y*(lnOf b m).x):=(Bt.sub (Bt.mul lb.bx N.bY) (Bt.mul lb.bY N.bx)).le;exact bb.of_abs w
theorem z8C:∀{a:T3}{l out:List T3},Cut3 b m a l out->CutG (Pc3 b m) a l out
 | _,[],_,h=>h
 | _,_::_,_,⟨ps,o,h1,h2,e⟩=>⟨ps,o,h1,z8C h2,e⟩
theorem z8B:∀{a:T3}{l out:List T3},Cut3 b m a l out->Ch OnL a l->∀t∈out,t∈l\/∃x y,(x=a\/x∈l)/\(y=a\/y∈l)/\OnL x y/\bey b m x<0/\0<bey b m y/\Xng b m x y t
 | a,[],out,h,_,t,ht=>by
  have h':out=[]:=h;subst h';simp at ht
 | a,c::r,out,h,k,t,ht=>by
  k_go
  rcases wG.mp ht with z | z
  .rcases h1 with ⟨q1,q2,x,hx,rfl⟩ | ⟨q1,q2,x,hx,rfl⟩ | ⟨_,_,rfl⟩ | ⟨_,_,rfl⟩
   .rw[wq.mp z];exact .inr ⟨a,c,.inl rfl,.inr (by simp),k.1,q1,q2,hx⟩
   .simp only[ww,vn,jc] at z
    rcases z with rfl | rfl
    .exact .inr ⟨c,a,.inr (by simp),.inl rfl,k.1.swap,q2,q1,hx⟩
    .exact .inl (by simp)
   .rw[wq.mp z];exact .inl (by simp)
   .simp at z
  .rcases z8B h2 k.2 t z with w | ⟨x,y,h3,h4,h5⟩
   .exact .inl (wm _ w)
   .refine .inr ⟨x,y,.inr ?_,.inr ?_,h5⟩
    .rcases h3 with rfl | h3 <;> simp[*]
    .rcases h4 with rfl | h4 <;> simp[*]
def z8n (sd:Sd b m)(hb:¬ (b.1=0/\b.2=0)):StG (Pc3 b m) (λa c=>OnL a c/\0<a.2.2/\0<c.2.2) OnL (λa=>bey b m a<=0) (λe=>(lnOf b m).on e) where
 step:=λa c ps e h R t=>by
  obtain⟨o,wa,wc⟩:=R;have N:=sd.lb hb
  rcases h with ⟨h1,h2,x,hx,rfl⟩ | ⟨h1,h2,x,hx,rfl⟩ | ⟨h1,h2,rfl⟩ | ⟨h1,h2,rfl⟩
  .have p0:=z5s wa wc h1 h2;obtain⟨L,lb,la,lc⟩:=o
   rcases t with ⟨_,rfl⟩ | ⟨z,_⟩
   .exact⟨⟨⟨L,lb,la,hx.onl p0 la lc⟩,trivial⟩,.inr ⟨by lia,z6Q.mpr (hx.bey0 p0)⟩⟩
   .exact absurd (by lia) z
  .have p0:=z5s wc wa h2 h1;obtain⟨L,lb,la,lc⟩:=o
   rcases t with ⟨z,_⟩ | ⟨_,lv⟩
   .lia
   .exact⟨⟨⟨_,N,lv,z6Q.mpr (hx.bey0 p0)⟩,⟨L,lb,hx.onl p0 lc la,lc⟩,trivial⟩,.inl ⟨by lia,rfl⟩⟩
  .rcases t with ⟨_,rfl⟩ | ⟨z,lv⟩
   .exact⟨⟨o,trivial⟩,.inl ⟨h1,rfl⟩⟩
   .exact⟨⟨⟨_,N,lv,z6Q.mpr (by lia)⟩,trivial⟩,.inl ⟨h1,rfl⟩⟩
  .rcases t with ⟨z,rfl⟩ | ⟨z,lv⟩
   .exact⟨trivial,.inr ⟨by lia,z6Q.mpr (show bey b m e=0 by lia)⟩⟩
   .exact⟨trivial,.inr ⟨by lia,lv⟩⟩
 has:=λa c ps h hc=>by
  rcases h with ⟨_,z,_⟩ | ⟨_,_,x,_,rfl⟩ | ⟨_,_,rfl⟩ | ⟨z,_⟩
  .lia
  .simp
  .simp
  .lia
structure Gd (C:List T3):Prop where
 py:∀t∈C,Py t
 wc:WC C
 ln:Ch OnL (C.getLast wc.1) C
theorem Gd.step {b m:Int × Int}{C C':List T3}(g:Gd C)(sd:Sd b m)(hb:¬ (b.1=0/\b.2=0))(ct:Cut3 b m (C.getLast g.wc.1) C C'):(C'=[]\/Gd C')/\∀p:T3,0<p.2.2->(InA C' p↔InA C p/\bey b m p<=0):=by
 have lastm:=u8 g.wc.1;have py':∀t∈C',Py t:=λt ht=>by
  rcases z8B ct g.ln t ht with z | ⟨x,y,hx,hy,o,h1,h2,h3⟩
  .exact g.py t z
  .have mx:x∈C:=by rcases hx with rfl | hx <;> simp[*]
   have my:y∈C:=by rcases hy with rfl | hy <;> simp[*]
   exact h3.py sd hb (g.py x mx).lo.1 (g.py y my).lo.1 h1 h2 o
 obtain⟨w,i⟩:=Cut3.step hb sd.pos (λt ht=>(g.py t ht).lo.1) (λt ht=>(py' t ht).lo.1) g.wc ct;refine⟨?_,i⟩
 rcases w with w | w
 .exact .inl w
 .right
  have hi:∃a∈C,bey b m a<=0:=by
   refine vm λno=>w.1 ?_;have all:∀t∈C,0<bey b m t:=λt ht=>by
    rcases vH 0 (bey b m t) with z | z
    .exact z
    .exact absurd ⟨t,ht,z⟩ no
   have emp:∀{a:T3}{l out:List T3},0<bey b m a->(∀t∈l,0<bey b m t)->Cut3 b m a l out->out=[]:=λ{a l out}=>by
    intro ha hl h
    induction l generalizing a out with
    | nil=>exact h
    | cons c r ih=>
     k_go;have hc:=hl c (by simp);have e1:=ih hc (λt ht=>hl t (wm _ ht)) h2
     rcases h1 with ⟨z,_⟩ | ⟨_,z,_⟩ | ⟨z,_⟩ | ⟨_,_,rfl⟩
     .lia
     .lia
     .lia
     .rw[e1];rfl
   exact emp (all _ lastm) all ct
  have R0:Ch (λa c=>OnL a c/\0<a.2.2/\0<c.2.2) (C.getLast g.wc.1) C:=Ch.mem (λx y hx hy k=>⟨k,by
   rcases hx with rfl | hx
   .exact(g.py _ lastm).lo.1
   .exact(g.py x hx).lo.1,(g.py y hy).lo.1⟩) g.ln
  obtain⟨_,r⟩:=CutG.round (z8n sd hb) g.wc.1 (z8C ct) R0 hi;exact⟨py',w,r⟩
structure Px (t:T3):Prop where
 lo:Lo t
 bx:Bt 400 t.1
 bY:Bt 400 t.2.1
 bw:Bt 200 t.2.2
def Px.py {t:T3}(h:Px t):Py t:=⟨h.lo,h.bx.le,h.bY.le,h.bw.le⟩
def stl (a c:T3):P:=((Qa a c).1 / (Int.gcd (Qa a c).1 (Qa a c).2:Int),(Qa a c).2 / (Int.gcd (Qa a c).1 (Qa a c).2:Int))
def z4m {a c:T3}(la:Lo a)(lc:Lo c)(ne:a≠c):¬ ((Qa a c).1=0/\(Qa a c).2=0):=λz=>ne (by
 unfold Qa at z;dsimp only at z;exact Lo.eq la lc (by omega) (by omega))
structure Stl (a c:T3)(s:P)(g:Int):Prop where
 g0:0<g
 e1:s.1*g=(Qa a c).1
 e2:s.2*g=(Qa a c).2
 n1:s.1.natAbs<=(Qa a c).1.natAbs
 n2:s.2.natAbs<=(Qa a c).2.natAbs
def z6y {a c:T3}(h:¬ ((Qa a c).1=0/\(Qa a c).2=0)):Stl a c (stl a c) (Int.gcd (Qa a c).1 (Qa a c).2:Int):=by
 have g0:0<Int.gcd (Qa a c).1 (Qa a c).2:=by
  rcases Nat.eq_zero_or_pos (Int.gcd (Qa a c).1 (Qa a c).2) with z | z
  .exact absurd (Int.gcd_eq_zero_iff.mp z) h
  .exact z
 have d1:=uz (a:=(Qa a c).1) (b:=(Qa a c).2);have d2:=uD (a:=(Qa a c).1) (b:=(Qa a c).2);have e1:(stl a c).1*(Int.gcd (Qa a c).1 (Qa a c).2:Int)=(Qa a c).1:=Int.ediv_mul_cancel d1;have e2:(stl a c).2*(Int.gcd (Qa a c).1 (Qa a c).2:Int)=(Qa a c).2:=Int.ediv_mul_cancel d2;have le:∀{x y g:Int},0<g->x*g=y->x.natAbs<=y.natAbs:=λ{x y g} g0 e=>by
  rw[<- e,vz];exact uT _ (by lia)
 exact⟨by lia,e1,e2,le (by lia) e1,le (by lia) e2⟩
def z9C {a c:T3}(ha:Dv M a)(hc:Dv M c):(Qa a c).1*(M / a.2.2*(M / c.2.2))=M*((Geo.up M c).1 - (Geo.up M a).1)/\(Qa a c).2*(M / a.2.2*(M / c.2.2))=M*((Geo.up M c).2 - (Geo.up M a).2):=by
 obtain⟨_,ea⟩:=ha.k;obtain⟨_,ec⟩:=hc.k;unfold Qa Geo.up;k_in;generalize M / a.2.2=i at*;generalize M / c.2.2=j at*
 constructor <;> grind
def zed {a c p:T3}(ha:Dv M a)(hc:Dv M c)(hp:Dv M p)(h:Stl a c s g):(Nf (rt s) p c↔0<=Qc (Geo.up M a) (Geo.up M c) (Geo.up M p))/\(Nf s p c↔0<=dot (Geo.up M c) (Geo.up M a) (Geo.up M p)):=by
 obtain⟨f1,f2⟩:=z9C ha hc;have i0:=ha.k.1;have j0:=hc.k.1;have k0:0<g*(M / a.2.2*(M / c.2.2)):=wP h.g0 (wP i0 j0);have r1:s.1*(g*(M / a.2.2*(M / c.2.2)))=M*((Geo.up M c).1 - (Geo.up M a).1):=by rw[<- f1, <- h.e1];grind
 have r2:s.2*(g*(M / a.2.2*(M / c.2.2)))=M*((Geo.up M c).2 - (Geo.up M a).2):=by rw[<- f2, <- h.e2];grind
 rw[z35 hp hc,z35 hp hc];generalize g*(M / a.2.2*(M / c.2.2))=k at*;generalize Geo.up M a=A at*;generalize Geo.up M c=C at*;generalize Geo.up M p=Pp at*;have s1:=z2M (x:=Qb C (rt s) - Qb Pp (rt s)) (y:=Qc A C Pp) k0 hp.m (by
  unfold Qb Qc rt;k_in
  grind)
 have s2:=z2M (x:=Qb C s - Qb Pp s) (y:=dot C A Pp) k0 hp.m (by
  unfold Qb dot
  grind)
 lia
def cyT (h:List T3)(i:Nat):T3:=h.getD (i % h.length) (0,0,1)
def z23 (hl:0<h.length):h[i % h.length]? = some (cyT h i):=by
 unfold cyT;rw[uZ,wp (ut _ hl)]
 rfl
def z0q (hl:0<h.length):cyT h i∈h:=wy (z23 hl)
def z1Y (h:List T3)(j:Nat):List (P × T3):=(rt (stl (cyT h (j+h.length - 1)) (cyT h j)),cyT h j)::if h.length=2 then [(stl (cyT h (j+h.length - 1)) (cyT h j),cyT h j)] else []
def z1j (h:List T3):List (P × T3):=if h.length=1 then ways.map λb=>(b,cyT h 0) else (List.range h.length).flatMap (z1Y h)
abbrev zeT (x:P × T3):D :=.tup [vec x.1,pl3 x.2]
def z85 {a c:T3}(ha:Px a)(hc:Px c)(ne:a≠c)(q:Q (vec (stl a c))):z0T.run [pl3 a,pl3 c] Q X:=by
 have ok:=z6y (z4m ha.lo hc.lo ne);have a1:=ha.bx;have a2:=ha.bY;have a3:=ha.bw;have c1:=hc.bx;have c2:=hc.bY;have c3:=hc.bw;have b1:Bt 601 (Qa a c).1:=(Bt.sub (Bt.mul c1 a3) (Bt.mul a1 c3)).le;have b2:Bt 601 (Qa a c).2:=(Bt.sub (Bt.mul c2 a3) (Bt.mul a2 c3)).le;have g0:=ok.g0;have bg:Bt 9000 (Int.gcd (Qa a c).1 (Qa a c).2:Int):=by
  by_cases z:(Qa a c).1=0
  .have n2:(Qa a c).2≠0:=λy=>z4m ha.lo hc.lo ne ⟨z,y⟩;exact(b2.of_abs (by
    have:=Nat.le_of_dvd (by lia) (Int.gcd_dvd_natAbs_right (Qa a c).1 (Qa a c).2);lia)).le
  .exact(b1.of_abs (by
    have:=Nat.le_of_dvd (by lia) (Int.gcd_dvd_natAbs_left (Qa a c).1 (Qa a c).2);lia)).le
 show z0T.run [.tup [.int a.1,.int a.2.1,.int a.2.2],.tup [.int c.1,.int c.2.1,.int c.2.2]] Q X;walk_at "fn";ac_nf;refine z2x ?_;refine⟨Safe.of_noL rfl rfl _,?_⟩;ac_rfl
 change 0<(Int.gcd (c.1*a.2.2 - a.1*c.2.2) (c.2.1*a.2.2 - a.2.1*c.2.2):Int) at g0
 change Bt 9000 (Int.gcd (c.1*a.2.2 - a.1*c.2.2) (c.2.1*a.2.2 - a.2.1*c.2.2):Int) at bg
 ac_nf;exact q
def z7c (is:z04 S (h.map (Geo.up M)))(hl:2<=h.length)(j:Nat)(hj:j<h.length):cyT h (j+h.length - 1)≠cyT h j:=λz=>by
 have lm:(h.map (Geo.up M)).length=h.length:=wg ..;have g1:=z23 (h:=h) (i:=j+h.length - 1) (by lia);have g0:=z23 (h:=h) (i:=j) (by lia);rw[wQ hj] at g0;have e:=is.cyc (by rw[lm];exact hl) (j:=j) (by rw[lm];exact hj) (a:=Geo.up M (cyT h (j+h.length - 1))) (b:=Geo.up M (cyT h j)) (by rw[lm,wB,g1];rfl) (by rw[wB,g0];rfl);exact e.ne (by rw[z])
def zbU (hz:h.length<=1000)(hn:h≠[])(hp:∀t∈h,Px t)(is:z04 S (h.map (Geo.up M)))(q:Q (.lst ((z1j h).map zeT))):z1b.run [pls3 h,.fn 3] Q X:=by
 have h0:0<h.length:=vq.mpr hn;have at0:∀{k:Nat},k<h.length->atI h (k:Int)=some (cyT h k):=λ{k} hk=>by
  have:=z23 (h:=h) (i:=k) h0;rw[wQ hk] at this;rw[z24 hk];exact this
 have at1:∀{k:Nat},k<h.length->atI h ((k:Int) - 1)=some (cyT h (k+h.length - 1)):=λ{k} hk=>(zdg (j:=1) hk (by lia)).trans (z23 h0);walk_at "fn";ac_nf;rw[wg];refine z0y (λhl =>?_) (λhl =>?_)
 .ac_nf;show onL (z02 (vecs ways)) _;ac_nf;refine⟨by rw[wg];exact szl' (by decide),?_⟩;refine z0O (g:=λb=>zeT (b,cyT h 0)) (λb hb K hK =>?_) ?_
  .ac_nf;refine z1f (z0w (at0 (k:=0) h0)) ?_;ac_nf;exact hK
  .rw[z1j,if_pos (by lia),vM] at q;exact q
 refine z9O ?_;refine z9P (zbT ?_);ac_nf;refine z3d (λx hx=>by cases hx) ?_;ac_rfl;ac_nf;rw[wg];refine z5g (by lia) (by lia) ?_;have er:((h.length:Nat):Int).toNat=h.length:=by simp
 rw[er];have hlen:∀dn:List Nat,(dn.flatMap (z1Y h)).length<=2*dn.length:=by
  intro dn
  induction dn with
  | nil=>simp
  | cons k dn ih=>
   rw[ju,wL];have:(z1Y h k).length<=2:=by unfold z1Y;split <;> simp
   simp only[w5];lia
 refine z0u (f:=λ(j:Nat)=>D.int (j:Int)) (λdn ρ=>∃x y z:B,ρ=[.s (pls3 h),.s (.fn 3),.o (.lst ((dn.flatMap (z1Y h)).map zeT)),x,y,z]) ⟨_,_,_,rfl⟩ ?_ ?_
 .rintro dn k r ρ e ⟨x,y,z,rfl⟩;have hk:k<h.length:=by
   have:k∈List.range h.length:=by rw[e];simp
   o_rec
  have hd:dn.length<h.length:=by
   have:=congrArg List.length e;simp at this;lia
  have hl2:=hlen dn;l_bnd;ac_rfl;ac_nf;refine z1f (z0w (at0 hk)) ?_;refine z1k (Safe.of_noL rfl rfl _) ?_;ac_rfl;ac_nf;refine z4B rfl ?_;ac_nf;refine z1f (z0w (at1 hk)) ?_;ac_nf;refine z85 (hp _ (z0q h0)) (hp _ (z0q h0)) (z7c is (by lia) k hk) ?_;refine z1k (Safe.of_noL rfl rfl _) ?_;ac_rfl;refine z9P (z3p (l:=[]) (z0x rfl ?_));ac_nf;refine z8V ?_;ac_nf;kd_p;ac_rfl;ac_nf;rw[wg];refine z0y (λh2 =>?_) (λh2 =>?_)
  .refine z3p (l:=[]) (z0x rfl ?_);ac_nf;refine⟨by rw[wL,wg];exact szl' (by simp only[w5,v7];lia),Safe.of_noL rfl rfl _,?_⟩;ac_rfl;refine⟨.s (.int (k:Int)),.s (pl3 (cyT h k)),.s (vec (stl (cyT h (k+h.length - 1)) (cyT h k))),?_⟩;rw[List.flatMap_append,wY,ju,List.flatMap_nil,v6,z1Y,if_pos (by lia)];simp
  .ac_nf;refine⟨.s (.int (k:Int)),.s (pl3 (cyT h k)),.s (vec (stl (cyT h (k+h.length - 1)) (cyT h k))),?_⟩;rw[List.flatMap_append,wY,ju,List.flatMap_nil,v6,z1Y,if_neg (by lia)];simp
 rintro ρ ⟨x,y,z,rfl⟩;ac_nf;rw[z1j,if_neg (by lia)] at q;exact q
end Pu
namespace Zp
open PySem PySem.Spec PyProof.Rows L2
section
variable {prog:Program}{w:World}{A:Around}{E:WvP}{s:Shared}
def nx {j t:Addr}{n:Nat}{xs:Array Value}{x:Value}{Q:WvP}(it:s.heap.IsTupleIter j t n)(tu:s.heap.IsTuple t xs)(e:xs[n]? = some x)
  (q:∀h',h'.IsTupleIter j t (n+1)->Heap.SameBut j s.heap h'->Q x { s with heap:=h' }):wpAny (model prog w) A (Builtin.SmallTypes.nextOf (.ref j)) Q E s:=by
 obtain⟨ob,g,gc,gd⟩:=id it;obtain⟨ot,gt,_,nt,gdt⟩:=tu
 delta Builtin.SmallTypes.nextOf
 refine we (vW (name:=Str.ofString "__next__") it.typeIs u5 (v9 u5 it.typeIs F.entry_tuple_iterator_next ?_ (F.args_tuple_iterator_next_1 _)));show wpAny _ _ (PySem.field (.ref j) 0 >>= _) _ _ s;refine we (uw g gd (x :=.ref t) rfl ?_);show wpAny _ _ (if (Value.ref t == Value.none)=true then _ else (PySem.field (.ref j) 1 >>= _)) _ _ s;rw[if_neg (show ¬ (Value.ref t == Value.none)=true from wU)];refine we (uw g gd (x :=.int n 0) rfl ?_);show wpAny _ _ (seqItems? (.ref t) >>= λ_=>_) _ _ s;refine we (uc gt gdt ?_);simp only[Int.toNat_natCast,e];refine we (Wj g gd (by simp) (wj ⟨x,rfl,wj (q _ ⟨_,vT _ g (Obj.isFreed_of_fields (ux gd _)),(Obj.cls_mapFields ..).trans gc,by rw[ux gd];simp[rawInt]⟩ (uE ..))⟩))
def nxE {j t:Addr}{n:Nat}{xs:Array Value}{Q:WvP}(hh:A.handled=none)(it:s.heap.IsTupleIter j t n)(tu:s.heap.IsTuple t xs)(e:xs[n]? = none)
  (q:∀h' z,Heap.ExtBut j s.heap h'->(∃o,h'.get? z=some o/\o.cls = .type "StopIteration")->E (.ref z) { s with heap:=h' }):wpAny (model prog w) A (Builtin.SmallTypes.nextOf (.ref j)) Q E s:=by
 obtain⟨ob,g,gc,gd⟩:=id it;obtain⟨ot,gt,_,nt,gdt⟩:=tu
 delta Builtin.SmallTypes.nextOf
 refine we (vW (name:=Str.ofString "__next__") it.typeIs u5 (v9 u5 it.typeIs F.entry_tuple_iterator_next ?_ (F.args_tuple_iterator_next_1 _)));show wpAny _ _ (PySem.field (.ref j) 0 >>= _) _ _ s;refine we (uw g gd (x :=.ref t) rfl ?_);show wpAny _ _ (if (Value.ref t == Value.none)=true then _ else (PySem.field (.ref j) 1 >>= _)) _ _ s;rw[if_neg (show ¬ (Value.ref t == Value.none)=true from wU)];refine we (uw g gd (x :=.int n 0) rfl ?_);show wpAny _ _ (seqItems? (.ref t) >>= λ_=>_) _ _ s;refine we (uc gt gdt ?_);simp only[Int.toNat_natCast,e];refine we (jU (we (Wj g gd (by simp) (show wpAny _ _ (newExc (.type "StopIteration") [] >>= λ_=>_) _ _ _ from we ?_))));simp only[newExc,newTuple];refine we (vo (we (m:=firstArgMember _ _) (wpAny_of_eq (a:=Value.none) (by first | rfl | (simp only[firstArgMember];rfl)) (vo ?_ (by size_fits)))) (by size_fits));simp only[raiseNew];refine we (wpAny_handled ?_)
 first | rw[show A.in1.handled=none from hh] | rw[hh]
 exact we (wj (wpAny_throw (q _ _ (((uE ..).extBut.push _).push _) ⟨_,wA _ rfl,rfl⟩)))
structure St (h:Heap)(z TI TO i1 i2 t1 t2:Addr)(f:Value)(n:Nat):Prop where
 z:IsZip h z TI TO f
 ti:IsPair h TI (.ref i1) (.ref i2)
 to:∃a b,IsPair h TO a b
 a:h.IsTupleIter i1 t1 n
 b:h.IsTupleIter i2 t2 n
def tat {h h':Heap}{t:Addr}{xs:Array Value}(x:h.IsTuple t xs)(k:∀o,h.get? t=some o->h'.get? t=some o):h'.IsTuple t xs:=by
 obtain⟨o,e,r⟩:=x;exact⟨o,k o e,r⟩
variable {z TI TO i1 i2 t1 t2:Addr}{n:Nat}{xs ys:Array Value}{x y:Value}
def item {Q:Option Value->Shared->Prop}(D:ZipApart z TI TO i1 i2 t1 t2)(S:St s.heap z TI TO i1 i2 t1 t2 .none n)(hx:s.heap.IsTuple t1 xs)(hy:s.heap.IsTuple t2 ys)(ex:xs[n]? = some x)(ey:ys[n]? = some y)
  (q:∀h',St h' z TI TO i1 i2 t1 t2 (rawInt s.heap.objs.size) (n+1)->IsPair h' s.heap.objs.size x y->h'.objs.size=s.heap.objs.size+1->(∀c o,c≠z->c≠TO->c≠i1->c≠i2->s.heap.get? c=some o->h'.get? c=some o)->Q (some (.ref s.heap.objs.size)) { s with heap:=h' }):
  wpAny (model prog w) A (pyNext (.ref z)) Q E s:=by
 obtain⟨sz,sti,⟨pa,pb,sto⟩,sa,sb⟩:=S;have ty:s.TypeIs (.ref z) "zip":=⟨_,sz,rfl⟩
 delta pyNext
 refine we (Wh (vW (name:=Str.ofString "__next__") ty F.slot_zip_next (v9 F.slot_zip_next ty F.entry_zip_next ?_ (F.args_zip_next_1 _))));show wpAny _ _ (PySem.field (.ref z) 2 >>= λ_=>_) _ _ _;refine we (uw sz rfl (x :=.bool false) rfl (show wpAny _ _ (PySem.field (.ref z) 3 >>= λ_=>_) _ _ _ from we (uw sz rfl (x :=.ref TI) rfl (we (uc sti rfl ?_)))));show wpAny _ _ (Builtin.SmallTypes.ownedTupleIsFree (.ref z) >>= λ_=>_) _ _ _;refine we ?_
 delta Builtin.SmallTypes.ownedTupleIsFree
 refine we (uw sz rfl (x:=Value.none) rfl (wj ?_));simp only[jF];refine we (jU (we (uw sz rfl (x:=Value.ref TO) rfl (we (ji sz (by simp) λg1 z1 k1 =>?_)))))
 replace z1:IsZip g1 z TI TO .ellipsis:=z1
 refine we ?_;simp only[List.zipIdx_cons,List.zipIdx_nil,List.forIn_cons,List.forIn_nil];refine we (we (wpAny_onRaise (show wpAny _ _ (Builtin.SmallTypes.nextOf (.ref i1) >>= λ_=>_) _ _ _ from we (nx (sa.extBut k1.extBut D.i1z) (tat hx λo e=>k1.extBut _ _ D.l1z e) ex λg2 a2 k2=>wj ?_))));have o2:IsPair g2 TO pa pb:=k2.extBut _ _ D.TOi1 (k1.extBut _ _ D.TOz sto);refine we (uc o2 rfl (we (wpAny_updateSeq_pair o2 λg3 o3 k3 =>?_)))
 replace o3:IsPair g3 TO x pb:=o3
 refine we (jQ (wj ?_));refine we (we (wpAny_onRaise (show wpAny _ _ (Builtin.SmallTypes.nextOf (.ref i2) >>= λ_=>_) _ _ _ from we (nx (((sb.extBut k1.extBut D.i2z).extBut k2.extBut D.i12.symm).extBut k3.extBut D.TOi2.symm)
  (tat hy λo e=>k3.extBut _ _ D.l2TO (k2.extBut _ _ D.l2i1 (k1.extBut _ _ D.l2z e))) ey λg4 b4 k4=>wj ?_))))
 have o4:IsPair g4 TO x pb:=k4.extBut _ _ D.TOi2 o3;refine we (uc o4 rfl (we (wpAny_updateSeq_pair o4 λg5 o5 k5 =>?_)))
 replace o5:IsPair g5 TO x y:=o5
 refine we (jQ (wj (wj (we (uc o5 rfl (we (wpAny_newTuple ?_)))))));have sze:g5.objs.size=s.heap.objs.size:=by rw[k5.1,k4.1,k3.1,k2.1,k1.1]
 have z5:IsZip g5 z TI TO .ellipsis:=k5.extBut _ _ D.TOz.symm (k4.extBut _ _ D.i2z.symm (k3.extBut _ _ D.TOz.symm (k2.extBut _ _ D.i1z.symm z1)));have kk:∀c o,c≠z->c≠TO->c≠i1->c≠i2->s.heap.get? c=some o->g5.get? c=some o:=λc o c1 c2 c3 c4 e=>k5.extBut _ _ c2 (k4.extBut _ _ c4 (k3.extBut _ _ c2 (k2.extBut _ _ c3 (k1.extBut _ _ c1 e))));have a5:g5.IsTupleIter i1 t1 (n+1):=((a2.extBut k3.extBut D.TOi1.symm).extBut k4.extBut D.i12).extBut k5.extBut D.TOi1.symm;have b5:g5.IsTupleIter i2 t2 (n+1):=b4.extBut k5.extBut D.TOi2.symm;have zlt:z<g5.objs.size:=wE z5;show wpAny _ _ (Builtin.SmallTypes.ownedTupleHandOut (.ref z) (.ref g5.objs.size) >>= λ_=>_) _ _ _;refine we ?_
 delta Builtin.SmallTypes.ownedTupleHandOut
 have z6:IsZip (g5.push { cls :=.type "tuple",data :=.seq #[x,y] }) z TI TO .ellipsis:=wo _ z5;refine we (ji z6 (by simp) λg7 z7 k7 =>?_)
 replace z7:IsZip g7 z TI TO (rawInt g5.objs.size):=z7
 refine ji z7 (by simp) λg8 z8 k8 =>?_
 replace z8:IsZip g8 z TI TO (rawInt g5.objs.size):=z8
 have up:∀c o,c≠z->g5.get? c=some o->g8.get? c=some o:=λc o c1 e=>k8.extBut _ _ c1 (k7.extBut _ _ c1 (wo _ e));have tp:IsPair g8 g5.objs.size x y:=k8.extBut _ _ (j9 zlt) (k7.extBut _ _ (j9 zlt) (wA _ rfl));have s8:g8.objs.size=g5.objs.size+1:=by rw[k8.1,k7.1,uF]
 rw[sze] at z8 tp s8;refine wj ⟨_,rfl,wj ?_⟩;show Q (some (.ref g5.objs.size)) _;rw[sze];exact q g8 ⟨z8,up _ _ D.TIz (kk _ _ D.TIz D.TITO D.TIi1 D.TIi2 sti),⟨_,_,up _ _ D.TOz o5⟩,a5.at λo e=>up _ o D.i1z e,b5.at λo e=>up _ o D.i2z e⟩ tp s8 λc o c1 c2 c3 c4 e=>up c o c1 (kk c o c1 c2 c3 c4 e)
def fin {Q:Option Value->Shared->Prop}(hh:A.handled=none)(D:ZipApart z TI TO i1 i2 t1 t2)(S:St s.heap z TI TO i1 i2 t1 t2 .none n)(hx:s.heap.IsTuple t1 xs)(hy:s.heap.IsTuple t2 ys)(e:xs[n]? = none\/ys[n]? = none)
  (q:∀h',(∀c o,c≠z->c≠TO->c≠i1->c≠i2->s.heap.get? c=some o->h'.get? c=some o)->Q none { s with heap:=h' }):wpAny (model prog w) A (pyNext (.ref z)) Q E s:=by
 obtain⟨sz,sti,⟨pa,pb,sto⟩,sa,sb⟩:=S;have ty:s.TypeIs (.ref z) "zip":=⟨_,sz,rfl⟩
 have stop:∀h' v,(∀c o,c≠z->c≠TO->c≠i1->c≠i2->s.heap.get? c=some o->h'.get? c=some o)->(∃o,h'.get? v=some o/\o.cls = .type "StopIteration")->wpAny (model prog w) A (isInstance (.ref v) (.type "StopIteration") >>= λb=>if b=true then pure none else throw (Value.ref v)) Q E { s with heap:=h' }:=λh' v kk ⟨o,ho,hc⟩=>
  we (wpAny_isInstance (T:="StopIteration") (b:=true) ⟨o,ho,hc⟩ isSubtype_stop (wj (q _ kk)))
 delta pyNext
 refine we (Wh (vW (name:=Str.ofString "__next__") ty F.slot_zip_next (v9 F.slot_zip_next ty F.entry_zip_next ?_ (F.args_zip_next_1 _))));show wpAny _ _ (PySem.field (.ref z) 2 >>= λ_=>_) _ _ _;refine we (uw sz rfl (x :=.bool false) rfl (show wpAny _ _ (PySem.field (.ref z) 3 >>= λ_=>_) _ _ _ from we (uw sz rfl (x :=.ref TI) rfl (we (uc sti rfl ?_)))));show wpAny _ _ (Builtin.SmallTypes.ownedTupleIsFree (.ref z) >>= λ_=>_) _ _ _;refine we ?_
 delta Builtin.SmallTypes.ownedTupleIsFree
 refine we (uw sz rfl (x:=Value.none) rfl (wj ?_));simp only[jF];refine we (jU (we (uw sz rfl (x:=Value.ref TO) rfl (we (ji sz (by simp) λg1 z1 k1 =>?_)))))
 replace z1:IsZip g1 z TI TO .ellipsis:=z1
 refine we ?_;simp only[List.zipIdx_cons,List.zipIdx_nil,List.forIn_cons,List.forIn_nil];refine we (we (wpAny_onRaise (show wpAny _ _ (Builtin.SmallTypes.nextOf (.ref i1) >>= λ_=>_) _ _ _ from we ?_)))
 cases ex:xs[n]? with
 | none=>
  refine nxE hh (sa.extBut k1.extBut D.i1z) (tat hx λo e=>k1.extBut _ _ D.l1z e) ex λg2 v k2 hv =>?_;obtain⟨oe,hoe,hce⟩:=hv;have z2:IsZip g2 z TI TO .ellipsis:=k2 _ _ D.i1z.symm z1;have ne:v≠z:=λw=>by subst w;rw[z2] at hoe;cases hoe;simp at hce
  exact ji z2 (by simp) λg3 _ k3=>stop g3 v (λc o c1 _ c3 _ w=>k3.extBut _ _ c1 (k2 _ _ c3 (k1.extBut _ _ c1 w))) ⟨oe,k3.extBut _ _ ne hoe,hce⟩
 | some x=>
  have ey:ys[n]? = none:=e.resolve_left (by rw[ex];exact λw=>nomatch w);refine nx (sa.extBut k1.extBut D.i1z) (tat hx λo e=>k1.extBut _ _ D.l1z e) ex λg2 a2 k2=>wj ?_;have o2:IsPair g2 TO pa pb:=k2.extBut _ _ D.TOi1 (k1.extBut _ _ D.TOz sto);refine we (uc o2 rfl (we (wpAny_updateSeq_pair o2 λg3 o3 k3 =>?_)));refine we (jQ (wj ?_));refine we (we (wpAny_onRaise (show wpAny _ _ (Builtin.SmallTypes.nextOf (.ref i2) >>= λ_=>_) _ _ _ from we (nxE hh (((sb.extBut k1.extBut D.i2z).extBut k2.extBut D.i12.symm).extBut k3.extBut D.TOi2.symm)
   (tat hy λo e=>k3.extBut _ _ D.l2TO (k2.extBut _ _ D.l2i1 (k1.extBut _ _ D.l2z e))) ey λg4 v k4 hv =>?_))))
  obtain⟨oe,hoe,hce⟩:=hv;have z4:IsZip g4 z TI TO .ellipsis:=k4 _ _ D.i2z.symm (k3.extBut _ _ D.TOz.symm (k2.extBut _ _ D.i1z.symm z1));have ne:v≠z:=λw=>by subst w;rw[z4] at hoe;cases hoe;simp at hce
  exact ji z4 (by simp) λg5 _ k5=>stop g5 v (λc o c1 c2 c3 c4 w=>k5.extBut _ _ c1 (k4 _ _ c4 (k3.extBut _ _ c2 (k2.extBut _ _ c3 (k1.extBut _ _ c1 w))))) ⟨oe,k5.extBut _ _ ne hoe,hce⟩
end
abbrev mk1 (h:Heap)(t:Addr):Heap:=h.push { cls :=.type "tuple_iterator",data :=.fields #[.ref t,.int 0 0] }
abbrev mk3 (h:Heap)(t1 t2:Addr):Heap:=((mk1 (mk1 h t1) t2).push { cls :=.type "tuple",data :=.seq #[.ref h.objs.size,.ref (mk1 h t1).objs.size] }).push { cls :=.type "tuple",data :=.seq #[.none,.none] }
abbrev mk5 (h:Heap)(t1 t2:Addr):Heap:=(mk3 h t1 t2).push { cls :=.type "zip",data :=.fields #[.none,.bool false,.bool false,.ref (mk1 (mk1 h t1) t2).objs.size,.ref ((mk1 (mk1 h t1) t2).push { cls :=.type "tuple",data :=.seq #[.ref h.objs.size,.ref (mk1 h t1).objs.size] }).objs.size] }
def newZ (t1 t2:Addr)(xs ys:Array Value):Meets (Builtin.«zip.__new__» ⟨[.type "zip",.ref t1,.ref t2],[]⟩) (λ_ R s=>s.heap.IsTuple t1 xs/\s.heap.IsTuple t2 ys/\R (.ok (.ret (.ref (mk3 s.heap t1 t2).objs.size))) { s with heap:=mk5 s.heap t1 t2 }):=
 .of_wp λprog w A R s h=>by
  obtain⟨hp,g,d,tk,os⟩:=s;obtain⟨a1,a2,h⟩:=h;have sub:=sub_zip;have b1:Heap.IsTuple (Shared.heap ⟨hp,g,d,tk,os⟩) t1 xs:=a1;have b2:Heap.IsTuple (Shared.heap ⟨mk1 hp t1,g,d,tk,os⟩) t2 ys:=Heap.IsTuple.push a2 _
  wp_walk using Wg b1,Wg b2
  exact⟨_,rfl,h⟩
section
variable {prog:Program}{w:World}{A:Around}{E:WvP}{s:Shared}{t1 t2:Addr}{xs ys:Array Value}
def zjN (h1:s.heap.IsTuple t1 xs)(h2:s.heap.IsTuple t2 ys)
  (q:∀h',St h' (s.heap.objs.size+4) (s.heap.objs.size+2) (s.heap.objs.size+3) s.heap.objs.size (s.heap.objs.size+1) t1 t2 .none 0->(∀c o,s.heap.get? c=some o->h'.get? c=some o)->Q (.ref (s.heap.objs.size+4)) { s with heap:=h' }):
  wpAny (model prog w) A (call (.type "zip") [.ref t1,.ref t2]) Q E s:=by
 refine callType_new F.called_zip (by decide) (F.typeCall_zip_2 _ _) (F.newCall_zip_2 _ _) (λobj=>F.args_object_init_3 obj _ _) F.entry_zip_new (newZ t1 t2 xs ys) ⟨h1,h2,?_⟩;have n1:(mk1 s.heap t1).objs.size=s.heap.objs.size+1:=uF ..;have n2:(mk1 (mk1 s.heap t1) t2).objs.size=s.heap.objs.size+2:=by rw[uF,n1]
 have n3:((mk1 (mk1 s.heap t1) t2).push { cls :=.type "tuple",data :=.seq #[.ref s.heap.objs.size,.ref (mk1 s.heap t1).objs.size] }).objs.size=s.heap.objs.size+3:=by rw[uF,n2]
 have n4:(mk3 s.heap t1 t2).objs.size=s.heap.objs.size+4:=by rw[uF,n3]
 have up1:∀{h:Heap}{c:Addr}{o o':Obj},h.get? c=some o->(h.push o').get? c=some o:=λe=>wo _ e;have e5:(mk5 s.heap t1 t2).get? (mk3 s.heap t1 t2).objs.size=some _:=wA _ rfl;have e4:(mk5 s.heap t1 t2).get? ((mk1 (mk1 s.heap t1) t2).push { cls :=.type "tuple",data :=.seq #[.ref s.heap.objs.size,.ref (mk1 s.heap t1).objs.size] }).objs.size=some _:=up1 (wA _ rfl);have e3:(mk5 s.heap t1 t2).get? (mk1 (mk1 s.heap t1) t2).objs.size=some _:=up1 (up1 (wA _ rfl));have e2:(mk5 s.heap t1 t2).get? (mk1 s.heap t1).objs.size=some _:=up1 (up1 (up1 (wA _ rfl)));have e1:(mk5 s.heap t1 t2).get? s.heap.objs.size=some _:=up1 (up1 (up1 (up1 (wA _ rfl))));show _/\_;rw[n4,n2,n3] at e5;rw[n3] at e4;rw[n1,n2] at e3;rw[n1] at e2;rw[n4];exact⟨⟨_,e5,rfl⟩,q _ ⟨e5,e3,⟨_,_,e4⟩,⟨_,e1,rfl,rfl⟩,⟨_,e2,rfl,rfl⟩⟩ λc o e=>up1 (up1 (up1 (up1 (up1 e))))⟩
end
end Zp
namespace L2
open PySem PySem.Spec PyProof.Rows
section
variable {X:Cx}{pins:List (Addr × Obj)}{σ:List (Option V)}{H H':Hp}{s:Shared}{h':Heap}
def Inv.turnedL {t':Nat}{fp:List Addr}(I:Inv X pins σ H s)(k:∀b o,b ∉ fp->s.heap.get? b=some o->h'.get? b=some o)(hf:∀b∈fp,FpOk X pins H b):Inv X pins σ H { s with heap:=h',toks:=t' }:=by
 have nit:∀b u,H b=some u->b ∉ fp:=λb u e z=>by rw[(hf b z).1] at e;cases e
 have hL:X.env.locals ∉ fp:=λz=>(hf _ z).2.1 rfl;refine I.step (g':=s.gens) (d':=s.drawn) (ch:=fp) (λb hb =>?_) (λb o _ _ hc e _=>k b o hc e) (λb o _ _ hc e _=>⟨o.slots,k b o hc e⟩) (λ_ _ _ _ n=>n)
  (λb o hc e=>⟨o,k b o hc e⟩) (λ_ _ e=>e) (λ_ _ _ e=>e) (λb ps e=>⟨#[],by rw[e];simp⟩) (λm hm =>?_) (λb u e =>?_) I.bare
 .obtain⟨f0,f1,f2,f3,f4,f5⟩:=hf b hb;exact⟨f3,f1,f4,f5⟩
 .obtain⟨o,es,ep,ho,r⟩:=hm;exact⟨o,es,ep,k _ o hL ho,r⟩
 .refine(I.hok b u e).stay (λc v hc q=>k c v ?_ q) (λ_ q=>q) λ_ _ q=>q
  rcases hc with z | z
  .rw[z];exact nit b u e
  .exact nit c _ z
end
end L2
namespace Zp
open PySem PySem.Spec PyProof.Rows L2
def Itz (K:W.Frag)(t1 t2:Addr):It:=
 ⟨λi H=>∃xs ys x y,SqT K H t1 xs/\SqT K H t2 ys/\xs[i]? = some x/\ys[i]? = some y,
  λi H v H'=>∃p x y,v = .ref p/\H p=none/\H'=upd H p (.tup [x,y])/\∀xs ys,SqT K H t1 xs->SqT K H t2 ys->xs[i]? = some x/\ys[i]? = some y,
  λi H=>∃xs ys,SqT K H t1 xs/\SqT K H t2 ys/\(xs.length<=i\/ys.length<=i)⟩
def zbD {P:Program}{w:World}{K:W.Frag}{es:List Expr}{kk:Nat}{pos:Pos}{z TI TO i1 i2 t1 t2:Addr}(D:ZipApart z TI TO i1 i2 t1 t2):Turn P w K (.Tuple es kk pos) (Itz K t1 t2) [z,TO,i1,i2,TI] z (λi h=>St h z TI TO i1 i2 t1 t2 .none i) where
 mem:=by simp
 obj:=λi h st b hb=>by
  obtain⟨sz,sti,⟨pa,pb,sto⟩,⟨oa,ea,ca,da⟩,⟨ob,eb,cb,db⟩⟩:=st;simp only[ww,vn,jc] at hb
  rcases hb with rfl | rfl | rfl | rfl | rfl
  .exact⟨_,sz,λv q=>by cases (show Data.fields _=Data.cell v from q)⟩
  .exact⟨_,sto,λv q=>by cases (show Data.seq _ _=Data.cell v from q)⟩
  .exact⟨_,ea,λv q=>by rw[da] at q;cases q⟩
  .exact⟨_,eb,λv q=>by rw[db] at q;cases q⟩
  .exact⟨_,sti,λv q=>by cases (show Data.seq _ _=Data.cell v from q)⟩
 keep:=λi h h' st k=>by
  obtain⟨sz,sti,⟨pa,pb,sto⟩,sa,sb⟩:=st;exact⟨k z (by simp) _ sz,k TI (by simp) _ sti,⟨pa,pb,k TO (by simp) _ sto⟩,sa.at λo e=>k i1 (by simp) o e,sb.at λo e=>k i2 (by simp) o e⟩
 item:=by
  kj_on;subst hP hw hK;obtain⟨xs,ys,x,y,q1,q2,ex,ey⟩:=hg;obtain⟨us,r1,p1,_⟩:=I.tuple q1;obtain⟨vs,r2,p2,_⟩:=I.tuple q2;obtain⟨u,hu,ru⟩:=r1.get ex;obtain⟨v,hv,rv⟩:=r2.get ey;refine item D st (show s.heap.IsTuple t1 us.toArray from p1) (show s.heap.IsTuple t2 vs.toArray from p2) (x:=u) (y:=v) (by simpa using hu) (by simpa using hv) λh' S' tp _ kp=>⟨_,rfl,?_⟩
  refine wpAny_letOwnedTupleGo_zip S'.z λh2 z2 k2 =>?_;have lt:∀{b o},s.heap.get? b=some o->b≠s.heap.objs.size:=λe=>wV (wE e);have ob:∀b∈[z,TO,i1,i2,TI],b≠s.heap.objs.size:=λb hb=>by
   obtain⟨sz,sti,⟨pa,pb,sto⟩,⟨oa,ea,_⟩,⟨oo,eb,_⟩⟩:=st;simp only[ww,vn,jc] at hb
   rcases hb with rfl | rfl | rfl | rfl | rfl
   .exact lt sz
   .exact lt sto
   .exact lt ea
   .exact lt eb
   .exact lt sti
  have hz:z≠s.heap.objs.size:=ob z (by simp);have new:(s.heap.push { cls :=.type "tuple",data :=.seq #[u,v] }).get? s.heap.objs.size=some { cls :=.type "tuple",data :=.seq #[u,v] }:=wA _ rfl;have I1:Inv X pins σ (upd H s.heap.objs.size (.tup [x,y])) { s with heap:=s.heap.push { cls :=.type "tuple",data :=.seq #[u,v] },toks:=s.toks }:=
   I.laid (λ_ _ q=>wo _ q) (wx _) ⟨wO (show 2<=64 by decide) (by decide),[u,v],.cons ru (.cons rv .nil),⟨_,wA _ rfl,rfl,_,rfl⟩,_,wA _ rfl,rfl⟩
  have hf1:∀b∈[z,TO,i1,i2,TI],FpOk X pins (upd H s.heap.objs.size (.tup [x,y])) b:=λb hb=>by
   obtain⟨f0,f⟩:=hf b hb;exact⟨by rw[z05 (ob b hb)];exact f0,f⟩
  have I2:Inv X pins σ (upd H s.heap.objs.size (.tup [x,y])) { s with heap:=h2,toks:=s.toks }:=I1.turnedL (t':=s.toks) (λb o hb e=>by
   simp only[ww,vn,jc,not_or] at hb;obtain⟨b1,b2,b3,b4,b5⟩:=hb;refine k2.extBut _ _ b1 ?_
   by_cases he:b=s.heap.objs.size
   .subst he;rw[new] at e
    cases e
    exact tp
   .rw[uU _ _ _ he] at e;exact kp b o b1 b2 b3 b4 e) hf1
  refine⟨.ref s.heap.objs.size,_,I2,rfl,⟨_,x,y,rfl,I.fresh,rfl,λas bs ha hb=>⟨by rw[I.tuple_inj ha q1];exact ex,by rw[I.tuple_inj hb q2];exact ey⟩⟩,⟨z2,k2.extBut _ _ D.TIz S'.ti,?_,S'.a.extBut k2.extBut D.i1z,S'.b.extBut k2.extBut D.i2z⟩,λb hb=>(hf1 b hb).1⟩;obtain⟨pa,pb,e⟩:=S'.to;exact⟨pa,pb,k2.extBut _ _ D.TOz e⟩
 done:=by
  kj_on;subst hP hw hK;obtain⟨xs,ys,q1,q2,e⟩:=hg;obtain⟨us,r1,p1,_⟩:=I.tuple q1;obtain⟨vs,r2,p2,_⟩:=I.tuple q2;have l1:=r1.length;have l2:=r2.length;refine fin (I.ok.hd hc) D st (show s.heap.IsTuple t1 us.toArray from p1) (show s.heap.IsTuple t2 vs.toArray from p2) (e.imp (λq=>by simp;lia) λq=>by simp;lia) λh' kp=>⟨rfl,I.turnedL (t':=s.toks) (λb o hb e =>?_) hf⟩
  simp only[ww,vn,jc,not_or] at hb;exact kp b o hb.1 hb.2.1 hb.2.2.1 hb.2.2.2.1 e
 self:=λ_ _ _ _ _ st h=>wpAny_pyIter_zip st.z h
def iZip (K:W.Frag)(ta:TA):TI:=λσ H R=>ta σ H λvs H1=>∃a b,vs=[.ref a,.ref b]/\(∃xs,SqT K H1 a xs)/\(∃ys,SqT K H1 b ys)/\R (Itz K a b) H1
section
variable {X:Cx}{es:List Expr}{kk:Nat}{tp:Pos}
def zgY {a b:Expr}{ta:TA}{p pos:Pos}(hg:Gl X "zip")(hm:X.mg "zip"=none)(ha:PA X [a,b] ta)(hs:starEach [a,b] X.env=[(false,eval a X.env),(false,eval b X.env)]:=by rfl)(hs2:starEach [b] X.env=[(false,eval b X.env)]:=by rfl):PI X (.Tuple es kk tp) (.Call (.Name "zip" p) [a,b] [] pos) (iZip X.K ta):=by
 intro pins s σ H R I h;refine Call_ (z40 I hg hm (show bootBuiltins "zip"=some (.type "zip") from rfl) (uV (thn (ha pos pins s σ H _ I h) λus s1 z9 =>?_) (by rw[hs,hs2]) (by rw[hs2];rfl)));obtain⟨vs,H1,I1,r1,q1⟩:=z9;obtain⟨t1,t2,e,⟨xs,q2⟩,⟨ys,q3⟩,q⟩:=q1;subst e
 cases r1 with
 | cons r rr=>
  cases rr with
  | cons r' rr=>
   cases rr
   cases (show _=Value.ref t1 from r)
   cases (show _=Value.ref t2 from r')
   obtain⟨us,rv1,p1,_⟩:=I1.tuple q2;obtain⟨vs,rv2,p2,_⟩:=I1.tuple q3;have l1:t1<s1.heap.objs.size:=by obtain⟨o,e,_⟩:=p1;exact wE e
   have l2:t2<s1.heap.objs.size:=by obtain⟨o,e,_⟩:=p2;exact wE e
   refine zjN (show s1.heap.IsTuple t1 us.toArray from p1) (show s1.heap.IsTuple t2 vs.toArray from p2) λh' S kp =>?_;refine wpAny_pyIter_zip S.z ?_;have I2:Inv X pins σ H1 { s1 with heap:=h',toks:=s1.toks }:=I1.kept (t':=s1.toks) kp;refine⟨_,_,_,_,H1,rfl,I2,zbD (zipApart_new l1 l2),S,λb hb =>?_,q⟩;have hb':s1.heap.objs.size<=b:=by
    simp only[ww,vn,jc] at hb
    rcases hb with rfl | rfl | rfl | rfl | rfl
    .exact jD _ 4
    .exact jD _ 3
    .exact wx _
    .exact jD _ 1
    .exact jD _ 2
   exact I1.fpOk hb' (I1.hok.fresh hb')
end
end Zp
namespace Pu
open PySem PySem.Spec PyProof.Rows L2 Zp
def gZip (a b:D)(Q:DK):Prop:=match a,b with
 | .tup l,.tup m=>Q (.lst ((l.zip m).map λp =>.tup [p.1,p.2]))
 | _,_=>False
def zaX (a b:D)(Q Q':DK)(m:∀d,Q d->Q' d)(h:gZip a b Q):gZip a b Q':=by
 unfold gZip at h ⊢
 split at h
 .exact m _ h
 .exact h.elim
def zcs:Fn:=fn2 gZip zaX
def zbA {K:W.Frag}{mg:WmP}{G:Hp}{a b:Addr}{xs ys:List V}{l m:List D}(h1:SqT K G a xs)(h2:SqT K G b ys)(r1:RDs K mg G l xs)(r2:RDs K mg G m ys):Walk K mg G ((l.zip m).map λp =>.tup [p.1,p.2]) (Itz K a b):=λi G1 H g1 g2=>by
 have k1:=z0F (z01 g1 g2) h1;have k2:=z0F (z01 g1 g2) h2;refine⟨λd e =>?_,λhi=>⟨xs,ys,k1,k2,?_⟩⟩
 .rw[wB,vL] at e;obtain⟨⟨d1,d2⟩,e,rfl⟩:=e;rw[List.getElem?_zip_eq_some] at e;obtain⟨v1,e1,rd1⟩:=r1.get e.1;obtain⟨v2,e2,rd2⟩:=r2.get e.2;refine⟨⟨xs,ys,v1,v2,k1,k2,e1,e2⟩,λv H' y =>?_⟩;obtain⟨p,x,y,rfl,hp,rfl,q⟩:=y;obtain⟨w1,w2⟩:=q xs ys k1 k2;rw[e1] at w1;rw[e2] at w2
  cases w1
  cases w2
  have gp:=z0Y g2 hp;refine⟨z0i hp _,upd G1 p (.tup [v1,v2]),?_,?_,?_⟩
  .exact Gr.new g2 hp
  .intro c u e
   by_cases z:c=p
   .subst z;rw[z0b] at e ⊢;exact e
   .rw[z05 z] at e ⊢;exact g2 c u e
  .exact RD.newT (RDs.cons (rd1.same g1) (RDs.cons (rd2.same g1) RDs.nil)) g2 hp
 .simp only[wg,List.length_zip] at hi;rw[r1.len,r2.len];lia
section
variable {X:Cx}{E:XK}
def zcd (hg:Gl X "zip")(hm:X.mg "zip"=none)(ha:QXA X E [a,b] [x,y])(hs:starEach [a,b] X.env=[(false,eval a X.env),(false,eval b X.env)]:=by rfl)(hs2:starEach [b] X.env=[(false,eval b X.env)]:=by rfl):
  QXI X E (.Tuple es kk tp) (.Call (.Name "zip" p) [a,b] [] pos) (.op zcs [x,y]):=QI.imp (⟨zgY hg hm ha.p hs hs2⟩:QI X (.Tuple es kk tp) (.Call (.Name "zip" p) [a,b] [] pos) _) <| by
 rintro σ H R ⟨G,ρ,Q0,X0,hs,ab,hr,hz,hk,hx⟩;refine⟨G,ρ,_,X0,hs,ab,(show runs [x,y] ρ (λds=>zcs.run ds Q0 X0) X0 from hr),λds vs G1 H1 q g1 g2 g3 rds =>?_,hx⟩
 match ds,q,rds with
 | [d1,d2],q,rds=>
  have q':gZip d1 d2 Q0:=q;unfold gZip at q'
  split at q'
  .rw[RDs] at rds;obtain⟨v1,r1,rfl,h1,h2⟩:=rds;rw[RDs] at h2;obtain⟨v2,r2,rfl,h2,h3⟩:=h2;rw[RDs] at h3;subst h3;obtain⟨a1,xs,rfl,s1,w1⟩:=z1o h1;obtain⟨a2,ys,rfl,s2,w2⟩:=z1o h2;exact⟨a1,a2,rfl,⟨xs,z0F g2 s1⟩,⟨ys,z0F g2 s2⟩,hk _ G1 H1 q' g1 g2 g3 _ _ rfl (zbA s1 s2 w1 w2)⟩
  .exact q'.elim
end
end Pu
namespace Pu
open PySem L2
def z1A:Fn:=Fn.mkN 2 4 (.seq (.set 2 (.op pGt [.v 0,.op pTup [.c (.int 0),.c (.int 0)]]))
 (.seq (.set 3 (.op pGt [.v 1,.op pTup [.c (.int 0),.c (.int 0)]]))
 (.seq (.ifs (.op pNe [.v 2,.v 3]) (.ret (.v 2)) .skip)
 (.ret (.op pGt [.op z2q [.v 0,.v 1],.c (.int 0)])))))
def z0Z:Fn:=Fn.mkN 2 3 (.seq (.ifs (.op pEq [.op pLen [.v 0],.c (.int 1)]) (.ret (.op pLst [])) .skip)
 (.seq (.set 2 (.op pAdd [.sl (.v 0) (some (.c (.int 1))) none,.sl (.v 0) none (some (.c (.int 1)))]))
 (.ret (.comp 2 [1] (.tp [0,1]) (.op zcs [.v 0,.v 2]) none (.callv z7P 2 [.v 0,.v 1])))))
def z1a:Fn:=Fn.mkN 2 7 (.seq (.own 2 (.op pLst []))
 (.seq (.ifs (.op pGt [.v 1,.c (.int 0)]) (.seq (.set 3 (.op pPow [.c (.int 10),.c (.int 9)]))
 (.ret (.op z3Z [.comp 1 [3] (.nm 0) (.v 0) none (.op pTup [.op z06 [.v 0,.v 1],.op z06 [.op z0D [.v 0,.op pAdd [.op z09 [.c (.int 2),.v 1],.c (.int 1)]],.v 1]])]))) .skip)
 (.seq (.for_ [] (.nm 4) (.v 0) (.seq (.set 5 (.op z0d [.v 4,.c (.int 5)]))
 (.seq (.set 6 (.op pTup [.op pSub [.op pMod [.v 5,.c (.int 19)],.c (.int 9)],.op pSub [.op pMod [.op z0D [.v 5,.c (.int 19)],.c (.int 19)],.c (.int 9)]]))
 (.seq (.ifs (.op pEq [.op pMod [.op z0D [.v 5,.c (.int 361)],.c (.int 4)],.c (.int 1)]) (.set 6 (.op pTup [.op pSub [.op pMod [.v 4,.op pAdd [.op z09 [.c (.int 2),.op pPow [.c (.int 10),.c (.int 9)]],.c (.int 1)]],.op pPow [.c (.int 10),.c (.int 9)]],.op pSub [.op pMod [.op z0D [.v 5,.c (.int 1444)],.c (.int 2001)],.c (.int 1000)]])) .skip)
 (.app 2 (.v 6))))))
 (.ret (.op z3Z [.v 2])))))
def z1P:Fn:=Fn.mkN 2 8 (.seq (.set 2 (.op z07 [.op pIx [.v 0,.c (.int 2)],.op pIx [.v 1,.c (.int 2)]]))
 (.seq (.set 3 (.op z0D [.op pIx [.v 1,.c (.int 2)],.v 2]))
 (.seq (.set 4 (.op z0D [.op pIx [.v 0,.c (.int 2)],.v 2]))
 (.seq (.set 5 (.op pAdd [.op z09 [.op pIx [.v 0,.c (.int 0)],.v 3],.op z09 [.op pIx [.v 1,.c (.int 0)],.v 4]]))
 (.seq (.set 6 (.op pAdd [.op z09 [.op pIx [.v 0,.c (.int 1)],.v 3],.op z09 [.op pIx [.v 1,.c (.int 1)],.v 4]]))
 (.seq (.set 7 (.op z07 [.op z07 [.v 2,.v 5],.v 6]))
 (.ret (.op pTup [.op z0D [.v 5,.v 7],.op z0D [.v 6,.v 7],.op z09 [.v 4,.op z0D [.op pIx [.v 1,.c (.int 2)],.v 7]]]))))))))
def z0H:Fn:=Fn.mkN 2 2 (.ret (.op z1P [.v 0,.op pTup [.op pIx [.v 1,.c (.int 0)],.op pIx [.v 1,.c (.int 1)],.c (.int 1)]]))
def z0f:Fn:=Fn.mkN 2 8 (.seq (.ifs (.op pEq [.op pLen [.v 0],.c (.int 0)]) (.ret (.op pTup [])) .skip)
 (.seq (.set 2 (.op z19 [.v 1]))
 (.seq (.set 3 (.op z0Z [.v 0,.c (.fn 3)]))
 (.seq (.set 4 (.op z0Z [.v 2,.c (.fn 2)]))
 (.seq (.set 5 (.c (.int 0)))
 (.seq (.set 6 (.c (.int 0)))
 (.seq (.own 7 (.op pLst [.op z0H [.op pIx [.v 0,.c (.int 0)],.op pIx [.v 2,.c (.int 0)]]]))
 (.seq (.wh (.or (.op pLt [.v 5,.op pLen [.v 3]]) (.op pLt [.v 6,.op pLen [.v 4]])) (.seq (.ifs (.or (.op pEq [.v 6,.op pLen [.v 4]]) (.and (.op pLt [.v 5,.op pLen [.v 3]]) (.op z1A [.op pIx [.v 3,.v 5],.op pIx [.v 4,.v 6]]))) (.set 5 (.op pAdd [.v 5,.c (.int 1)])) (.set 6 (.op pAdd [.v 6,.c (.int 1)])))
 (.app 7 (.op z0H [.op pIx [.v 0,.op pMod [.v 5,.op pLen [.v 0]]],.op pIx [.v 2,.op pMod [.v 6,.op pLen [.v 2]]]]))))
 (.ret (.op z14 [.v 7]))))))))))
def z2j:Fn:=Fn.mkN 1 1 (.ret (.comp 2 [] (.tp [0,1]) (.op z1b [.v 0,.c (.fn 3)]) none (.op pTup [.v 0,.op z3S [.v 0,.v 1]])))
def z1m:Fn:=Fn.mkN 2 5 (.seq (.ifs (.op pEq [.op pLen [.v 1],.c (.int 0)]) (.ret (.op pTup [])) .skip)
 (.seq (.set 2 (.v 0))
 (.seq (.for_ [] (.tp [3,4]) (.op z2j [.v 1]) (.set 2 (.op z2i [.v 2,.v 3,.v 4])))
 (.ret (.op z14 [.v 2])))))
def z0Q:Fn:=Fn.mkN 3 9 (.seq (.set 3 (.op z0f [.v 0,.v 2]))
 (.seq (.own 4 (.op pLst []))
 (.seq (.for_ [] (.nm 5) (.v 1) (.for_ [] (.nm 6) (.v 2) (.seq (.set 7 (.op pAdd [.op pIx [.v 5,.c (.int 0)],.op z09 [.op pIx [.v 6,.c (.int 0)],.op pIx [.v 5,.c (.int 2)]]]))
 (.app 4 (.op z03 [.v 7,.op pAdd [.op pIx [.v 5,.c (.int 1)],.op z09 [.op pIx [.v 6,.c (.int 1)],.op pIx [.v 5,.c (.int 2)]]],.op pIx [.v 5,.c (.int 2)]])))))
 (.seq (.ifs (.not (.op z0J [.v 3])) (.ret (.c (.bl false))) .skip)
 (.seq (.for_ [] (.nm 8) (.v 3) (.ifs (.op zap [.v 8,.v 4]) (.ret (.c (.bl false))) .skip))
 (.ret (.op pAll [.comp 1 [3] (.nm 0) (.v 4) none (.op z0k [.v 1,.v 0])])))))))
def z0U:Fn:=Fn.mkN 3 6 (.seq (.set 3 (.op zeW [.comp 1 [2] (.nm 0) (.v 1) none (.op z0B [.v 0,.v 1])]))
 (.seq (.set 4 (.op z0V [.v 0,.v 2]))
 (.seq (.set 5 (.op z0V [.op z0f [.v 0,.v 1],.v 2]))
 (.ret (.op pEq [.v 5,.op pTup [.op pAdd [.op pIx [.v 4,.c (.int 0)],.op z09 [.v 3,.op pIx [.v 4,.c (.int 1)]]],.op pIx [.v 4,.c (.int 1)]]])))))
def z4A:Fn:=Fn.mkN 1 14 (.seq (.set 1 (.op z0K [.v 0,.c (.int 0)]))
 (.seq (.set 2 (.op z09 [.c (.int 57),.op pMod [.v 1,.c (.int 2)]]))
 (.seq (.set 3 (.op pAdd [.op pLst [.op z0D [.v 1,.c (.int 2)]],.sl (.v 0) (some (.c (.int 1))) (some (.c (.int 63)))]))
 (.seq (.set 4 (.op zeV [.c (.int 12),.op z0D [.op pAdd [.op pLen [.v 3],.c (.int 1)],.c (.int 2)]]))
 (.seq (.set 5 (.op z0R [.sl (.v 3) none (some (.v 4)),.v 2]))
 (.seq (.set 6 (.op z1a [.sl (.op pAdd [.sl (.v 3) (some (.v 4)) (some (.op pAdd [.v 4,.c (.int 12)])),.op pLst [.v 1]]) none (some (.op pAdd [.c (.int 1),.op pMod [.op z0D [.v 1,.c (.int 2)],.c (.int 12)]])),.v 2]))
 (.seq (.set 7 (.op z14 [.op z3Z [.v 5]]))
 (.seq (.set 8 (.op z3Z [.comp 1 [] (.nm 0) (.v 6) none (.op pTup [.op pSub [.c (.int 0),.op pIx [.v 0,.c (.int 0)]],.op pSub [.c (.int 0),.op pIx [.v 0,.c (.int 1)]]])]))
 (.seq (.ifs (.or (.op pNe [.op z0f [.op pTup [],.v 6],.op pTup []]) (.not (.op z0Q [.v 7,.v 5,.v 6]))) (.ret (.c (.bl false))) .skip)
 (.seq (.set 9 (.op z0f [.v 7,.v 8]))
 (.seq (.for_ [] (.nm 10) (.op pAdd [.sl (.v 3) (some (.v 4)) (some (.op pAdd [.v 4,.c (.int 10)])),.op pLst [.v 1]]) (.seq (.set 11 (.op z0r [.v 10]))
 (.seq (.set 12 (.op z0h [.v 10,.op zaq [.v 9]]))
 (.seq (.ifs (.op pGt [.v 2,.c (.int 0)]) (.seq (.set 11 (.op z0l [.v 10,.v 2]))
 (.set 12 (.op z0e [.v 10,.v 2]))) .skip)
 (.seq (.ifs (.not (.op z0U [.v 7,.v 6,.v 11])) (.ret (.c (.bl false))) .skip)
 (.seq (.set 13 (.op z1m [.op z0f [.op pTup [.v 12],.v 6],.v 7]))
 (.ifs (.op pNe [.op z21 [.v 9,.v 12],.op pGt [.op pLen [.v 13],.c (.int 0)]]) (.ret (.c (.bl false))) .skip)))))))
 (.ret (.c (.bl true))))))))))))))
open Mth
def zhJ {c p:T3}(hc:0<c.2.2):bey b (lf b c) p<=0↔Nf b p c:=by
 obtain⟨p0,e,_⟩:=zcG (b:=b) hc;have s:=z2M (x:=bey b (lf b c) p) (y:=ss b p*c.2.2 - ss b c*p.2.2) hc p0 (by
  unfold bey;generalize lf b c=r at*
  grind)
 unfold Nf;omega
def zfd {α:Type}:∀{l:List α},l.length=2->∃a b,l=[a,b]
 | [a,b],_=>⟨a,b,rfl⟩
def z9H (is:z04 (· ∈ h.map (Geo.up M)) (h.map (Geo.up M)))(hM:∀t∈h,Dv M t)(hp:Dv M p)(lo:∀t∈h,Lo t)(hn:h≠[]):InA h p↔∀x∈z1j h,Nf x.1 p x.2:=by
 have h0:0<h.length:=vq.mpr hn;rw[<- z5p is hM hp];have lm:(h.map (Geo.up M)).length=h.length:=wg ..
 by_cases l1:h.length=1
 .obtain⟨a,rfl⟩:∃a,h=[a]:=List.length_eq_one_iff.mp l1;have ma:=hM a (by simp);have sd:∀x∈z1j [a],∃b∈ways,x=(b,a):=λx hx=>by
   rw[z1j,if_pos l1] at hx;obtain⟨b,hb,rfl⟩:=wv.mp hx;exact⟨b,hb,rfl⟩
  have ds:∀b∈ways,(b,a)∈z1j [a]:=λb hb=>by
   rw[z1j,if_pos l1];exact wv.mpr ⟨b,hb,rfl⟩
  show Geo.up M p=Geo.up M a↔_
  w_up
  .intro e x hx;obtain⟨b,_,rfl⟩:=sd x hx;rw[z35 hp ma,e];exact ul _
  .intro z;have z1:=(z35 hp ma).mp (z _ (ds (1,0) (by simp[ways])));have z2:=(z35 hp ma).mp (z _ (ds (0,1) (by simp[ways])));have z3:=(z35 hp ma).mp (z _ (ds (-1,0) (by simp[ways])));have z4:=(z35 hp ma).mp (z _ (ds (0,-1) (by simp[ways])));unfold Qb at z1 z2 z3 z4;simp at z1 z2 z3 z4;exact vV (by omega) (by omega)
 .have st:∀j,j<h.length->Stl (cyT h (j+h.length - 1)) (cyT h j) (stl (cyT h (j+h.length - 1)) (cyT h j)) _:=λj hj=>z6y (z4m (lo _ (z0q h0)) (lo _ (z0q h0)) (z7c is (by omega) j hj));have cr:=λj hj=>zed (hM _ (z0q h0)) (hM _ (z0q h0)) hp (st j hj);have sd:(∀x∈z1j h,Nf x.1 p x.2)↔∀j,j<h.length->0<=Qc (Geo.up M (cyT h (j+h.length - 1))) (Geo.up M (cyT h j)) (Geo.up M p)/\(h.length=2->0<=dot (Geo.up M (cyT h j)) (Geo.up M (cyT h (j+h.length - 1))) (Geo.up M p)):=by
   rw[z1j,if_neg l1]
   w_up
   .intro z j hj;refine⟨(cr j hj).1.mp (z (rt (stl (cyT h (j+h.length - 1)) (cyT h j)),cyT h j) (u9.mpr ⟨j,vI.mpr hj,by unfold z1Y;exact wJ⟩)),λh2=>(cr j hj).2.mp (z (stl (cyT h (j+h.length - 1)) (cyT h j),cyT h j) (u9.mpr ⟨j,vI.mpr hj,by unfold z1Y;rw[if_pos h2];simp⟩))⟩
   .intro z x hx;obtain⟨j,hj,hx⟩:=u9.mp hx;have hj:=vI.mp hj;obtain⟨z1,z2⟩:=z j hj;unfold z1Y at hx
    rcases ww.mp hx with rfl | hx
    .exact(cr j hj).1.mpr z1
    .by_cases h2:h.length=2
     .rw[if_pos h2] at hx;rw[wq.mp hx];exact(cr j hj).2.mpr (z2 h2)
     .rw[if_neg h2] at hx;simp at hx
  rw[sd];have g:∀i,h[i % h.length]? = some (cyT h i):=λi=>z23 h0
  by_cases l2:h.length=2
  .obtain⟨a,c,rfl⟩:=zfd l2;have e2:cyT [a,c] (1+[a,c].length - 1)=a:=by simp[cyT]
   have ds:(∀j,j < [a,c].length->0<=Qc (Geo.up M (cyT [a,c] (j+[a,c].length - 1))) (Geo.up M (cyT [a,c] j)) (Geo.up M p)/\([a,c].length=2->0<=dot (Geo.up M (cyT [a,c] j)) (Geo.up M (cyT [a,c] (j+[a,c].length - 1))) (Geo.up M p)))↔(0<=Qc (Geo.up M c) (Geo.up M a) (Geo.up M p)/\0<=dot (Geo.up M a) (Geo.up M c) (Geo.up M p))/\(0<=Qc (Geo.up M a) (Geo.up M c) (Geo.up M p)/\0<=dot (Geo.up M c) (Geo.up M a) (Geo.up M p)):=by
    w_up
    .intro z;have y0:=z 0 (by simp);have y1:=z 1 (by simp);rw[e2] at y1;exact⟨⟨y0.1,y0.2 rfl⟩,⟨y1.1,y1.2 rfl⟩⟩
    .rintro⟨⟨y1,y2⟩,y3,y4⟩ j hj
     rcases(by simp at hj;omega:j=0\/j=1) with rfl | rfl
     .exact⟨y1,λ_=>y2⟩
     .rw[e2];exact⟨y3,λ_=>y4⟩
   rw[ds];show Qc (Geo.up M a) (Geo.up M c) (Geo.up M p)=0/\0<=dot (Geo.up M a) (Geo.up M c) (Geo.up M p)/\0<=dot (Geo.up M c) (Geo.up M a) (Geo.up M p)↔_;have sw:Qc (Geo.up M c) (Geo.up M a) (Geo.up M p) = -Qc (Geo.up M a) (Geo.up M c) (Geo.up M p):=by simp only[Qc];grind
   rw[sw];omega
  .rw[In.three (by rw[lm];omega)]
   w_up
   .intro z j hj;refine⟨z j _ _ (by rw[lm];exact hj) ?_ ?_,λw=>absurd w l2⟩
    .rw[lm,wB,g];rfl
    .have:=g j;rw[wQ hj] at this;rw[wB,this];rfl
   .intro z j A B hj eA eB;rw[lm] at hj eA;rw[wB,g] at eA;have gj:=g j;rw[wQ hj] at gj;rw[wB,gj] at eB
    cases eA
    cases eB
    exact(z j hj).1
def z9I (is:z04 (· ∈ h.map (Geo.up M)) (h.map (Geo.up M)))(hp:∀t∈h,Px t)(hn:h≠[]):∀x∈z1j h,x.2∈h/\Vb 601 x.1/\¬ (x.1.1=0/\x.1.2=0):=by
 have h0:0<h.length:=vq.mpr hn;intro x hx;unfold z1j at hx
 split at hx
 .obtain⟨b,hb,rfl⟩:=wv.mp hx;refine⟨z0q h0,?_⟩;have one:∀b:P,b∈ways->Vb 601 b/\¬ (b.1=0/\b.2=0):=λb hb=>by
   simp only[ways,ww,vn,jc] at hb
   rcases hb with rfl | rfl | rfl | rfl <;> exact⟨⟨Bt.le (m:=4) (z08 (by decide)),Bt.le (m:=4) (z08 (by decide))⟩,by decide⟩
  exact one b hb
 .rename_i l1
  obtain⟨j,hj,hx⟩:=u9.mp hx;have hj:=vI.mp hj;have pa:=hp _ (z0q (i:=j+h.length - 1) h0);have pc:=hp _ (z0q (i:=j) h0);have ne:=z4m pa.lo pc.lo (z7c is (by omega) j hj);have st:=z6y ne;have b1:Bt 601 (Qa (cyT h (j+h.length - 1)) (cyT h j)).1:=(Bt.sub (Bt.mul pc.bx pa.bw) (Bt.mul pa.bx pc.bw)).le;have b2:Bt 601 (Qa (cyT h (j+h.length - 1)) (cyT h j)).2:=(Bt.sub (Bt.mul pc.bY pa.bw) (Bt.mul pa.bY pc.bw)).le;have s1:=b1.of_abs st.n1;have s2:=b2.of_abs st.n2;have nz:¬ ((stl (cyT h (j+h.length - 1)) (cyT h j)).1=0/\(stl (cyT h (j+h.length - 1)) (cyT h j)).2=0):=λz=>ne ⟨by rw[<- st.e1,z.1];simp,by rw[<- st.e2,z.2];simp⟩;unfold z1Y at hx
  rcases ww.mp hx with rfl | hx
  .exact⟨z0q h0,⟨s2,s1.of_abs (by show (-_:Int).natAbs<=_;omega)⟩,λz=>nz ⟨by have : -(stl (cyT h (j+h.length - 1)) (cyT h j)).1=0:=z.2;omega,z.1⟩⟩
  .split at hx
   .rw[wq.mp hx];exact⟨z0q h0,⟨s1,s2⟩,nz⟩
   .simp at hx
def zjw {c:T3}(hb:Vb 601 b)(hc:Px c):Sd b (lf b c):=by
 obtain⟨g0,e1,e2,p,_⟩:=z6g (t:=ss b c) hc.lo.1;have bs:Bt 1002 (ss b c):=(Bt.add (Bt.mul hb.1 hc.bx) (Bt.mul hb.2 hc.bY)).le;have le:∀{x g u:Int},0<g->x=g*u->u.natAbs<=x.natAbs:=λ{x g u} g0 e=>by
  rw[e,vz];exact Nat.le_mul_of_pos_left _ (by omega)
 exact⟨hb.1,hb.2,(zcG hc.lo.1).1,bs.of_abs (le g0 e1),hc.bw.of_abs (le g0 e2)⟩
theorem zd9 {α:Type}{R:α->α->Prop}:∀{l:List α}{a:α},(∀(k:Nat) (x y:α),(a::l)[k]? = some x->l[k]? = some y->R x y)->Ch R a l
 | [],_,_=>trivial
 | b::r,a,h=>⟨h 0 a b rfl rfl,zd9 λk x y hx hy=>h (k+1) x y (by simpa using hx) (by simpa using hy)⟩
def z8p {h:List T3}(hn:h≠[]){k:Nat}{x y:T3}(hx:(h.getLast hn::h)[k]? = some x)(hy:h[k]? = some y):k<h.length/\h[(k+h.length - 1) % h.length]? = some x:=by
 have hk:k<h.length:=(wu.mp hy).1;refine⟨hk,?_⟩;rw[z8I hn hk, <- hx]
 cases k with
 | zero=>simp
 | succ k=>
  have ne':h.take (k+1)≠[]:=by
   intro z;have:=congrArg List.length z;rw[vO,v7] at this;omega
  rw[w6 ne',jA];simp only[vO,List.getElem_take,uS];rw[wp (by omega)]
  congr 2
  omega
def Gd.of {M:Int}{h:List T3}(is:z04 (· ∈ h.map (Geo.up M)) (h.map (Geo.up M)))(hM:∀t∈h,Dv M t)(hp:∀t∈h,Px t)(hn:h≠[]):Gd h:=by
 have h0:0<h.length:=vq.mpr hn;have lm:(h.map (Geo.up M)).length=h.length:=wg ..;have step:∀(k:Nat) (x y:T3),(h.getLast hn::h)[k]? = some x->h[k]? = some y->(∀r∈h,0<=cr3 x y r)/\OnL x y:=λk x y hx hy=>by
  obtain⟨hk,ex⟩:=z8p hn hx hy;have mx:=wy ex;have my:=wy hy
  by_cases l1:h.length=1
  .obtain⟨a,rfl⟩:∃a,h=[a]:=List.length_eq_one_iff.mp l1;rw[wq.mp mx,wq.mp my];have pa:=hp a (by simp);exact⟨λr _=>by unfold cr3;grind,⟨a.2.2,0,a.1⟩,⟨pa.bw.le,(Bt.le (m:=4) (z08 (by decide)):Bt 801 (0:Int)),pa.bx.le,λz=>by have:=pa.lo.1;have:=z.1;simp at this;omega⟩,by unfold Geo.Ln.on;grind,by unfold Geo.Ln.on;grind⟩
  .have e:=is.cyc (by rw[lm];omega) (j:=k) (by rw[lm];exact hk) (a:=Geo.up M x) (b:=Geo.up M y) (by rw[lm,wB,ex];rfl) (by rw[wB,hy];rfl);refine⟨λr hr=>(zbi (hM x mx) (hM y my) (hM r hr)).mpr (e.left _ (vd hr)),?_⟩;have px:=hp x mx;have py:=hp y my;have ne:=z4m px.lo py.lo λz=>e.ne (by rw[z]);refine⟨⟨(Qa x y).2,-(Qa x y).1,x.1*y.2.1 - x.2.1*y.1⟩,⟨?_,?_,(Bt.sub (Bt.mul px.bx py.bY) (Bt.mul px.bY py.bx)).le,λz=>ne ⟨by have:=z.2;simp at this;exact this,z.1⟩⟩,?_,?_⟩
   .exact(Bt.sub (Bt.mul py.bY px.bw) (Bt.mul px.bY py.bw)).le
   .exact(Bt.neg (Bt.sub (Bt.mul py.bx px.bw) (Bt.mul px.bx py.bw))).le
   .unfold Geo.Ln.on Qa;dsimp only;grind
   .unfold Geo.Ln.on Qa;dsimp only;grind
 exact⟨λt ht=>(hp t ht).py,⟨hn,zd9 λk x y hx hy=>(step k x y hx hy).1⟩,zd9 λk x y hx hy=>(step k x y hx hy).2⟩
end Pu
namespace Geo
section
variable {α:Type}
def tC (s:α->Bool)(a c:α):Nat:=if s a=s c then 0 else 1
def chg (s:α->Bool):α->List α->Nat
 | _,[]=>0
 | a,c::r=>tC s a c+chg s c r
def tC.tri {a b c:α}:tC s a c<=tC s a b+tC s b c:=by
 unfold tC
 cases s a <;> cases s b <;> cases s c <;> decide
def tC.btw {a x c:α}(h:s a=s c->s x=s a):tC s a x+tC s x c=tC s a c:=by
 unfold tC
 revert h
 cases s a <;> cases s x <;> cases s c <;> decide
def tC.self:tC s a a=0:=by unfold tC;simp
theorem chg.app {s:α->Bool}:∀{a:α}{l r:List α},chg s a (l++r)=chg s a l+chg s ((a::l).getLast (wC _ _)) r
 | a,[],r=>by simp[chg]
 | a,b::l,r=>by
  simp only[u7,chg];rw[chg.app (a:=b)];rw[w6 (l:=b::l) (by simp)];lia
def PcS (s:α->Bool)(a c:α)(ps:List α):Prop:=ps=[]\/ps=[c]\/∃x,(s a=s c->s x=s a)/\(ps=[x]\/ps=[x,c])
def PcS.step {s:α->Bool}{a c e:α}{ps:List α}(h:PcS s a c ps):chg s e ps+tC s ((e::ps).getLast (wC _ _)) c<=tC s e a+tC s a c:=by
 rcases h with rfl | rfl | ⟨x,hx,rfl | rfl⟩
 .simp only[chg,jH,je];exact tC.tri
 .simp only[chg,List.getLast_cons_cons,jH,tC.self,Nat.add_zero];exact tC.tri
 .simp only[chg,List.getLast_cons_cons,jH,Nat.add_zero];have:=tC.tri (s:=s) (a:=e) (b:=a) (c:=x);have:=tC.btw hx;lia
 .simp only[chg,List.getLast_cons_cons,jH,Nat.add_zero,tC.self];have:=tC.tri (s:=s) (a:=e) (b:=a) (c:=x);have:=tC.btw hx;lia
theorem CutG.chg {Pc:α->α->List α->Prop}:∀{a e:α}{l out:List α},CutG Pc a l out->(∀x y ps,(x=a\/x∈l)->y∈l->Pc x y ps->PcS s x y ps)->Geo.chg s e out+tC s ((e::out).getLast (wC _ _)) ((a::l).getLast (wC _ _))<=tC s e a+Geo.chg s a l
 | a,e,[],out,h,_=>by
  have h':out=[]:=h;subst h';simp[Geo.chg]
 | a,e,c::r,out,h,hp=>by
  k_go;have s1:=(hp a c ps (.inl rfl) (by simp) h1).step (e:=e);have s2:=CutG.chg (e:=(e::ps).getLast (wC _ _)) h2 λx y ps hx hy=>hp x y ps (.inr (by rcases hx with rfl | hx <;> simp[*])) (by simp[hy]);rw[chg.app,z73,w6 (l:=c::r) (by simp)];simp only[Geo.chg];lia
def CutG.chgR {Pc:α->α->List α->Prop}{inn Ex:α->Prop}(st:StG Pc R R' inn Ex){l out:List α}(hl:l≠[])(h:CutG Pc (l.getLast hl) l out)(hR:Ch R (l.getLast hl) l)(hi:∃a∈l,inn a)(hp:∀x y ps,x∈l->y∈l->Pc x y ps->PcS s x y ps):∃ho:out≠[],Geo.chg s (out.getLast ho) out<=Geo.chg s (l.getLast hl) l:=by
 obtain⟨a,ha,hac⟩:=hi;obtain⟨pre,post,rfl⟩:=jJ ha;have e0:pre++a::post=(pre++[a])++post:=by simp
 have hlast:(pre++a::post).getLast hl=(a::post).getLast (wC _ _):=by rw[wX]
 rw[hlast,e0] at h hR ⊢;obtain⟨o1,o2,c1,c2,rfl⟩:=CutG.app h;obtain⟨r1,r2⟩:=Ch.app.mp hR;have mid:((a::post).getLast (wC _ _)::(pre++[a])).getLast (wC _ _)=a:=by
  rw[w6 (by simp),wX _ (by simp)]
  rfl
 rw[mid] at c2 r2;obtain⟨w1,w2⟩:=CutG.chain st c2 (.inl ⟨hac,rfl⟩) r2;obtain⟨v1,v2⟩:=CutG.chain st c1 w2 r1;rw[mid] at v2;have la:(((a::o2).getLast (wC _ _))::o1).getLast (wC _ _)=a:=by
  rcases v2 with ⟨_,e⟩ | ⟨z,_⟩
  .exact e
  .exact absurd hac z
 have n1:o1≠[]:=by
  obtain⟨p1,p2,q1,q2,rfl⟩:=CutG.app c1;obtain⟨ps,o,k1,k2,rfl⟩:=q2;simp[st.has _ _ _ k1 hac]
 have l1:o1.getLast n1=a:=by rw[<- la,w6 n1]
 refine⟨by simp[n1],?_⟩;have l2:(o1++o2).getLast (by simp[n1])=(a::o2).getLast (wC _ _):=by
  cases o2 with
  | nil=>simp[l1]
  | cons b r=>
   rw[wX _ (by simp)];exact(w6 (a:=a) (l:=b::r) (by simp)).symm
 have lm:(a::post).getLast (wC _ _)∈pre++a::post:=wF _ (u8 _);have k2:=CutG.chg (s:=s) (e:=a) c2 λx y ps hx hy=>hp x y ps (hx.elim (λz=>z ▸ ha) λz=>wF _ (wm _ z)) (wF _ (wm _ hy));have sub:∀z,z∈pre++[a]->z∈pre++a::post:=λz hz=>(wG.mp hz).elim (λw=>wR _ w) λw=>wF _ (by rw[wq.mp w];exact wJ);have k1:=CutG.chg (s:=s) (e:=(a::o2).getLast (wC _ _)) c1 λx y ps hx hy=>hp x y ps (hx.elim (λz=>z ▸ lm) (sub x)) (sub y hy);rw[la,mid,tC.self] at k1;rw[tC.self] at k2;rw[l2,chg.app,la,chg.app (l:=pre++[a]),mid];lia
theorem CutG.len {Pc:α->α->List α->Prop}{s:α->Bool}:∀{a:α}{l out:List α},CutG Pc a l out->(∀x y ps,Pc x y ps->ps.length<=1+tC s x y)->out.length<=l.length+Geo.chg s a l
 | a,[],out,h,_=>by
  have h':out=[]:=h;subst h';simp
 | a,c::r,out,h,hp=>by
  k_go;have s1:=hp a c ps h1;have s2:=CutG.len h2 hp;simp only[wL,w5,Geo.chg];lia
end
def zd3 {c:Int}(e:Edge S a b)(f:Edge S o d)(h1:Qb a u<=c)(h2:c<Qb b u)(h3:Qb o u<=c)(h4:c<Qb d u):a=o:=by
 refine vm λne =>?_;have bo:b≠o:=λz=>by rw[z] at h2;lia
 have p:=zdH e f ne bo;have k1:=e.left d f.sb;have k2:=f.left a e.sa;have k3:=f.left b e.sb;have id:(Qb d u - c)*Qc a b o+(c - Qb o u)*Qc a b d+((Qb b u - c)*Qc o d a+(c - Qb a u)*Qc o d b)=0:=by
  unfold Qb Qc
  grind
 have m1:=wP (show 0<Qb d u - c by lia) p;have m2:=wH (show 0<=c - Qb o u by lia) k1;have m3:=wH (show 0<=Qb b u - c by lia) k2;have m4:=wH (show 0<=c - Qb a u by lia) k3;lia
section
variable {α:Type}[DecidableEq α]
def ups (s:α->Bool):α->List α->Nat
 | _,[]=>0
 | a,c::r=>(if s a=true/\s c=false then 1 else 0)+ups s c r
def sgm (s:α->Bool)(a:α):Nat:=if s a=true then 1 else 0
theorem zbl:∀{a:α}{l:List α},chg s a l+sgm s a=2*ups s a l+sgm s ((a::l).getLast (wC _ _))
 | a,[]=>by simp[chg,ups]
 | a,c::r=>by
  have h:=zbl (s:=s) (a:=c) (l:=r);rw[w6 (l:=c::r) (by simp)];have k:tC s a c+sgm s a=2*(if s a=true/\s c=false then 1 else 0)+sgm s c:=by
   unfold tC sgm
   cases s a <;> cases s c <;> decide
  simp only[chg,ups];lia
def eqn (z a:α):Nat:=if a=z then 1 else 0
def cnt (z:α):List α->Nat
 | []=>0
 | a::l=>eqn z a+cnt z l
theorem z8E:∀{l:List α},z ∉ l->cnt z l=0
 | [],_=>rfl
 | a::l,h=>by
  have h1:a≠z:=λe=>h (by rw[e];simp);have h2:=z8E (z:=z) (l:=l) λw=>h (by simp[w]);simp[cnt,eqn,h1,h2]
theorem zbj:∀{l:List α},l.Nodup->cnt z l<=1
 | [],_=>by simp[cnt]
 | a::l,h=>by
  obtain⟨h1,h2⟩:=vY.mp h
  by_cases e:a=z
  .have:=z8E (e ▸ h1);simp[cnt,eqn,e,this]
  .have:=zbj (z:=z) h2;simp[cnt,eqn,e,this]
theorem z9u:∀{a:α}{l:List α},Ch (λx y=>s x=true->s y=false->x=z) a l->ups s a l+eqn z ((a::l).getLast (wC _ _))<=eqn z a+cnt z l
 | a,[],_=>by simp[ups,cnt]
 | a,c::r,h=>by
  have k:=z9u h.2;rw[w6 (l:=c::r) (by simp)];have:(if s a=true/\s c=false then 1 else 0)<=eqn z a:=by
   split
   .rename_i w
    simp[eqn,h.1 w.1 w.2]
   .simp
  simp only[ups,cnt];lia
def zfv {s:α->Bool}{E:α->α->Prop}{l:List α}(nd:l.Nodup)(hl:l≠[])(h:Ch E (l.getLast hl) l)(one:∀x y x' y',E x y->E x' y'->s x=true->s y=false->s x'=true->s y'=false->x'=x):chg s (l.getLast hl) l<=2:=by
 have key:∃z,Ch (λx y=>s x=true->s y=false->x=z) (l.getLast hl) l:=by
  by_cases w:∃x y,E x y/\s x=true/\s y=false
  .obtain⟨x,y,e,h1,h2⟩:=w;exact⟨x,Ch.mem (λx' y' _ _ k g1 g2=>one x y x' y' e k h1 h2 g1 g2) h⟩
  .exact⟨l.getLast hl,Ch.mem (λx' y' _ _ k g1 g2=>absurd ⟨x',y',k,g1,g2⟩ w) h⟩
 obtain⟨z,hz⟩:=key;have e:((l.getLast hl)::l).getLast (wC _ _)=l.getLast hl:=w6 hl;have k1:=z9u hz;have k2:=zbj (z:=z) nd;have k3:=zbl (s:=s) (a:=l.getLast hl) (l:=l);rw[e] at k1 k3;lia
end
end Geo
namespace Pu
open PySem L2 Mth
def sB (b m:Int × Int)(t:T3):Bool:=decide (bey b m t<=0)
def Un (C:List T3):Prop:=∀(ne:C≠[]) (b m:Int × Int),Geo.chg (sB b m) (C.getLast ne) C<=2
def Xng.btw {a c t:T3}(wa:0<a.2.2)(wc:0<c.2.2)(h1:bey b m a<0)(h2:0<bey b m c)(h:Xng b m a c t):sB b' m' a=sB b' m' c->sB b' m' t=sB b' m' a:=by
 have p0:=z5s wa wc h1 h2;have e1:=h.cx;have e2:=h.cy;have wt:=h.lo.1;have e:bey b' m' t*(a.2.2*bey b m c - c.2.2*bey b m a)=t.2.2*(bey b m c*bey b' m' a - bey b m a*bey b' m' c):=by
  generalize bey b m a=α at*;generalize bey b m c=β at*;unfold bey ss;rw[show ((b'.1*t.1+b'.2*t.2.1)*m'.2 - m'.1*t.2.2)*(a.2.2*β - c.2.2*α)=b'.1*m'.2*(t.1*(a.2.2*β - c.2.2*α))+b'.2*m'.2*(t.2.1*(a.2.2*β - c.2.2*α)) - m'.1*t.2.2*(a.2.2*β - c.2.2*α) by grind,e1,e2]
  grind
 have sg:=z2M (x:=bey b' m' t) (y:=bey b m c*bey b' m' a - bey b m a*bey b' m' c) p0 wt (by rw[e]);unfold sB;generalize bey b m a=α at*;generalize bey b m c=β at*;generalize bey b' m' a=x at*;generalize bey b' m' c=y at*;generalize bey b' m' t=z at*;intro w;have w':(x<=0↔y<=0):=by
  have:=congrArg (· = true) w;simp only[decide_eq_true_eq] at this;exact this ▸ Iff.rfl
 by_cases hx:x<=0
 .have hy:=w'.mp hx;have m1:=wH (show 0<=β by lia) (show 0 <= -x by lia);have m2:=wH (show 0 <= -α by lia) (show 0 <= -y by lia);have:β*x - α*y<=0:=by grind
  have:z<=0:=by lia
  simp[hx,this]
 .have hy:¬ y<=0:=λz=>hx (w'.mpr z);have m1:=wP h2 (show 0<x by lia);have m2:=wP (show 0 < -α by lia) (show 0<y by lia);have:0 < β*x - α*y:=by grind
  have:¬ z<=0:=by lia
  simp[hx,this]
def Pc3.pcs {a c:T3}{ps:List T3}(wa:0<a.2.2)(wc:0<c.2.2)(h:Pc3 b m a c ps):PcS (sB b' m') a c ps:=by
 rcases h with ⟨h1,h2,t,ht,rfl⟩ | ⟨h1,h2,t,ht,rfl⟩ | ⟨_,_,rfl⟩ | ⟨_,_,rfl⟩
 .exact .inr (.inr ⟨t,ht.btw wa wc h1 h2,.inl rfl⟩)
 .exact .inr (.inr ⟨t,λe=>(ht.btw wc wa h2 h1 e.symm).trans e.symm,.inr rfl⟩)
 .exact .inr (.inl rfl)
 .exact .inl rfl
def Pc3.len {b m:Int × Int}{a c:T3}{ps:List T3}(h:Pc3 b m a c ps):ps.length<=1+Geo.tC (sB b m) a c:=by
 rcases h with ⟨h1,h2,t,ht,rfl⟩ | ⟨h1,h2,t,ht,rfl⟩ | ⟨_,_,rfl⟩ | ⟨_,_,rfl⟩
 .simp
 .have e1:sB b m a=false:=vG (by lia);have e2:sB b m c=true:=vC (by lia);simp[Geo.tC,e1,e2]
 .simp
 .simp
structure Gu (C:List T3):Prop where
 gd:Gd C
 un:Un C
theorem Gu.step {b m:Int × Int}{C C':List T3}(g:Gu C)(sd:Sd b m)(hb:¬ (b.1=0/\b.2=0))(ct:Cut3 b m (C.getLast g.gd.wc.1) C C'):(C'=[]\/Gu C')/\C'.length<=C.length+2/\∀p:T3,0<p.2.2->(InA C' p↔InA C p/\bey b m p<=0):=by
 obtain⟨w,i⟩:=g.gd.step sd hb ct;have lastm:=u8 g.gd.wc.1;have pos:∀x∈C,0<x.2.2:=λx hx=>(g.gd.py x hx).lo.1;refine⟨?_,?_,i⟩
 .rcases w with w | w
  .exact .inl w
  .refine .inr ⟨w,λne b' m' =>?_⟩;have hi:∃a∈C,bey b m a<=0:=by
    obtain⟨t,ht⟩:=j3 _ ne;refine vm λno =>?_;have tp:=(w.py t ht).lo.1;obtain⟨k1,k2⟩:=(i t tp).mp λw=>⟨t,ht,by unfold Nf;exact ul _⟩
    obtain⟨c,hc,cw⟩:=k1 (-b.1,-b.2);refine no ⟨c,hc,?_⟩;have wc:=pos c hc;have mp:=sd.pos;unfold Nf ss at cw;dsimp only at cw;unfold bey ss at k2 ⊢;have s1:=vB k2 (vf wc);have s2:=wM cw (vf mp);refine vm λz =>?_;have s3:=wP tp (show 0<(b.1*c.1+b.2*c.2.1)*m.2 - m.1*c.2.2 by lia)
    grind
   have R0:Ch (λa c=>OnL a c/\0<a.2.2/\0<c.2.2) (C.getLast g.gd.wc.1) C:=Ch.mem (λx y hx hy k=>⟨k,by
    rcases hx with rfl | hx
    .exact pos _ lastm
    .exact pos x hx,pos y hy⟩) g.gd.ln
   obtain⟨_,r⟩:=CutG.chgR (s:=sB b' m') (z8n sd hb) g.gd.wc.1 (z8C ct) R0 hi λx y ps hx hy k=>k.pcs (pos x hx) (pos y hy);exact wO r (g.un _ b' m')
 .have l:=CutG.len (s:=sB b m) (z8C ct) λx y ps k=>k.len;have:=g.un g.gd.wc.1 b m;lia
theorem Gu.of {M:Int}{h:List T3}(is:z04 (· ∈ h.map (Geo.up M)) (h.map (Geo.up M)))(hM:∀t∈h,Dv M t)(hp:∀t∈h,Px t)(hn:h≠[]):Gu h:=by
 refine⟨Gd.of is hM hp hn,λne b m =>?_⟩;have lm:(h.map (Geo.up M)).length=h.length:=wg ..
 by_cases l1:h.length=1
 .obtain⟨a,rfl⟩:∃a,h=[a]:=List.length_eq_one_iff.mp l1;simp[Geo.chg,Geo.tC]
 have nd:h.Nodup:=List.Pairwise.of_map (Geo.up M) (λa b k e=>k (by rw[e])) is.nodup;refine zfv (E:=λx y=>x∈h/\y∈h/\Edge (· ∈ h.map (Geo.up M)) (Geo.up M x) (Geo.up M y)) nd ne (zd9 λk x y hx hy =>?_) ?_
 .obtain⟨hk,ex⟩:=z8p hn hx hy;refine⟨wy ex,wy hy,is.cyc (by rw[lm];have:=vq.mpr hn;lia) (j:=k) (by rw[lm];exact hk) (by rw[lm,wB,ex];rfl) (by rw[wB,hy];rfl)⟩
 .rintro x y x' y' ⟨mx,my,e⟩ ⟨mx',my',e'⟩ h1 h2 h3 h4;have f:∀t,t∈h->sB b m t=true->Qb (Geo.up M t) (uB b m)<=m.1*M:=λt ht k=>(z7o (hM t ht)).1.mpr (ur k);have g:∀t,t∈h->sB b m t=false->m.1*M<Qb (Geo.up M t) (uB b m):=λt ht k=>by
   have:=(z7o (b:=b) (m:=m) (hM t ht)).1;have k:=jI k;lia
  exact Lo.inj (hp x' mx').lo (hp x mx).lo (hM x' mx') (hM x mx) (zd3 e' e (f x' mx' h3) (g y' my' h4) (f x mx h1) (g y my h2))
abbrev zeU (x:P × T3):D :=.tup [vec x.1,vec (lf x.1 x.2)]
def z59:(z1j h).length<=h.length+3:=by
 unfold z1j
 split
 .simp[ways];lia
 .have:∀(c:Nat),(∀k,(z1Y h k).length<=c)->∀dn:List Nat,(dn.flatMap (z1Y h)).length<=c*dn.length:=λc hc dn=>by
   induction dn with
   | nil=>simp
   | cons k dn ih=>
    rw[ju,wL];have:=hc k;simp only[w5,Nat.mul_succ];lia
  by_cases h2:h.length=2
  .have:=this 2 (λk=>by unfold z1Y;rw[if_pos h2];simp) (List.range h.length);rw[jT] at this;lia
  .have:=this 1 (λk=>by unfold z1Y;rw[if_neg h2];simp) (List.range h.length);rw[jT] at this;lia
theorem Px.tz {t:T3}(h:Px t):Tz t:=h.py.tz
def zbW (hz:h.length<=1000)(hn:h≠[])(hp:∀t∈h,Px t)(is:z04 (· ∈ h.map (Geo.up M)) (h.map (Geo.up M)))(q:Q (.lst ((z1j h).map zeU))):z2j.run [pls3 h] Q X:=by
 have sd:=z9I is hp hn;have len:=z59 (h:=h);walk_at "fn";ac_nf;refine zbU hz hn hp is ?_;ac_nf;kl_no;refine z0O (g:=zeU) (λx hx K hK =>?_) ?_
 .obtain⟨m,v,_⟩:=sd x hx;refine⟨rfl,?_⟩;show Ex.run _ _ _ _;unfold z1E z1E z1E;ac_rfl;ac_nf;refine z9Y v.le (hp _ m).tz (hp _ m).lo.1 ?_;ac_nf;exact hK
 .exact q
def zbP {one other:List T3}(g:one=[]\/Gu one)(hz:one.length+2*(other.length+3)<=63)(hn:other≠[])(hp:∀t∈other,Px t)(hM:∀t∈other,Dv M t)(is:z04 (· ∈ other.map (Geo.up M)) (other.map (Geo.up M)))
  (q:∀C h,(C=[]\/Gu C)->(∀p:T3,0<p.2.2->(InA C p↔InA one p/\∀x∈z1j other,Nf x.1 p x.2))->Ar C h->Q (pls3 h)):z1m.run [pls3 one,pls3 other] Q X:=by
 have sd:=z9I is hp hn;have len:=z59 (h:=other);walk_at "fn";ac_nf;rw[wg];refine z0y (λz=>absurd (ue.mp (by lia)) hn) (λ_ =>?_);ac_nf;refine zbW (by lia) hn hp is ?_;ac_nf;refine z0u (f:=zeU) (λdn ρ=>∃(C:List T3) (d:D) (x y:B),ρ=[.s (pls3 one),.s (pls3 other),.s d,x,y]/\(d=pls3 C\/d = .lst (C.map pl3))/\(C=[]\/Gu C)/\C.length<=one.length+2*dn.length/\∀p:T3,0<p.2.2->(InA C p↔InA one p/\∀x∈dn,Nf x.1 p x.2)) ⟨one,_,_,_,rfl,.inl rfl,g,by simp,λp _=>by simp⟩ ?_ ?_
 .rintro dn v r ρ e ⟨C,d,x,y,rfl,hd,hg,hl,hi⟩;have mv:v∈z1j other:=by rw[e];simp
  have dl:dn.length<(z1j other).length:=by rw[e];simp
  obtain⟨m,vb,nz⟩:=sd v mv;have sv:=zjw vb (hp _ m);refine⟨rfl,?_⟩;l_bnd;unfold z1E z1E z1E;ac_rfl;ac_nf;refine zg3 hd sv (λt ht =>?_) (by lia) λleft e0 e1 _ =>?_
  .rcases hg with rfl | hg
   .cases ht
   .exact hg.gd.py t ht
  refine z1k (by repeat (first | exact trivial | refine⟨trivial,?_⟩)) ?_;ac_rfl;refine⟨left,_,_,_,rfl,.inr rfl,?_⟩;have split:∀p:T3,(∀x∈dn++[v],Nf x.1 p x.2)↔(∀x∈dn,Nf x.1 p x.2)/\Nf v.1 p v.2:=λp=>by
   simp only[wG,wq];exact⟨λk=>⟨λx hx=>k x (.inl hx),k v (.inr rfl)⟩,λk x hx=>hx.elim (k.1 x) λw=>w ▸ k.2⟩
  rcases hg with rfl | hg
  .have el:=e0 rfl;subst el;refine⟨.inl rfl,by simp,λp hp' =>?_⟩;rw[hi p hp',split];have no:¬ InA [] p:=λw=>by obtain⟨c,hc,_⟩:=w (0,0);cases hc
   have:=hi p hp'
   w_up
   .intro w;exact absurd (this.mpr w) no
   .intro w;exact⟨w.1,w.2.1⟩
  .obtain⟨w1,w2,w3⟩:=hg.step sv nz (e1 hg.gd.wc.1);refine⟨w1,by rw[wL,uH];lia,λp hp' =>?_⟩;rw[w3 p hp',hi p hp',split,zhJ (hp _ m).lo.1,and_assoc]
 .rintro ρ ⟨C,d,x,y,rfl,hd,hg,hl,hi⟩;ac_nf;have py:∀t∈C,Py t:=λt ht=>by
   rcases hg with rfl | hg
   .cases ht
   .exact hg.gd.py t ht
  exact z88 (l:=C) hd (λt ht=>(py t ht).tz) (λt ht=>(py t ht).lo) (by lia) λh x=>q C h hg hi x
end Pu
namespace Pu
open PySem L2
def zek (W:Pu.Env->Prop)(h:s.run ρ W Q X)(k:∀ρ',W ρ'->t.run ρ' N Q X):(Sm.seq s t).run ρ N Q X:=s.mono ρ W _ Q Q X X k (λ_ z=>z) (λ_ z=>z) h
def zdW {α:Type}{f:α->D}{l:List α}{k:Int}(h:0<=k):cutD (l.map f) (some k) none=(l.drop k.toNat).map f:=by
 have hs:HT.sIx l.length 0 (some k)=min k.toNat l.length:=by
  show (if k<0 then (k+(l.length:Int)).toNat else min k.toNat l.length)=_;rw[if_neg (by lia)]
 rw[z2n,hs];show ((l.drop (min k.toNat l.length)).take (l.length - min k.toNat l.length)).map f=_;rw[List.take_of_length_le (by simp)]
 rcases Nat.le_total k.toNat l.length with z | z
 .rw[Nat.min_eq_left z]
 .rw[Nat.min_eq_right z,List.drop_eq_nil_of_le z,List.drop_length]
def zhv (q:Q (.bl (!decide (x=y)))):pNe.run [.bl x,.bl y] Q X:=q
theorem filterMap_map {α β:Type}{f:α->Option β}{g:α->β}:∀{ks:List α},(∀k∈ks,f k=some (g k))->ks.filterMap f=ks.map g
 | [],_=>rfl
 | k::ks,h=>by rw[uk,h k (by simp),ve,filterMap_map λx hx=>h x (by simp[hx])]
def zhF (q:Q (.bl (HT.z0j [r.1,r.2] [p.1,p.2]))):pGt.run [vec p,vec r] Q X:=q
def zdP (u:P):HT.z0j [(0:Int),0] [u.1,u.2]=decide (Rs u):=by
 rw[jo,uO];exact(zaL (a:=(0,0)) (b:=u)).trans ⟨λh=>by simp only[Lx,Rs] at *;lia,λh=>by simp only[Lx,Rs] at *;lia⟩
def z6F {u v:P}(hu:Vb 30000000 u)(hv:Vb 30000000 v)(q:Q (.bl (decide (Be u v)))):z1A.run [vec u,vec v] Q X:=by
 walk_at "fn";ac_nf;refine zhF (p:=u) (r:=(0,0)) ?_;rw[show HT.z0j [((0,0):P).1,((0,0):P).2] [u.1,u.2]=decide (Rs u) from zdP u];ac_nf;refine zhF (p:=v) (r:=(0,0)) ?_;rw[show HT.z0j [((0,0):P).1,((0,0):P).2] [v.1,v.2]=decide (Rs v) from zdP v];ac_nf;refine zhv ?_;refine z5A (z0y (λe =>?_) (λe =>?_))
 .ac_nf;refine z6C hu hv ?_;ac_nf;have e':Rs u↔Rs v:=by rw[<- uO (p:=Rs u),e,uO]
  have:decide (0<u.1*v.2 - u.2*v.1)=decide (Be u v):=j6.mpr ⟨λz =>.inr ⟨e',z⟩,λz=>by
   rcases z with ⟨a,b⟩ | ⟨_,b⟩
   .exact absurd (e'.mp a) b
   .exact b⟩
  rw[this];exact q
 .ac_nf;have:decide (Rs u)=decide (Be u v):=j6.mpr ⟨λz =>.inl ⟨z,λw=>e (by rw[vC z,vC w])⟩,λz=>by
   rcases z with ⟨a,_⟩ | ⟨a,_⟩
   .exact a
   .exact absurd (j6.mpr a) e⟩
  rw[this];exact q
def zdE (q:Q (.lst ((l.zip m).map λp =>.tup [p.1,p.2]))):zcs.run [.tup l,.tup m] Q X:=q
def zdV {α:Type}{f:α->D}{l:List α}{k:Int}(h:0<=k):cutD (l.map f) none (some k)=(l.take k.toNat).map f:=by
 have hs:HT.sIx l.length l.length (some k)=min k.toNat l.length:=by
  show (if k<0 then (k+(l.length:Int)).toNat else min k.toNat l.length)=_;rw[if_neg (by lia)]
 rw[z2n,hs];show ((l.drop 0).take (min k.toNat l.length - 0)).map f=_;rw[List.drop_zero,Nat.sub_zero, <- List.take_eq_take_min]
theorem z9n:∀(r:List P) (a z:P),((a::r).zip (r++[z])).map (λp=>Geo.sb p.1 p.2)=df (a::r++[z])
 | [],a,z=>rfl
 | b::r,a,z=>by
  show Geo.sb a b::((b::r).zip (r++[z])).map (λp=>Geo.sb p.1 p.2)=Geo.sb a b::df (b::r++[z]);rw[z9n r b z]
def z5D (hz:h.length<=1000)(hn:h≠[])(q:Q (.lst ((Geo.rd h).map vec))):z0Z.run [vecs h,.fn 2] Q X:=by
 walk_at "fn";ac_nf;rw[wg];refine z0y (λz =>?_) (λz =>?_)
 .ac_nf;have:Geo.rd h=[]:=if_pos (by lia);rw[this] at q;exact q
 ac_nf;obtain⟨a,r,rfl⟩:=uA hn;rw[zdW (by decide),zdV (by decide)];refine zay (by simp;exact szl (by simp at hz;lia)) ?_;rw[<- wY,show (a::r).drop (1:Int).toNat++(a::r).take (1:Int).toNat=r++[a] from rfl];refine z1k (Safe.of_noL (z61 _) (z64 _) _) ?_;ac_rfl;ac_nf;refine zdE ?_;rw[List.zip_map,vM];ac_nf;refine⟨by rw[wg];exact szl' (by simp at hz ⊢;lia),?_⟩;refine z0O (g:=λp:P × P=>vec (Geo.sb p.1 p.2)) (λp hp K hK =>?_) ?_
 .refine⟨rfl,?_⟩;show Ex.run _ _ _ _;unfold z1E z1E z1E;ac_rfl;refine z4B rfl ?_;ac_nf;exact z4o hK
 have e:Geo.rd (a::r)=df (a::r++[a]):=if_neg (by lia);rw[show (((a::r).zip (r++[a])).map λp=>vec (Geo.sb p.1 p.2))=(((a::r).zip (r++[a])).map λp=>Geo.sb p.1 p.2).map vec by rw[vM];rfl,z9n, <- e];exact q
theorem df_len:∀(l:List P),(df l).length<=l.length - 1
 | []=>by simp[df]
 | [_]=>by simp[df]
 | a::b::r=>by
  have:=df_len (b::r);rw[df];simp at this ⊢;lia
def rd_len (h:List P):(Geo.rd h).length<=h.length:=by
 unfold Geo.rd
 split
 .simp
 .have:=df_len (h++h.take 1);simp at this;lia
def ziy (hb:Wb 20000000 h):Wb 30000000 (Geo.rd h):=λu hu=>by
 unfold Geo.rd at hu
 split at hu
 .cases hu
 .obtain⟨a,b,R,rfl⟩:=z8A hu;have:∀p∈h++h.take 1,p∈h:=λp hp=>(wG.mp hp).elim id List.mem_of_mem_take;have pw:=R (λa b=>a∈h/\b∈h) (z5K (jj λx hx y hy=>⟨this x hx,this y hy⟩));exact(hb a pw.1).step (hb b pw.2)
end Pu
namespace Geo
theorem zdK:∀F:List P,mg [] F=F
 | []=>rfl
 | f::F=>by rw[mg];simp[zdK F]
def zju (h:Be e f):mg (e::E) (f::F)=e::mg E (f::F):=by
 rw[mg,mg];simp[h]
def zjt (h:¬ Be e f):mg (e::E) (f::F)=f::mg (e::E) F:=by
 rw[mg];simp[h]
structure Vis (E F:List P)(i j:Nat)(V:List (Nat × Nat)):Prop where
 hi:i<=E.length
 hj:j<=F.length
 rest:∃K,mg E F=K++mg (E.drop i) (F.drop j)/\K.Perm (E.take i++F.take j)
 pre:∀K L,mg E F=K++L->K.length<=i+j->∃v∈V,K.Perm (E.take v.1++F.take v.2)
 le:∀v∈V,v.1<=E.length/\v.2<=F.length
 len:V.length=i+j+1
def Vis.init:Vis E F 0 0 [(0,0)]:=⟨by simp,by simp,⟨[],by simp,by simp⟩,λK L _ hk=>⟨(0,0),by simp,by
 have:K=[]:=ue.mp (by lia);simp[this]⟩,λv hv=>by rw[wq.mp hv];simp,rfl⟩
def Vis.next {E F:List P}{i j i' j':Nat}{V:List (Nat × Nat)}{u:P}(v:Vis E F i j V)(s:i'+j'=i+j+1)(hi:i'<=E.length)(hj:j'<=F.length)(m:mg (E.drop i) (F.drop j)=u::mg (E.drop i') (F.drop j'))(p:(E.take i++F.take j++[u]).Perm (E.take i'++F.take j')):Vis E F i' j' (V++[(i',j')]):=by
 obtain⟨K0,e0,p0⟩:=v.rest;have l0:K0.length=i+j:=by
  rw[p0.length_eq,wL,vO,vO];have:=v.hi;have:=v.hj;lia
 have pk:(K0++[u]).Perm (E.take i'++F.take j'):=(p0.append_right [u]).trans p;refine⟨hi,hj,⟨K0++[u],by rw[e0,m];simp,pk⟩,λK L e hk =>?_,λw hw =>?_,?_⟩
 .rcases vD (i+j) K.length with z | z
  .refine⟨(i',j'),by simp,?_⟩;have:K=K0++[u]:=(List.append_inj (show K++L=(K0++[u])++mg (E.drop i') (F.drop j') by rw[<- e,e0,m];simp) (by simp;lia)).1;rw[this];exact pk
  .obtain⟨w,hw,q⟩:=v.pre K L e z;exact⟨w,wR _ hw,q⟩
 .rcases wG.mp hw with z | z
  .exact v.le w z
  .rw[wq.mp z];exact⟨hi,hj⟩
 .rw[wL,v.len,uH];lia
def z4L {E F:List P}{i j:Nat}{e:P}(h:E[i]? = some e):(E.take i++F.take j++[e]).Perm (E.take (i+1)++F.take j):=by
 obtain⟨hi,rfl⟩:=wu.mp h;rw[List.take_succ_eq_append_getElem hi,vZ,vZ];exact jg _ List.perm_append_comm
def Vis.stepE {E F:List P}{i j:Nat}{V:List (Nat × Nat)}{e:P}(v:Vis E F i j V)(he:E[i]? = some e)(c:j=F.length\/∃f,F[j]? = some f/\Be e f):Vis E F (i+1) j (V++[(i+1,j)]):=by
 obtain⟨hi,rfl⟩:=wu.mp he;refine v.next (u:=E[i]) (by lia) hi v.hj ?_ (z4L he);rw[vJ hi]
 rcases c with rfl | ⟨f,hf,b⟩
 .simp[mg]
 .obtain⟨hj,rfl⟩:=wu.mp hf;rw[vJ hj,zju b]
def Vis.stepF {V:List (Nat × Nat)}(v:Vis E F i j V)(hf:F[j]? = some f)(c:i=E.length\/∃e,E[i]? = some e/\¬ Be e f):Vis E F i (j+1) (V++[(i,j+1)]):=by
 obtain⟨hj,rfl⟩:=wu.mp hf;refine v.next (u:=F[j]) (by lia) v.hi hj ?_ ?_
 .rw[vJ hj]
  rcases c with rfl | ⟨e,he,b⟩
  .simp[zdK]
  .obtain⟨hi,rfl⟩:=wu.mp he;rw[vJ hi,zjt b]
 .rw[List.take_succ_eq_append_getElem hj,vZ]
theorem zb7:∀{r:List P}{a q:P}{i:Nat},(a::r)[i]? = some q->vs ((df (a::r)).take i)=sb a q
 | r,a,q,0,h=>by
  cases h
  simp[vs,sb]
 | [],a,q,i+1,h=>by simp at h
 | b::r,a,q,i+1,h=>by
  rw[uS] at h;rw[df,List.take_succ_cons,z2I,zb7 h];simp only[pl,sb];exact vV (by simp;lia) (by simp;lia)
theorem df_len:∀{l:List P},(df l).length=l.length - 1
 | []=>rfl
 | [_]=>rfl
 | a::b::r=>by rw[df,w5,df_len];simp
def rd_len:(rd h).length=if h.length=1 then 0 else h.length:=by
 unfold rd
 split
 .rfl
 .rw[df_len,wL,vO];lia
def za1 (e:h=a::r)(hi:i<=(rd h).length)(hq:h[i % h.length]? = some q):vs ((rd h).take i)=sb a q:=by
 subst e;rw[rd_len] at hi;unfold rd
 split
 .rename_i z
  rw[if_pos z] at hi;have:i=0:=by lia
  subst this;simp at hq;subst hq;simp[vs,sb]
 .rename_i z
  rw[if_neg z] at hi;refine zb7 (r:=r++[a]) ?_
  rcases vD i (a::r).length with w | w
  .rw[wQ w] at hq;rw[<- hq];show ((a::r)++[a])[i]? = _;exact wN w
  .have:i=(a::r).length:=by lia
   subst this;rw[Nat.mod_self] at hq;rw[<- hq];show ((a::r)++[a])[(a::r).length]? = _;simp
theorem Vis.far {l1 l2 h1 h2 r1 r2:List P}{V:List (Nat × Nat)}(x1:Hd l1 h1)(x2:Hd l2 h2)(n1:l1≠[])(n2:l2≠[])(e1:h1=a::r1)(e2:h2=b::r2)(v:Vis (rd h1) (rd h2) (rd h1).length (rd h2).length V):∀p∈h1,∀q∈h2,∀d:P,∃w∈V,∀s t,h1[w.1 % h1.length]? = some s->h2[w.2 % h2.length]? = some t->Qb (pl p q) d<=Qb (pl s t) d:=by
 intro p hp q hq d;obtain⟨K,L,k,far⟩:=(join x1 x2 n1 n2 e1 e2).2 p hp q hq d;have lk:K.length<=(rd h1).length+(rd h2).length:=by
  have:=(z4t (rd h1) (rd h2)).length_eq;rw[k,wL,wL] at this;lia
 obtain⟨w,hw,pm⟩:=v.pre K L k lk;refine⟨w,hw,λs t hs ht =>?_⟩;obtain⟨w1,w2⟩:=v.le w hw;rw[z7v pm,z9s,za1 e1 w1 hs,za1 e2 w2 ht] at far;have:pl (pl a b) (pl (sb a s) (sb b t))=pl s t:=by
  simp only[pl,sb];exact vV (by simp;lia) (by simp;lia)
 rw[this] at far;exact far
def zaC {c x:Int}(hc:0<c):0<c*x↔0<x:=⟨λz=>by
 rcases vH 0 x with w | w
 .exact w
 .have:=wH (vf hc) (show 0 <= -x by lia);rw[Int.mul_neg] at this;lia,wP hc⟩
def Be.sca {u v u' v':P}{k l:Int}(hk:0<k)(hl:0<l)(e1:u'.1=k*u.1)(e2:u'.2=k*u.2)(f1:v'.1=l*v.1)(f2:v'.2=l*v.2):Be u' v'↔Be u v:=by
 have rs:∀{x y:P}{c:Int},0<c->y.1=c*x.1->y.2=c*x.2->(Rs y↔Rs x):=λ{x y c} hc g1 g2=>by
  have s1:(0<y.1↔0<x.1):=by rw[g1];exact zaC hc
  have s2:(0<y.2↔0<x.2):=by rw[g2];exact zaC hc
  have s3:(y.1=0↔x.1=0):=by
   rw[g1]
   w_up
   .intro z
    rcases wK.mp z with w | w
    .lia
    .exact w
   .intro z;rw[z];simp
  unfold Rs;rw[s1,s2,s3]
 have c:(0<cx u' v'↔0<cx u v):=by
  have:cx u' v'=k*l*cx u v:=by unfold cx;rw[e1,e2,f1,f2];grind
  rw[this];have kl:=wP hk hl;exact zaC kl
 unfold Be;rw[rs hk e1 e2,rs hl f1 f2,c]
end Geo
namespace Pu
open PySem L2 Mth
def mvT (t:T3)(v:P):T3:=(t.1+v.1*t.2.2,t.2.1+v.2*t.2.2,t.2.2)
def zaA {v:P}(h:Lo t):Lo (mvT t v):=by
 obtain⟨h0,g⟩:=h;refine⟨h0,?_⟩;have d:∀{x y w:Int},(Int.gcd (Int.gcd x y:Nat) w:Int) ∣ x/\(Int.gcd (Int.gcd x y:Nat) w:Int) ∣ y/\(Int.gcd (Int.gcd x y:Nat) w:Int) ∣ w:=λ{x y w}=>
  ⟨Int.dvd_trans (uz ..) (uz ..),Int.dvd_trans (uz ..) (uD ..),uD ..⟩
 obtain⟨d1,d2,d3⟩:=d (x:=t.1+v.1*t.2.2) (y:=t.2.1+v.2*t.2.2) (w:=t.2.2);show Int.gcd (Int.gcd (t.1+v.1*t.2.2) (t.2.1+v.2*t.2.2):Nat) t.2.2=1;generalize Int.gcd (Int.gcd (t.1+v.1*t.2.2) (t.2.1+v.2*t.2.2):Nat) t.2.2=n at*;have e1:(n:Int) ∣ t.1:=(Int.dvd_add_left (jv d3)).mp d1;have e2:(n:Int) ∣ t.2.1:=(Int.dvd_add_left (jv d3)).mp d2;have:(n:Int) ∣ (Int.gcd (Int.gcd t.1 t.2.1:Nat) t.2.2:Int):=Int.dvd_coe_gcd (Int.dvd_coe_gcd e1 e2) d3;rw[g] at this;have:=Int.natCast_dvd_natCast.mp this;exact Nat.dvd_one.mp this
def z36 {v:P}(h:Dv M t):Dv M (mvT t v):=⟨h.m,h.pos,h.dvd⟩
def z5l {v:P}(h:Dv M t):Geo.up M (mvT t v)=Geo.pl (Geo.up M t) (Geo.sca M v):=by
 obtain⟨_,e⟩:=h.k;unfold Geo.up mvT Geo.pl Geo.sca;k_in;generalize M / t.2.2=k at*;exact vV (by dsimp only;grind) (by dsimp only;grind)
def z9R {v:P}(ht:Tz t)(h0:0<t.2.2)(hv:Vb 1000 v)(q:Q (pl3 (mvT t v))):z0H.run [pl3 t,vec v] Q X:=by
 obtain⟨t1,t2,t3⟩:=ht;obtain⟨v1,v2⟩:=hv;show z0H.run [.tup [.int t.1,.int t.2.1,.int t.2.2],.tup [.int v.1,.int v.2]] Q X;walk_at "fn";ac_nf;show z1P.run _ _ _;walk_at "fn";ac_nf;refine z2x ?_;rw[Int.gcd_one];refine z1k (Safe.of_noL rfl rfl _) ?_;ac_rfl;have b1:Bt 1 (1:Int):=z08 (by decide);ac_nf;have e1:(1:Int) / ((1:Nat):Int)=1:=rfl;have e2:t.2.2 / ((1:Nat):Int)=t.2.2:=Int.ediv_one _;rw[e1,e2];ac_nf;refine z2x ?_;rw[show Int.gcd (((1:Nat):Int)) (t.1*1+v.1*t.2.2)=1 from Int.one_gcd];ac_nf;refine z2x ?_;rw[show Int.gcd (((1:Nat):Int)) (t.2.1*1+v.2*t.2.2)=1 from Int.one_gcd];refine z1k (Safe.of_noL rfl rfl _) ?_;ac_rfl;ac_nf;have e:(D.tup [D.int ((t.1*1+v.1*t.2.2) / ((1:Nat):Int)),D.int ((t.2.1*1+v.2*t.2.2) / ((1:Nat):Int)),D.int (t.2.2*(1 / ((1:Nat):Int)))])=pl3 (mvT t v):=by
  rw[show ((1:Nat):Int)=1 from rfl,Int.ediv_one,Int.ediv_one,Int.ediv_one,Int.mul_one,Int.mul_one,Int.mul_one]
  rfl
 rw[e];exact q
def rd3 (h:List T3):List P:=if h.length=1 then [] else (h.zip (h.drop 1++h.take 1)).map λp=>stl p.1 p.2
def z7S (e:i % h.length=j % h.length):cyT h i=cyT h j:=by
 unfold cyT;rw[e]
def zbd (is:z04 S (h.map (Geo.up M)))(hl:2<=h.length)(i:Nat)(hi:i<h.length):cyT h i≠cyT h (i+1):=by
 rcases vD (i+1) h.length with z | z
 .have:=z7c is hl (i+1) z
  rwa [z7S (show (i+1+h.length - 1) % h.length=i % h.length by rw[show i+1+h.length - 1=i+h.length by lia,vS])] at this
 .have:=z7c is hl 0 (by lia);have e:i+1=h.length:=by lia
  rwa [z7S (show (0+h.length - 1) % h.length=i % h.length by rw[show 0+h.length - 1=i by lia]),z7S (show 0 % h.length=(i+1) % h.length by rw[e,Nat.mod_self,Nat.zero_mod])] at this
def zg7 (hi:i<h.length):(h.drop 1++h.take 1)[i]? = some (cyT h (i+1)):=by
 have g:=z23 (h:=h) (i:=i+1) (by lia);rw[<- g]
 rcases vD (i+1) h.length with z | z
 .rw[wN (by rw[jB];lia),List.getElem?_drop,wQ z,We]
 .have e:i+1=h.length:=by lia
  rw[w9 (by rw[jB];lia),jB,e,Nat.mod_self,show i - (h.length - 1)=0 by lia];rw[List.getElem?_take_of_lt (by lia)]
def z9o (hp:p∈h.zip (h.drop 1++h.take 1)):∃i,i<h.length/\p.1=cyT h i/\p.2=cyT h (i+1):=by
 obtain⟨i,hi⟩:=List.mem_iff_getElem?.mp hp;obtain⟨h1,h2⟩:=List.getElem?_zip_eq_some.mp hi;have il:i<h.length:=(wu.mp h1).1;have g:=z23 (h:=h) (i:=i) (by lia);rw[wQ il,h1] at g;rw[zg7 il] at h2;exact⟨i,il,vk g,(vk h2).symm⟩
def zbN (hz:h.length<=1000)(hn:h≠[])(hp:∀t∈h,Px t)(is:z04 S (h.map (Geo.up M)))(q:Q (.lst ((rd3 h).map vec))):z0Z.run [pls3 h,.fn 3] Q X:=by
 walk_at "fn";ac_nf;rw[wg];refine z0y (λz =>?_) (λz =>?_)
 .ac_nf;have:rd3 h=[]:=if_pos (by lia);rw[this] at q;exact q
 ac_nf;rw[zdW (by decide),zdV (by decide)];refine zay (by simp;exact szl (by lia)) ?_;rw[<- wY,show h.drop (1:Int).toNat++h.take (1:Int).toNat=h.drop 1++h.take 1 from rfl];refine z1k (by repeat (first | exact trivial | refine⟨trivial,?_⟩)) ?_;ac_rfl;ac_nf;refine zdE ?_;rw[List.zip_map,vM];ac_nf;refine⟨by rw[wg];exact szl' (by simp at hz ⊢;lia),?_⟩;refine z0O (g:=λp:T3 × T3=>vec (stl p.1 p.2)) (λp hp' K hK =>?_) ?_
 .refine⟨rfl,?_⟩;show Ex.run _ _ _ _;unfold z1E z1E z1E;ac_rfl;refine z4B rfl ?_;ac_nf;obtain⟨i,hi,e1,e2⟩:=z9o hp';obtain⟨p1,p2⟩:=p;have e1':p1=cyT h i:=e1;have e2':p2=cyT h (i+1):=e2;subst e1' e2';exact z85 (hp _ (z0q (by lia))) (hp _ (z0q (by lia))) (zbd is (by lia) i hi) hK
 have e:rd3 h=_:=if_neg (by lia);rw[show ((h.zip (h.drop 1++h.take 1)).map λp=>vec (stl p.1 p.2))=(rd3 h).map vec by rw[e,vM];rfl];exact q
def Z3 (h:List T3):List (T3 × T3):=if h.length=1 then [] else h.zip (h.drop 1++h.take 1)
def zgb:rd3 h=(Z3 h).map λp=>stl p.1 p.2:=by
 unfold rd3 Z3
 split <;> rfl
def rd_z (hn:h≠[]):Geo.rd (h.map (Geo.up M))=(Z3 h).map λp=>Geo.sb (Geo.up M p.1) (Geo.up M p.2):=by
 obtain⟨a,r,rfl⟩:=uA hn;unfold Geo.rd Z3;rw[wg]
 split
 .rfl
 .have:=z9n (r.map (Geo.up M)) (Geo.up M a) (Geo.up M a);rw[show (a::r).map (Geo.up M)++((a::r).map (Geo.up M)).take 1=Geo.up M a::r.map (Geo.up M)++[Geo.up M a] from rfl, <- this];rw[show ((Geo.up M a::r.map (Geo.up M)).zip (r.map (Geo.up M)++[Geo.up M a]))=((a::r).zip (r++[a])).map (Prod.map (Geo.up M) (Geo.up M)) by
   rw[<- List.zip_map];simp]
  rw[vM]
  rfl
theorem zdR (hf:∀a b,Geo.sb (f a) (f b)=f (Geo.sb a b)):∀l:List P,df (l.map f)=(df l).map f
 | []=>rfl
 | [_]=>rfl
 | a::b::r=>by
  have ih:=zdR hf (b::r);show Geo.sb (f a) (f b)::df ((b::r).map f)=f (Geo.sb a b)::(df (b::r)).map f;rw[ih,hf]
def zdw (hf:∀a b,Geo.sb (f a) (f b)=f (Geo.sb a b))(l:List P):Geo.rd (l.map f)=(Geo.rd l).map f:=by
 unfold Geo.rd;rw[wg]
 split
 .rfl
 .rw[<- List.map_take, <- wY,zdR hf]
def zdp {c:Int}(a b:P):Geo.sb (Geo.sca c a) (Geo.sca c b)=Geo.sca c (Geo.sb a b):=by
 unfold Geo.sb Geo.sca;exact vV (by dsimp only;grind) (by dsimp only;grind)
def be_z (is:z04 S (h.map (Geo.up M)))(hM:∀t∈h,Dv M t)(lo:∀t∈h,Lo t)(hm:0<M)(hp:p∈Z3 h)(v:P):Be (Geo.sb (Geo.up M p.1) (Geo.up M p.2)) (Geo.sca M v)↔Be (stl p.1 p.2) v:=by
 unfold Z3 at hp
 split at hp
 .cases hp
 rename_i l1
 obtain⟨i,hi,e1,e2⟩:=z9o hp;have h0:0<h.length:=by lia
 have ma:=z0q (h:=h) (i:=i) h0;have mc:=z0q (h:=h) (i:=i+1) h0;rw[<- e1] at ma;rw[<- e2] at mc;have ne:p.1≠p.2:=by rw[e1,e2];exact zbd is (by lia) i hi
 have st:=z6y (z4m (lo _ ma) (lo _ mc) ne);obtain⟨f1,f2⟩:=z9C (hM _ ma) (hM _ mc);have k0:=wP st.g0 (wP (hM _ ma).k.1 (hM _ mc).k.1);rw[<- st.e1] at f1;rw[<- st.e2] at f2;generalize (Int.gcd (Qa p.1 p.2).1 (Qa p.1 p.2).2:Int)=g at*;generalize M / p.1.2.2*(M / p.2.2.2)=k at*;rw[<- Be.sca (u:=Geo.sb (Geo.up M p.1) (Geo.up M p.2)) (v:=Geo.sca M v) (u':=(M*(Geo.sb (Geo.up M p.1) (Geo.up M p.2)).1,M*(Geo.sb (Geo.up M p.1) (Geo.up M p.2)).2)) (v':=Geo.sca M v) (k:=M) (l:=1) hm (by decide) rfl rfl (by lia) (by lia)];refine Be.sca (k:=g*k) (l:=M) k0 hm ?_ ?_ ?_ ?_
 .show M*((Geo.up M p.2).1 - (Geo.up M p.1).1)=_;rw[<- f1];grind
 .show M*((Geo.up M p.2).2 - (Geo.up M p.1).2)=_;rw[<- f2];grind
 .show v.1*M=M*v.1;exact jh _ _
 .show v.2*M=M*v.2;exact jh _ _
def zfT (is:z04 S (h.map (Geo.up M)))(hp:∀t∈h,Px t)(hz:p∈Z3 h):Vb 601 (stl p.1 p.2):=by
 unfold Z3 at hz
 split at hz
 .cases hz
 rename_i l1
 obtain⟨i,hi,e1,e2⟩:=z9o hz;have h0:0<h.length:=by lia
 have pa:=hp _ (z0q (h:=h) (i:=i) h0);have pc:=hp _ (z0q (h:=h) (i:=i+1) h0);have ne:=zbd is (by lia) i hi;rw[e1,e2];have st:=z6y (z4m pa.lo pc.lo ne);have b1:Bt 601 (Qa (cyT h i) (cyT h (i+1))).1:=(Bt.sub (Bt.mul pc.bx pa.bw) (Bt.mul pa.bx pc.bw)).le;have b2:Bt 601 (Qa (cyT h i) (cyT h (i+1))).2:=(Bt.sub (Bt.mul pc.bY pa.bw) (Bt.mul pa.bY pc.bw)).le;exact⟨b1.of_abs st.n1,b2.of_abs st.n2⟩
def spot (h:List T3)(g:List P)(w:Nat × Nat):T3:=mvT (cyT h w.1) (Geo.cy g w.2)
def zi3 (is:z04 (· ∈ l) h)(ne:l≠[]):Hd l h:=by
 obtain⟨rl,pw,hm⟩:=z7A l;have x:Hd l (hull rl):=⟨rl,pw,hm,rfl⟩
 rw[is.unique (x.is ne)];exact x
def z8O {V:List (Nat × Nat)}(hm:0<M)(is:z04 (· ∈ l.map (Geo.up M)) (h.map (Geo.up M)))(hM:∀t∈h,Dv M t)(ln:l≠[])(hg:z04 (· ∈ wd) g)(wn:wd≠[])(v:Geo.Vis (Geo.rd (h.map (Geo.up M))) (Geo.rd (g.map (Geo.sca M))) (Geo.rd (h.map (Geo.up M))).length (Geo.rd (g.map (Geo.sca M))).length V):∀p∈h,∀q∈g,∀d:P,∃s∈V.map (spot h g),Nf d (mvT p q) s:=by
 intro p hp q hq d;have h0:0<h.length:=jG hp;have g0:0<g.length:=jG hq;obtain⟨a,r,e1⟩:=uA (show h.map (Geo.up M)≠[] from λz=>by have:=congrArg List.length z;simp at this;rw[this] at hp;cases hp);obtain⟨b,s,e2⟩:=uA (show g.map (Geo.sca M)≠[] from λz=>by have:=congrArg List.length z;simp at this;rw[this] at hq;cases hq);obtain⟨w,hw,far⟩:=v.far (zi3 is (by simpa using ln)) (zi3 (hg.sca hm) (by simpa using wn)) (by simpa using ln) (by simpa using wn) e1 e2 _ (vd hp) _ (vd hq) d;refine⟨spot h g w,vd hw,?_⟩;have mc:=z0q (h:=h) (i:=w.1) h0;unfold spot;rw[z35 (z36 (hM p hp)) (z36 (hM _ mc)),z5l (hM p hp),z5l (hM _ mc)];refine far _ _ ?_ ?_
 .rw[wg,wB,z23 h0];rfl
 .rw[wg,wB,z22 g0];rfl
def zi8 {k:Nat}(hk:k<h.length):atI h (k:Int)=some (cyT h k):=by
 have:=z23 (h:=h) (i:=k) (by lia);rw[wQ hk] at this;rw[z24 hk];exact this
def zi7 {k:Nat}(h0:0<h.length):atI h ((k:Int) % (h.length:Int))=some (cyT h k):=by
 have e:(k:Int) % (h.length:Int)=((k % h.length:Nat):Int):=by lia
 rw[e,z24 (ut _ h0)];exact z23 h0
def zjJ {k:Nat}(h0:0<h.length):atI h ((k:Int) % (h.length:Int))=some (Geo.cy h k):=by
 have e:(k:Int) % (h.length:Int)=((k % h.length:Nat):Int):=by lia
 rw[e,z24 (ut _ h0)];exact z22 h0
def spI (M:Int)(h:List T3)(g:List P)(d:D)(i j:Nat)(V:List (Nat × Nat)):Pu.Env:=[.s (pls3 h),.s d,.s (vecs g),.s (.lst ((rd3 h).map vec)),.s (.lst ((Geo.rd g).map vec)),.s (.int (i:Int)),.s (.int (j:Int)),.o (.lst ((V.map (spot h g)).map pl3))]
def zbO {M:Int}{l h:List T3}{g:List P}{d:D}{i j:Nat}{V:List (Nat × Nat)}{N:Pu.Env->Prop}(hm:0<M)(hn:h≠[])(gn:g≠[])(hz:h.length<=25)(gz:g.length<=25)(is:z04 (· ∈ l.map (Geo.up M)) (h.map (Geo.up M)))(hM:∀t∈h,Dv M t)(hp:∀t∈h,Px t)(wb:Wb 1000 g)
  (v:Geo.Vis (Geo.rd (h.map (Geo.up M))) (Geo.rd (g.map (Geo.sca M))) i j V) (c:i<(rd3 h).length\/j<(Geo.rd g).length)
  (q:∀i' j',i'+j'=i+j+1->Geo.Vis (Geo.rd (h.map (Geo.up M))) (Geo.rd (g.map (Geo.sca M))) i' j' (V++[(i',j')])->N (spI M h g d i' j' (V++[(i',j')]))):
  Sm.run (.seq (.ifs (.or (.op pEq [(.v 6),(.op pLen [(.v 4)])]) (.and (.op pLt [(.v 5),(.op pLen [(.v 3)])]) (.op z1A [(.op pIx [(.v 3),(.v 5)]),(.op pIx [(.v 4),(.v 6)])]))) (.set 5 (.op pAdd [(.v 5),(.c (.int 1))])) (.set 6 (.op pAdd [(.v 6),(.c (.int 1))])))
 (.app 7 (.op z0H [(.op pIx [(.v 0),(.op pMod [(.v 5),(.op pLen [(.v 0)])])]),(.op pIx [(.v 2),(.op pMod [(.v 6),(.op pLen [(.v 2)])])])]))) (spI M h g d i j V) N Q X:=by
 have h0:0<h.length:=vq.mpr hn;have g0:0<g.length:=vq.mpr gn;have eE:=rd_z (M:=M) hn;have e3:=zgb (h:=h);have eF:=zdw (f:=Geo.sca M) zdp g;have lE:(Geo.rd (h.map (Geo.up M))).length=(rd3 h).length:=by rw[eE,e3,wg,wg]
 have lF:(Geo.rd (g.map (Geo.sca M))).length=(Geo.rd g).length:=by rw[eF,wg]
 have l3:(rd3 h).length<=h.length:=by
  rw[<- lE,Geo.rd_len,wg]
  split <;> lia
 have l4:(Geo.rd g).length<=g.length:=rd_len g;have vi:=v.hi;have vj:=v.hj;have vl:=v.len;unfold spI;refine zek (λρ'=>∃i' j',i'+j'=i+j+1/\Geo.Vis (Geo.rd (h.map (Geo.up M))) (Geo.rd (g.map (Geo.sca M))) i' j' (V++[(i',j')])/\ρ'=spI M h g d i' j' V) ?_ ?_
 .have goE:∀{p:T3 × T3},(Z3 h)[i]? = some p->(j=(Geo.rd g).length\/∃f,(Geo.rd g)[j]? = some f/\Be (stl p.1 p.2) f)->Geo.Vis (Geo.rd (h.map (Geo.up M))) (Geo.rd (g.map (Geo.sca M))) (i+1) j (V++[(i+1,j)]):=λ{p} hp' cc=>by
   refine v.stepE (e:=Geo.sb (Geo.up M p.1) (Geo.up M p.2)) (by rw[eE,wB,hp'];rfl) ?_
   rcases cc with cc | ⟨f,hf,b⟩
   .exact .inl (by rw[lF];exact cc)
   .exact .inr ⟨Geo.sca M f,by rw[eF,wB,hf];rfl,(be_z is hM (λt ht=>(hp t ht).lo) hm (wy hp') f).mpr b⟩
  have goF:∀{f:P},(Geo.rd g)[j]? = some f->(i=(rd3 h).length\/∃p,(Z3 h)[i]? = some p/\¬ Be (stl p.1 p.2) f)->Geo.Vis (Geo.rd (h.map (Geo.up M))) (Geo.rd (g.map (Geo.sca M))) i (j+1) (V++[(i,j+1)]):=λ{f} hf cc=>by
   refine v.stepF (f:=Geo.sca M f) (by rw[eF,wB,hf];rfl) ?_
   rcases cc with cc | ⟨p,hp',b⟩
   .exact .inl (by rw[lE];exact cc)
   .exact .inr ⟨Geo.sb (Geo.up M p.1) (Geo.up M p.2),by rw[eE,wB,hp'];rfl,λz=>b ((be_z is hM (λt ht=>(hp t ht).lo) hm (wy hp') f).mp z)⟩
  have lz:(Z3 h).length=(rd3 h).length:=by rw[e3,wg]
  ac_nf;rw[wg];refine z0y (λz =>?_) (λz =>?_)
  .refine z3W ?_;ac_nf;have hi:i<(Z3 h).length:=by lia
   exact⟨i+1,j,by lia,goE (wp hi) (.inl (by lia)),rfl⟩
  .have hj:j<(Geo.rd g).length:=by lia
   have ef:=wp hj;ac_nf;rw[wg];refine z0y (λy =>?_) (λy =>?_)
   .have hi:i<(rd3 h).length:=by lia
    have hi':i<(Z3 h).length:=by lia
    have ep:=wp hi';have es:(rd3 h)[i]? = some (stl (Z3 h)[i].1 (Z3 h)[i].2):=by rw[e3,wB,ep];rfl
    ac_nf;refine z1f (z0w (by rw[z24 hi];exact es)) ?_;ac_nf;refine z1f (z0w (by rw[z24 hj];exact ef)) ?_;refine z6F (zfT is hp (ua hi')).le ((ziy (wb.le:Wb 20000000 g)) _ (ua hj)) ?_;refine z0y (λb =>?_) (λb =>?_)
    .ac_nf;exact⟨i+1,j,by lia,goE ep (.inr ⟨_,ef,b⟩),rfl⟩
    .ac_nf;exact⟨i,j+1,by lia,goF ef (.inr ⟨_,ep,b⟩),rfl⟩
   .ac_nf;exact⟨i,j+1,by lia,goF ef (.inl (by lia)),rfl⟩
 .rintro ρ' ⟨i',j',s',v',rfl⟩;unfold spI;refine z3p (l:=[]) (z0x rfl ?_);ac_nf;rw[wg];refine zax (by lia) ?_;ac_nf;refine z1f (z0w (zi7 h0)) ?_;ac_nf;rw[wg];refine zax (by lia) ?_;ac_nf;refine z1f (z0w (zjJ g0)) ?_;refine z9R (hp _ (z0q h0)).tz (hp _ (z0q h0)).lo.1 (wb _ (z4E g0)) ?_;refine⟨by rw[wg,wg];exact szl' (by lia),Safe.of_noL rfl rfl _,?_⟩;have:=q i' j' s' v';unfold spI at this;rw[wY,wY] at this;exact this
def z4b {M:Int}{l h:List T3}{wd:List P}{d:D}(hm:0<M)(ln:l≠[])(hn:h≠[])(hz:h.length<=25)(is:z04 (· ∈ l.map (Geo.up M)) (h.map (Geo.up M)))(hM:∀t∈h,Dv M t)(hp:∀t∈h,Px t)(hd:Vs d wd)(wb:Wb 1000 wd)(wn:wd≠[])(wz:wd.length<=25)
  (q:∀(g:List P) (L h':List T3),z04 (· ∈ wd) g->(∀s∈L,∃p∈h,∃v∈g,s=mvT p v)->(∀p∈h,∀v∈g,∀b:P,∃s∈L,Nf b (mvT p v) s)->L≠[]->L.length<=h.length+g.length+1->Ar L h'->Q (pls3 h')):z0f.run [pls3 h,d] Q X:=by
 have h0:0<h.length:=vq.mpr hn;walk_at "fn";ac_nf;rw[wg];refine z0y (λz=>absurd z (by lia)) (λ_ =>?_);ac_nf;refine z44 hd (λp hp=>(wb p hp).le) (by lia) λg hg =>?_;have ig:=hg.is wn;have gn:g≠[]:=λz=>by
  obtain⟨m,t,e,_⟩:=ig.ex;rw[z] at e
  cases e
 have g0:0<g.length:=vq.mpr gn;have gw:∀v∈g,v∈wd:=λv hv=>ig.sub v hv;have gz:=z0N ig.nodup ig.sub;refine z1k (Safe.of_noL (z61 _) (z64 _) _) ?_;ac_rfl;ac_nf;refine zbN (by lia) hn hp is ?_;refine z1k (by repeat (first | exact trivial | refine⟨trivial,?_⟩)) ?_;ac_rfl;ac_nf;refine z5D (by lia) gn ?_;refine z1k (by repeat (first | exact trivial | refine⟨trivial,?_⟩)) ?_;ac_rfl;ac_nf;refine z1f (z0w (zi8 (k:=0) h0)) ?_;ac_nf;refine z1f (z0w (zjK (k:=0) g0)) ?_;refine z9R (hp _ (z0q h0)).tz (hp _ (z0q h0)).lo.1 (wb _ (gw _ (z4E g0))) ?_;ac_nf;refine z3d (λx hx=>by rw[wq.mp hx];exact Safe.of_noL rfl rfl _) ?_;ac_rfl;have lE:(Geo.rd (h.map (Geo.up M))).length=(rd3 h).length:=by rw[rd_z hn,zgb,wg,wg]
 have lF:(Geo.rd (g.map (Geo.sca M))).length=(Geo.rd g).length:=by rw[zdw zdp g,wg]
 have l3:(rd3 h).length<=h.length:=by
  rw[<- lE,Geo.rd_len,wg]
  split <;> lia
 have l4:(Geo.rd g).length<=g.length:=rd_len g;refine zek (λρ'=>∃V,Geo.Vis (Geo.rd (h.map (Geo.up M))) (Geo.rd (g.map (Geo.sca M))) (rd3 h).length (Geo.rd g).length V/\ρ'=spI M h g d (rd3 h).length (Geo.rd g).length V) ?_ ?_
 .refine z6s (λρ=>∃i j V,Geo.Vis (Geo.rd (h.map (Geo.up M))) (Geo.rd (g.map (Geo.sca M))) i j V/\ρ=spI M h g d i j V) (λρ=>match ρ with | [_,_,_,_,_,.s (.int i),.s (.int j),_]=>(((rd3 h).length:Int)+((Geo.rd g).length:Int) - i - j).toNat | _=>0) ⟨0,0,[(0,0)],.init,rfl⟩ ?_;rintro ρ ⟨i,j,V,v,rfl⟩;have vi:=v.hi;have vj:=v.hj;rw[lE] at vi;rw[lF] at vj;have go:i<(rd3 h).length\/j<(Geo.rd g).length->_:=λc=>zbO (M:=M) (l:=l) (h:=h) (g:=g) (d:=d) (i:=i) (j:=j) (V:=V) (N:=λρ'=>(∃i j V,Geo.Vis (Geo.rd (h.map (Geo.up M))) (Geo.rd (g.map (Geo.sca M))) i j V/\ρ'=spI M h g d i j V)/\(match ρ' with | [_,_,_,_,_,.s (.int i),.s (.int j),_]=>(((rd3 h).length:Int)+((Geo.rd g).length:Int) - i - j).toNat | _=>0)<(((rd3 h).length:Int)+((Geo.rd g).length:Int) - (i:Int) - (j:Int)).toNat) (Q:=Q) (X:=λ_=>False) hm hn gn hz (by lia) is hM hp (λp hp=>wb p (gw p hp)) v c λi' j' e v'=>⟨⟨i',j',_,v',rfl⟩,by
   show (((rd3 h).length:Int)+((Geo.rd g).length:Int) - (i':Int) - (j':Int)).toNat<_;lia⟩
  unfold spI;ac_nf;rw[wg];refine z0y (λz=>z3W (go (.inl (by lia)))) (λz =>?_);ac_nf;rw[wg];refine z0y (λy=>go (.inr (by lia))) (λy =>?_);have e1:i=(rd3 h).length:=by lia
  have e2:j=(Geo.rd g).length:=by lia
  rw[e1,e2] at v;exact⟨V,v,by rw[e1,e2]⟩
 rintro ρ ⟨V,v,rfl⟩;have vl:=v.len;have far:=z8O hm is hM ln ig wn (V:=V) (by rw[lE,lF];exact v);have mem:∀s∈V.map (spot h g),∃p∈h,∃u∈g,s=mvT p u:=λs hs=>by
  obtain⟨w,_,rfl⟩:=wv.mp hs;exact⟨_,z0q h0,_,z4E g0,rfl⟩
 have tz:∀s∈V.map (spot h g),Tz s/\Lo s:=λs hs=>by
  obtain⟨p,hp',u,hu,rfl⟩:=mem s hs;have px:=hp p hp';have ub:=wb u (gw u hu);exact⟨⟨(Bt.add px.bx (Bt.mul ub.1 px.bw)).le,(Bt.add px.bY (Bt.mul ub.2 px.bw)).le,px.bw.le⟩,zaA px.lo⟩
 unfold spI;ac_nf;refine z88 (l:=V.map (spot h g)) (.inr rfl) (λs hs=>(tz s hs).1) (λs hs=>(tz s hs).2) (by rw[wg];lia) λh' x=>q g _ h' ig mem far (λz =>?_) (by rw[wg];lia) x;have:=congrArg List.length z;rw[wg] at this;simp at this;rw[this] at vl;simp at vl
structure Pe (n:Nat)(t:T3):Prop where
 lo:Lo t
 ax:t.1.natAbs<=2 ^ n*t.2.2.natAbs
 ay:t.2.1.natAbs<=2 ^ n*t.2.2.natAbs
 bw:Bt 200 t.2.2
def z68 (h:x.natAbs<=2 ^ n*w.natAbs)(b:Bt 200 w):Bt (n+200) x:=z08 (uM h (by
 rw[Nat.pow_add];exact Nat.mul_lt_mul_of_pos_left b.abs (Nat.two_pow_pos n)))
def Pe.pb {n:Nat}{t:T3}(h:Pe n t):Pb (n+200) t:=⟨h.lo,z68 h.ax h.bw,z68 h.ay h.bw,h.bw.le⟩
def Pe.px {t:T3}(h:Pe 200 t):Px t:=⟨h.lo,z68 h.ax h.bw,z68 h.ay h.bw,h.bw⟩
def Pe.le {m n:Nat}{t:T3}(h:Pe m t)(q:m<=n):Pe n t:=⟨h.lo,wO h.ax (uh _ (vN (by decide) q)),wO h.ay (uh _ (vN (by decide) q)),h.bw⟩
def z8H {n:Nat}{p b x w:Int}(hb:0<b)(e:p*b=x*w)(h:x.natAbs<=2 ^ n*b.natAbs):p.natAbs<=2 ^ n*w.natAbs:=by
 have e':p.natAbs*b.natAbs=x.natAbs*w.natAbs:=by rw[<- vz, <- vz,e]
 refine Nat.le_of_mul_le_mul_right (c:=b.natAbs) ?_ (by lia);rw[e'];refine wO (uh _ h) ?_;rw[Nat.mul_assoc,Nat.mul_assoc,Nat.mul_comm b.natAbs];exact wx _
def Lw.pe (h:Lw x y b t)(hb:0<b)(bx:x.natAbs<=2 ^ n*b.natAbs)(bY:y.natAbs<=2 ^ n*b.natAbs)(bb:Bt 200 b):Pe n t:=
 ⟨h.lo,z8H hb h.cx bx,z8H hb h.cy bY,bb.of_abs (by have:=h.ab;have:=h.lo.1;lia)⟩
def z98 {n:Nat}{x b:Int}(hb:0<b)(h:x.natAbs<=2 ^ n):x.natAbs<=2 ^ n*b.natAbs:=wO h (uT _ (by lia))
def z4a {n:Nat}{x:Int}(hn:80<=n)(h:x.natAbs<=100000000000000000000):x.natAbs<=2 ^ n:=wO (wO h (by decide)) (vN (by decide) hn)
def zdY {a b u v i j:Int}(ha:0<u)(hb:0<v)(h1:0<=i)(h2:i<=j)(k1:a.natAbs<=2 ^ n*u.natAbs)(k2:b.natAbs<=2 ^ n*v.natAbs):(a*v*(j - i)+b*u*i).natAbs<=2 ^ n*(u*v*j).natAbs:=by
 refine wO (Int.natAbs_add_le _ _) ?_;rw[vz,vz,vz,vz,vz (u*v),vz u];have s1:a.natAbs*v.natAbs*(j - i).natAbs<=2 ^ n*u.natAbs*v.natAbs*(j - i).natAbs:=uh _ (uh _ k1);have s2:b.natAbs*u.natAbs*i.natAbs<=2 ^ n*v.natAbs*u.natAbs*i.natAbs:=uh _ (uh _ k2);refine wO (Nat.add_le_add s1 s2) ?_;have ej:j.natAbs=(j - i).natAbs+i.natAbs:=by lia
 rw[ej];generalize (j - i).natAbs=x;generalize i.natAbs=y;generalize u.natAbs=u';generalize v.natAbs=v';generalize 2 ^ n=K;apply Nat.le_of_eq
 grind
def zeg {k:Int}(h0:0<=k)(h1:k<=57)(q:∀m:Int,0<m->Bt 190 m->Q (.int m)):z0n.run [.int k] Q X:=by
 walk_at "fn";ac_nf;refine z5g (by lia) (by lia) ?_;refine z0u (f:=λj:Nat=>D.int (j:Int)) (λdn ρ=>∃(x:B),ρ=[.s (.int k),.s (.int (((10 ^ dn.length:Nat)):Int)),x]) ⟨_,rfl⟩ ?_ ?_
 .rintro dn v r ρ e ⟨x,rfl⟩;have hl:dn.length<=57:=by
   have:=congrArg List.length e;simp at this;lia
  have bm:Bt 190 (((10 ^ dn.length:Nat)):Int):=z08 (uM (vN (by decide) hl) (by decide));l_bnd;ac_rfl;refine zeh ?_;ac_nf;refine⟨.s (.int (v:Int)),?_⟩;rw[wL,uH,Wd,Int.natCast_mul]
  rfl
 .rintro ρ ⟨x,rfl⟩;ac_nf;refine q _ (by have:=Nat.pow_pos (n:=(List.range k.toNat).length) (show 0<10 by decide);lia) (z08 (uM (vN (by decide) (show (List.range k.toNat).length<=57 by simp;lia)) (by decide)))
def z4c (h0:0<=m)(bm:Bt 300 m)(q:∀x:Int,x.natAbs<=m.natAbs->Q (.int x)):z06.run [.int r,.int m] Q X:=by
 walk_at "fn";ac_nf;have a1:=jr r (show 2*m+1≠0 by lia);have a2:=uN r (show 0<2*m+1 by lia);k_ne;generalize r % (2*m+1)=d at*;have bd:Bt 310 ((d+1) / 2):=b0.of_abs (by lia);have be:Bt 4 (1 - 2*(d % 2)):=z08 (by lia);ac_nf;refine q _ ?_
 rcases(by lia:d % 2=0\/d % 2=1) with z | z <;> rw[z] <;> lia
def z9U {c f:Int}{n:Nat}(hn:190<=n)(hf:1<=f/\f<=57)(q:∀t,Pe n t->Q (pl3 t)):z0e.run [.int c,.int f] Q X:=by
 have f0:0<f:=by lia
 have c1:=jr c (show f≠0 by lia);have c2:=uN c f0;have bf:Bt 640 f:=z08 (by lia);walk_at "fn";ac_nf;refine zeg (by lia) (by lia) λm m0 bm' =>?_;have bm:Bt 300 m:=bm'.le;k_ne;have mp:∀x:Int,x.natAbs<=m.natAbs->x.natAbs<=2 ^ n:=λx h=>wO h (wO (um bm'.abs) (vN (by decide) hn));ac_nf;refine z4c (by lia) bm λx bx =>?_;have bx':Bt 300 x:=bm.of_abs bx;ac_nf;refine z4c (by lia) bm λy bY =>?_;have bY':Bt 300 y:=bm.of_abs bY;ac_nf;have a1:=jr (c / f / (2*m+1) / (2*m+1)) (show m≠0 by lia);have a2:=uN (c / f / (2*m+1) / (2*m+1)) m0;generalize c / f / (2*m+1) / (2*m+1) % m=r at*;have br:Bt 190 (1+r):=bm'.of_abs (by lia);exact z5c (by lia) br.le λt h=>q t (h.pe (by lia) (z98 (by lia) (mp x bx)) (z98 (by lia) (mp y bY)) br.le)
def z4H {x y s:Int}{n:Nat}(hn:80<=n)(hx : -100<=x/\x<=100)(hy : -100<=y/\y<=100)(q:∀t,Pe n t->Q (pl3 t)):onV (atI [.int 1,.int 1,.int 2,.int 3,.int 6] (s % 5)) (λd=>z03.run [.int x,.int y,d] Q X):=by
 have bx:Bt 400 x:=Bt.le (m:=8) (z08 (by lia));have bY:Bt 400 y:=Bt.le (m:=8) (z08 (by lia));have go:∀b:Int,0<b->b<=6->z03.run [.int x,.int y,.int b] Q X:=λb b0 b1=>by
  have bb:Bt 8 b:=z08 (by lia);exact z5c b0 bb.le λt h=>q t (h.pe b0 (z98 b0 (z4a hn (by lia))) (z98 b0 (z4a hn (by lia))) bb.le)
 rcases(by lia:s % 5=0\/s % 5=1\/s % 5=2\/s % 5=3\/s % 5=4) with z | z | z | z | z <;> rw[z]
 .exact go 1 (by decide) (by decide)
 .exact go 1 (by decide) (by decide)
 .exact go 2 (by decide) (by decide)
 .exact go 3 (by decide) (by decide)
 .exact go 6 (by decide) (by decide)
def zg4 {c:Int}{l:List T3}{n:Nat}(hl:∀t∈l,Pe n t)(hn:80<=n)(hn':n<=600)(q:∀t,Pe n t->Q (pl3 t)):z0h.run [.int c,.lst (l.map pl3)] Q X:=by
 walk_at "fn";ac_nf;refine z5E (by decide) (by decide) λr r0 r1 =>?_;have p12:(10:Int) ^ (12:Int).toNat=1000000000000:=by decide
 have p8:(10:Int) ^ (8:Int).toNat=100000000:=by decide
 have p5:(10:Int) ^ (5:Int).toNat=100000:=by decide
 have p20:(10:Int) ^ (20:Int).toNat=100000000000000000000:=by decide
 ac_nf;have nx : -6<=r / 8 / 5 % 13 - 6/\r / 8 / 5 % 13 - 6<=6:=by lia
 have ny : -6<=r / 8 / 65 % 13 - 6/\r / 8 / 65 % 13 - 6<=6:=by lia
 generalize r / 8 / 5 % 13 - 6=x at*;generalize r / 8 / 65 % 13 - 6=y at*;have bx:Bt 8 x:=z08 (by lia)
 by_cases w1:r % 8=1
 .refine z3G w1 ?_;ac_nf
  by_cases ne:l=[]
  .subst ne;refine t_no (by simp) ?_;ac_nf;kd_p1;ac_nf;kd_p1;ac_nf;kd_p1;ac_nf;exact z4H hn (by lia) (by lia) q
  .have hlen:0<((l.map pl3).length:Int):=by simp;exact vq.mpr ne
   refine z3G hlen ?_;ac_nf;obtain⟨t,ht,e⟩:=zbu (s:=r / 8) ne;refine z1f e ?_;exact q t (hl t ht)
 refine t_no w1 ?_;ac_nf
 by_cases w2:r % 8=2
 .refine z3G w2 ?_;ac_nf
  by_cases ne:l=[]
  .subst ne;refine t_no (by simp) ?_;ac_nf;kd_p1;ac_nf;kd_p1;ac_nf;exact z4H hn (by lia) (by lia) q
  .have hlen:0<((l.map pl3).length:Int):=by simp;exact vq.mpr ne
   refine z3G hlen ?_;ac_nf;obtain⟨t,ht,e⟩:=zbu (s:=r / 8) ne;refine z1f e ?_;refine⟨Safe.of_noL rfl rfl _,?_⟩;ac_rfl;ac_nf;obtain⟨u,hu,e'⟩:=zbu (s:=r / 8 / 97) ne;refine z1f e' ?_;refine⟨Safe.of_noL rfl rfl _,?_⟩;ac_rfl;have pt:=hl t ht;have pu:=hl u hu;have b1:=pt.pb.bw;have b2:=pu.pb.bw;unfold pl3;ac_nf;rw[p12];refine z0y (λz =>?_) (λz =>?_)
   .ac_nf;have t0:=pt.lo.1;have u0:=pu.lo.1;have k1:t.2.2<1000000000000:=Int.lt_of_le_of_lt (by have:=vB (show 1<=u.2.2 by lia) (show 0<=t.2.2 by lia);lia) z;have k2:u.2.2<1000000000000:=Int.lt_of_le_of_lt (by have:=wM (show 1<=t.2.2 by lia) (show 0<=u.2.2 by lia);lia) z;have c1:Bt 40 t.2.2:=z08 (by lia);have c2:Bt 40 u.2.2:=z08 (by lia);have bj:Bt 4 (4:Int):=z08 (by decide);exact z9W pt.pb pu.pb (by lia) (by lia) (by lia) (by lia) (by lia) λv h=>q v (Lw.pe h (wP (wP t0 u0) (by decide)) (zdY t0 u0 (by lia) (by lia) pt.ax pu.ax) (zdY t0 u0 (by lia) (by lia) pt.ay pu.ay) (Bt.mul (Bt.mul c1 c2) bj).le)
   .ac_nf;kd_p1;ac_nf;kd_p1;ac_nf;exact z4H hn (by lia) (by lia) q
 refine t_no w2 ?_;ac_nf;refine z0y (λw3 =>?_) (λw3 =>?_)
 .ac_nf;kd_p1;ac_nf;exact z4H hn (by lia) (by lia) q
 ac_nf;refine z0y (λw4 =>?_) (λw4 =>?_)
 .ac_nf;refine z5E (by decide) (by decide) λu u0 u1 =>?_;ac_nf;rw[p20,p8,p5];have bX:Bt 400 (c % (2*100000000000000000000+1) - 100000000000000000000):=Bt.le (m:=80) (z08 (by lia));have bY:Bt 400 (u - 100000000):=Bt.le (m:=40) (z08 (by lia));have bW:Bt 40 (1+r / 8 % 100000):=z08 (by lia);exact z5c (by lia) bW.le λt h=>q t (h.pe (by lia) (z98 (by lia) (z4a hn (by lia))) (z98 (by lia) (z4a hn (by lia))) bW.le)
 ac_nf;exact z4H hn (by lia) (by lia) q
def z9Q {n:Nat}{cs:List Int}{f:Int}(hn:190<=n)(hn':n<=600)(hf:f=0\/1<=f/\f<=57)(hz:cs.length<=1000)(q:∀ts:List T3,ts.length=cs.length->(∀t∈ts,Pe n t)->Q (.lst (ts.map pl3))):z0R.run [.lst (cs.map .int),.int f] Q X:=by
 walk_at "fn";ac_nf;refine z0y (λh =>?_) (λh =>?_)
 .ac_nf;kl_no;refine z4G (g:=pl3) (P:=λ_ t=>Pe n t) (λc hc K hK =>?_) (λys hl ha =>?_)
  .ac_nf;exact z9U hn (by lia) hK
  .refine q ys hl λt ht =>?_;obtain⟨_,_,h⟩:=ha t ht;exact h
 .obtain rfl:f=0:=by lia
  ac_nf;refine z3d (λx hx=>by cases hx) ?_;ac_rfl;ac_nf;refine z0u (f:=D.int) (λdn ρ=>∃(ts:List T3) (x:B),ts.length=dn.length/\(∀t∈ts,Pe n t)/\ρ=[.s (.lst (cs.map .int)),.s (.int 0),.o (.lst (ts.map pl3)),x]) ⟨[],_,rfl,λt ht=>by simp at ht,rfl⟩ ?_ ?_
  .rintro dn v r ρ e ⟨ts,x,hl,hp,rfl⟩;have hd:dn.length<cs.length:=by rw[e];simp
   l_bnd;ac_rfl;refine z3p (l:=ts.map pl3) (z0x rfl ?_);ac_nf;refine zg4 hp (by lia) hn' λt ht =>?_;refine⟨by rw[wg];exact szl' (by lia),Safe.of_noL rfl rfl _,ts++[t],_,by simp[hl],λu hu =>?_,by simp;rfl⟩
   rcases wG.mp hu with z | z
   .exact hp u z
   .rw[wq.mp z];exact ht
  .rintro ρ ⟨ts,x,hl,hp,rfl⟩;ac_nf;exact q ts hl hp
end Pu
namespace Geo
structure Mix (h:List P)(p:P)(a b c:P)(i j k:Int):Prop where
 ma:a∈h
 mb:b∈h
 mc:c∈h
 pi:0<=i
 pj:0<=j
 pk:0<=k
 sum:0<i+j+k
 ex:i*a.1+j*b.1+k*c.1=(i+j+k)*p.1
 ey:i*a.2+j*b.2+k*c.2=(i+j+k)*p.2
theorem Ch.of {α:Type}{R:α->α->Prop}:∀{l:List α}{a:α},(∀(k:Nat) (x y:α),(a::l)[k]? = some x->l[k]? = some y->R x y)->Ch R a l
 | [],_,_=>trivial
 | b::r,a,h=>⟨h 0 a b rfl rfl,Ch.of λk x y hx hy=>h (k+1) x y (by simpa using hx) (by simpa using hy)⟩
theorem z8x:∀{r:List P}{b:P},Ch R b r->r≠[]->0<=Qc a b p->Qc a ((b::r).getLast (wC _ _)) p<=0->∃u v,u∈b::r/\v∈b::r/\R u v/\0<=Qc a u p/\Qc a v p<=0
 | [],_,_,h,_,_=>absurd rfl h
 | c::r,b,ch,_,h1,h2=>by
  rw[w6 (l:=c::r) (by simp)] at h2
  rcases vH 0 (Qc a c p) with z | z
  .have ne:r≠[]:=λe=>by
    subst e;simp at h2;lia
   obtain⟨u,v,mu,mv,k⟩:=z8x ch.2 ne (vf z) h2;exact⟨u,v,wm _ mu,wm _ mv,k⟩
  .exact⟨b,c,by simp,by simp,ch.1,h1,z⟩
def In.mix (is:z04 S h)(hin:In h p):∃a b c i j k,Mix h p a b c i j k:=by
 match h,is,hin with
 | [],_,hin=>exact hin.elim
 | [m],_,hin=>
  have e:p=m:=hin;subst e;exact⟨p,p,p,1,0,0,⟨by simp,by simp,by simp,by decide,by decide,by decide,by decide,by lia,by lia⟩⟩
 | [a,b],is,hin=>
  obtain⟨z,d1,d2⟩:Qc a b p=0/\0<=dot a b p/\0<=dot b a p:=hin;have e:=is.cyc (by simp) (j:=1) (by simp) (a:=a) (b:=b) (by simp) (by simp);have ne:=e.ne;have sq:0<dot b a p+dot a b p+0:=by
   have:0<(b.1 - a.1)*(b.1 - a.1)+(b.2 - a.2)*(b.2 - a.2):=sqp λy=>ne (vV (by have:=y.1;lia) (by have:=y.2;lia));unfold dot
   grind
  refine⟨a,b,a,dot b a p,dot a b p,0,⟨by simp,by simp,by simp,d2,d1,by decide,sq,?_,?_⟩⟩
  .unfold Qc at z;unfold dot
   grind
  .unfold Qc at z;unfold dot
   grind
 | a::b::c::r,is,hin=>
  have hl:3<=(a::b::c::r).length:=by simp
  have tri:=(In.three hl).mp hin;have nd:=is.nodup;have eab:Edge S a b:=is.cyc (by lia) (j:=1) (by lia) (by
   rw[show 1+(a::b::c::r).length - 1=0+(a::b::c::r).length by lia,vS]
   rfl) rfl
  have step:∀(k:Nat) (x y:P),(b::c::r)[k]? = some x->(c::r)[k]? = some y->0<=Qc x y p/\0<Qc x y a:=λk x y hx hy=>by
   have ix:(a::b::c::r)[(k+2+(a::b::c::r).length - 1) % (a::b::c::r).length]? = some x:=by
    have hk:k<(b::c::r).length:=(wu.mp hx).1;rw[show k+2+(a::b::c::r).length - 1=k+1+(a::b::c::r).length by lia,vS,wQ (by simp at hk ⊢;lia)];exact hx
   have iy:(a::b::c::r)[k+2]? = some y:=hy;have hk2:k+2<(a::b::c::r).length:=(wu.mp iy).1;refine⟨tri (k+2) x y hk2 ix iy,?_⟩;have e:=is.cyc (by lia) (j:=k+2) hk2 ix iy;rw[vY] at nd;refine zdH e eab (λz=>nd.1 ?_) (λz=>nd.1 ?_)
   .rw[<- z];exact wy hx
   .rw[<- z];exact wm _ (wy hy)
  have c1:0<=Qc a b p:=tri 1 a b (by lia) (by
   rw[show 1+(a::b::c::r).length - 1=0+(a::b::c::r).length by lia,vS]
   rfl) rfl
  have c2:Qc a ((b::c::r).getLast (wC _ _)) p<=0:=by
   have:=tri 0 ((b::c::r).getLast (wC _ _)) a (by lia) (by
    rw[wQ (by lia),jA];simp) rfl
   have sw:Qc a ((b::c::r).getLast (wC _ _)) p = -Qc ((b::c::r).getLast (wC _ _)) a p:=by
    unfold Qc
    grind
   lia
  obtain⟨u,v,mu,mv,⟨k1,k2⟩,k3,k4⟩:=z8x (Ch.of step) (by simp) c1 c2;refine⟨a,u,v,Qc u v p,-Qc a v p,Qc a u p,⟨by simp,wm _ mu,wm _ mv,k1,by lia,k3,?_,?_,?_⟩⟩
  .have:Qc u v p + -Qc a v p+Qc a u p=Qc u v a:=by unfold Qc;grind
   lia
  .unfold Qc;grind
  .unfold Qc;grind
end Geo
namespace Pu
open PySem L2 Mth
def zef {cs:List Int}(hz:cs.length<=1000)(q:∀ws:List P,ws.length=cs.length->Wb 40 ws->Q (vecs ws)):z1a.run [.lst (cs.map .int),.int f] Q X:=by
 have p9:(10:Int) ^ (9:Int).toNat=1000000000:=by decide
 walk_at "fn";ac_nf;refine z3d (λx hx=>by cases hx) ?_;ac_rfl;ac_nf;refine z0y (λh =>?_) (λh =>?_)
 .ac_nf;rw[p9];kl_no;refine z4G (g:=vec) (P:=λ_ v=>Vb 40 v) (λc hc K hK =>?_) (λys hl ha =>?_)
  .ac_nf;refine z4c (by decide) (Bt.le (m:=40) (z08 (by decide))) λx bx =>?_;ac_nf;refine z4c (by decide) (Bt.le (m:=40) (z08 (by decide))) λy bY =>?_;ac_nf;exact hK (x,y) ⟨z08 (by simp at bx;lia),z08 (by simp at bY;lia)⟩
  .ac_nf;exact q ys hl λv hv=>by
    obtain⟨_,_,h⟩:=ha v hv;exact h
 .ac_nf;refine z0u (f:=D.int) (λdn ρ=>∃(ws:List P) (x3 x4 x5 x6:B),ws.length=dn.length/\Wb 40 ws/\ρ=[.s (.lst (cs.map .int)),.s (.int f),.o (.lst (ws.map vec)),x3,x4,x5,x6]) ⟨[],_,_,_,_,rfl,λv hv=>(by cases hv),rfl⟩ ?_ ?_
  .rintro dn c r ρ e ⟨ws,x3,x4,x5,x6,hl,hw,rfl⟩;have hd:dn.length<cs.length:=by rw[e];simp
   l_bnd;ac_rfl;ac_nf;refine z5E (by decide) (by decide) λu u0 u1 =>?_;ac_nf;have fin:∀(v:P),Vb 40 v->Wb 40 (ws++[v]):=λv hv w hw'=>by
    rcases wG.mp hw' with z | z
    .exact hw w z
    .rw[wq.mp z];exact hv
   have ap:∀(v:P),Vb 40 v->(Sm.app 2 (Ex.v 6)).run [.s (.lst (cs.map .int)),.s (.int f),.o (.lst (ws.map vec)),x3,.s (.int c),.s (.int u),.s (vec v)] (λρ''=>∃(ws:List P) (x3 x4 x5 x6:B),ws.length=(dn++[c]).length/\Wb 40 ws/\ρ''=[.s (.lst (cs.map .int)),.s (.int f),.o (.lst (ws.map vec)),x3,x4,x5,x6]) Q (λ_=>False):=λv hv=>by
    refine z3p (l:=[]) (z0x rfl ?_);ac_nf;refine⟨by rw[wg];exact szl' (by lia),Safe.of_noL rfl rfl _,ws++[v],x3,.s (.int c),.s (.int u),.s (vec v),by simp[hl],fin v hv,?_⟩;ac_rfl;rw[wY]
    rfl
   refine z0y (λz =>?_) (λz =>?_)
   .ac_nf;rw[p9];ac_nf;exact ap (c % (2*1000000000+1) - 1000000000,u / 1444 % 2001 - 1000) ⟨z08 (by dsimp only;lia),z08 (by dsimp only;lia)⟩
   .ac_nf;exact ap (u % 19 - 9,u / 19 % 19 - 9) ⟨z08 (by dsimp only;lia),z08 (by dsimp only;lia)⟩
  .rintro ρ ⟨ws,x3,x4,x5,x6,hl,hw,rfl⟩;ac_nf;exact q ws hl hw
def zhK {v v':P}(hp:0<p.2.2)(hp':0<p'.2.2)(h:Nf d p p')(k:Qb v d<=Qb v' d):Nf d (mvT p v) (mvT p' v'):=by
 unfold Nf ss mvT at*;dsimp only at*;unfold Qb at k;have e1:d.1*(p.1+v.1*p.2.2)+d.2*(p.2.1+v.2*p.2.2)=(d.1*p.1+d.2*p.2.1)+p.2.2*(v.1*d.1+v.2*d.2):=by grind
 have e2:d.1*(p'.1+v'.1*p'.2.2)+d.2*(p'.2.1+v'.2*p'.2.2)=(d.1*p'.1+d.2*p'.2.1)+p'.2.2*(v'.1*d.1+v'.2*d.2):=by grind
 rw[e1,e2];generalize d.1*p.1+d.2*p.2.1=A at*;generalize d.1*p'.1+d.2*p'.2.1=B at*;generalize v.1*d.1+v.2*d.2=x at*;generalize v'.1*d.1+v'.2*d.2=y at*;have m:=vB k (vf (wP hp hp'))
 grind
def z3o {h L:List T3}{wd g:List P}(ig:z04 (· ∈ wd) g)(ph:∀t∈h,0<t.2.2)(mem:∀s∈L,∃p∈h,∃v∈g,s=mvT p v)(far:∀p∈h,∀v∈g,∀b:P,∃s∈L,Nf b (mvT p v) s){p:T3}{v:P}(pp:0<p.2.2)(hp:InA h p)(hv:v∈wd):InA L (mvT p v):=λd=>by
 obtain⟨a,ma,ka⟩:=hp d;obtain⟨w,mw,kw⟩:=ig.far (ig.in hv) d;obtain⟨s,ms,ks⟩:=far a ma w mw d;refine⟨s,ms,?_⟩;have pa:=ph a ma;obtain⟨a',ma',w',_,e⟩:=mem s ms;have ps:0<s.2.2:=by rw[e];exact ph a' ma'
 have k1:=zhK pp pa ka kw;unfold Nf at k1 ks ⊢;have q1:0<(mvT a w).2.2:=pa;have q2:0<(mvT p v).2.2:=pp;generalize ss d (mvT p v)=A at*;generalize ss d (mvT a w)=B at*;generalize ss d s=C at*;generalize (mvT p v).2.2=x at*;generalize (mvT a w).2.2=y at*;generalize s.2.2=z at*;have m1:=wM k1 (vf ps);have m2:=wM ks (vf q2);refine ug (a:=y) ?_ q1
 grind
def zhu {l:List T3}(h:p∈l)(q:Q (.bl false)):zap.run [pl3 p,.lst (l.map pl3)] Q X:=by
 refine⟨Da.pl3 p,λd hd =>?_,?_⟩
 .obtain⟨y,_,rfl⟩:=wv.mp hd;exact Da.pl3 y
 .show Q (.bl (!(l.map pl3).any λd=>deq d (pl3 p)));rw[show ((l.map pl3).any λd=>deq d (pl3 p))=true from List.any_eq_true.mpr ⟨pl3 p,vd h,by rw[z4D];simp⟩];exact q
def sums (ts:List T3)(wd:List P):List T3:=ts.flatMap λt=>wd.map (mvT t)
def z80 {ts:List T3}:(sums ts wd).length=ts.length*wd.length:=by
 unfold sums
 induction ts with
 | nil=>simp
 | cons t ts ih=>rw[ju,wL,ih,wg,w5,Nat.succ_mul,We]
def Pe.mv {n:Nat}{t:T3}{v:P}(h:Pe n t)(hv:Vb 40 v)(hn:40<=n):Pe (n+1) (mvT t v):=by
 have k:∀{x y:Int},x.natAbs<=2 ^ n*t.2.2.natAbs->Bt 40 y->(x+y*t.2.2).natAbs<=2 ^ (n+1)*t.2.2.natAbs:=λ{x y} hx hy=>by
  refine wO (Int.natAbs_add_le _ _) ?_;rw[vz,Wd,Nat.mul_assoc,Nat.two_mul,Nat.mul_add];refine Nat.add_le_add hx (uh _ (wO (um hy.abs) (vN (by decide) hn)))
 exact⟨zaA h.lo,k h.ax hv.1,k h.ay hv.2,h.bw⟩
def z9S {M:Int}{ts h:List T3}{wd:List P}(hm:0<M)(x:Ar ts h)(tn:ts≠[])(pe:∀t∈ts,Pe 190 t)(hM:∀t∈ts,Dv M t)(tz:ts.length<=14)(hz:h.length<=ts.length)(wb:Wb 40 wd)(wn:wd≠[])(wz:wd.length<=14)(q:Q (.bl true)):z0Q.run [pls3 h,.lst (ts.map pl3),vecs wd] Q X:=by
 have lo:∀t∈ts,Lo t:=λt ht=>(pe t ht).lo;have is:=x.is hM tn;have hn:=x.ne (λt ht=>(lo t ht).1) tn;have sub:=x.sub;walk_at "fn";ac_nf;refine z4b hm tn hn (by lia) is (λt ht=>hM t (sub t ht)) (λt ht=>((pe t (sub t ht)).le (by decide)).px) (.inl rfl) (λv hv=>(wb v hv).le) wn (by lia) λg L h' ig mem far Ln Ll x' =>?_;refine z1k (by repeat (first | exact trivial | refine⟨trivial,?_⟩)) ?_;ac_rfl;ac_nf;refine z3d (λx hx=>by cases hx) ?_;ac_rfl;have lowS:∀{t:T3}{v:P},Lo t->∀u,Lw (t.1+v.1*t.2.2) (t.2.1+v.2*t.2.2) t.2.2 u->u=mvT t v:=λ{t v} lt u hu=>z8l (t:=mvT t v) (zaA lt) hu;refine zek (λρ'=>∃x5 x6 x7 x8:B,ρ'=[.s (pls3 h),.s (.lst (ts.map pl3)),.s (vecs wd),.s (pls3 h'),.o (.lst ((sums ts wd).map pl3)),x5,x6,x7,x8]) ?_ ?_
 .ac_nf;refine z0u (f:=pl3) (λdn ρ=>∃x5 x6 x7 x8:B,ρ=[.s (pls3 h),.s (.lst (ts.map pl3)),.s (vecs wd),.s (pls3 h'),.o (.lst ((sums dn wd).map pl3)),x5,x6,x7,x8]) ⟨_,_,_,_,rfl⟩ ?_ ?_
  .rintro dn t r ρ e ⟨x5,x6,x7,x8,rfl⟩;have mt:t∈ts:=by rw[e];simp
   have dl:dn.length<ts.length:=by rw[e];simp
   have pt:=(pe t mt).pb;have b1:=pt.bx;have b2:=pt.bY;have b3:Bt 1000 t.2.2:=pt.bw;l_bnd;ac_rfl;ac_nf;refine z0u (f:=vec) (λdv ρ=>∃x6 x7 x8:B,ρ=[.s (pls3 h),.s (.lst (ts.map pl3)),.s (vecs wd),.s (pls3 h'),.o (.lst ((sums dn wd++dv.map (mvT t)).map pl3)),.s (pl3 t),x6,x7,x8]) ⟨x6,x7,x8,by simp⟩ ?_ ?_
   .rintro dv v r' ρ e' ⟨x6,x7,x8,rfl⟩;have mv':v∈wd:=by rw[e'];simp
    have vl:dv.length<wd.length:=by rw[e'];simp
    obtain⟨v1,v2⟩:=wb v mv';l_bnd;ac_rfl;unfold pl3 vec;ac_nf;refine z3p (l:=[]) (z0x rfl ?_);ac_nf;refine z5c (lo t mt).1 b3.le λu hu =>?_;rw[lowS (lo t mt) u hu];refine⟨?_,Safe.of_noL rfl rfl _,?_⟩
    .rw[wg,wL,z80,wg];have:=Nat.mul_le_mul (show dn.length<=14 by lia) wz;exact szl' (by lia)
    .ac_rfl;refine⟨.s (vec v),.s (.int (t.1+v.1*t.2.2)),x8,?_⟩;rw[wY (l₁:=dv), <- vZ,wY (l₂:=List.map (mvT t) [v])]
     rfl
   .rintro ρ ⟨x6,x7,x8,rfl⟩;refine⟨.s (pl3 t),x6,x7,x8,?_⟩;rw[show sums (dn++[t]) wd=sums dn wd++wd.map (mvT t) by unfold sums;rw[List.flatMap_append,ju,List.flatMap_nil,v6]]
  .rintro ρ ⟨x5,x6,x7,x8,rfl⟩;exact⟨x5,x6,x7,x8,rfl⟩
 rintro ρ ⟨x5,x6,x7,x8,rfl⟩;have memS:∀s∈L,s∈sums ts wd:=λs hs=>by
  obtain⟨p,hp,v,hv,rfl⟩:=mem s hs;exact u9.mpr ⟨p,sub p hp,vd (ig.sub v hv)⟩
 have peL:∀s∈sums ts wd,Pe 191 s/\Dv M s:=λs hs=>by
  obtain⟨p,hp,hs⟩:=u9.mp hs;obtain⟨v,hv,rfl⟩:=wv.mp hs;exact⟨(pe p hp).mv (wb v hv) (by decide),z36 (hM p hp)⟩
 have isL:=x'.is (λt ht=>(peL t (memS t ht)).2) Ln;have gl:=z0N ig.nodup ig.sub;have hl':h'.length<=L.length:=by
  have:=z0N isL.nodup isL.sub
  rwa [wg,wg] at this
 have inh:∀p∈ts,InA h p:=λp hp w=>by
  obtain⟨c,hc,cw⟩:=is.far (is.in (vd (f:=Geo.up M) hp)) w;obtain⟨t,ht,rfl⟩:=wv.mp hc;exact⟨t,ht,(z35 (hM p hp) (hM t (sub t ht))).mpr cw⟩
 have inL:∀s∈sums ts wd,In (h'.map (Geo.up M)) (Geo.up M s):=λs hs=>by
  refine(z5p isL (λt ht=>(peL t (memS t ht)).2) (peL s hs).2).mpr ?_;obtain⟨p,hp,hs⟩:=u9.mp hs;obtain⟨v,hv,rfl⟩:=wv.mp hs;exact z3o ig (λt ht=>(lo t (sub t ht)).1) mem far (lo p hp).1 (inh p hp) hv
 ac_nf;refine z8W x' (λt ht=>(peL t (memS t ht)).2) (λt ht=>(peL t (memS t ht)).1.lo) (λt ht=>(peL t (memS t ht)).1.pb.tz (by decide)) (λt ht=>(peL t (memS t ht)).1.bw.le) (by lia) ?_;ac_nf;refine z1B ?_;ac_nf;refine z0u (f:=pl3) (l:=h') (λ_ ρ=>∃x8:B,ρ=[.s (pls3 h),.s (.lst (ts.map pl3)),.s (vecs wd),.s (pls3 h'),.o (.lst ((sums ts wd).map pl3)),x5,x6,x7,x8]) ⟨_,rfl⟩ ?_ ?_
 .rintro dn c r ρ e ⟨x8,rfl⟩;have mc:c∈h':=by rw[e];simp
  l_bnd;ac_rfl;ac_nf;refine zhu (memS c (x'.sub c mc)) ?_;refine z1B ?_;ac_nf;exact⟨_,rfl⟩
 rintro ρ ⟨x8,rfl⟩;ac_nf;refine⟨by rw[wg,z80];have:=Nat.mul_le_mul tz wz;exact szl' (by lia),?_⟩;refine z0O (g:=λ_=>D.bl true) (λs hs K hK =>?_) ?_
 .ac_nf;refine z9T (M:=M) (λt ht=>(peL t (memS t (x'.sub t ht))).2) (peL s hs).2 (λt ht=>(peL t (memS t (x'.sub t ht))).1.lo) (peL s hs).1.lo (by lia) (λt ht=>(peL t (memS t (x'.sub t ht))).1.pb.tz (by decide)) ((peL s hs).1.pb.tz (by decide)) λv hv =>?_;rw[hv.mpr (inL s hs)];exact hK
 .rw[show ((sums ts wd).map λ_=>D.bl true)=((sums ts wd).map λ_=>true).map D.bl by rw[vM];rfl];refine zf5 ?_;rw[show ((sums ts wd).map λ_=>true).all id=true by rw[jC];intro y hy;obtain⟨_,_,rfl⟩:=wv.mp hy;rfl];exact q
def zfq {a k w:Int}:Int.gcd (a+k*w) w=Int.gcd a w:=by
 have one:∀a k:Int,(Int.gcd (a+k*w) w:Int) ∣ (Int.gcd a w:Int):=λa k=>by
  have d1:(Int.gcd (a+k*w) w:Int) ∣ a+k*w:=uz ..;have d2:(Int.gcd (a+k*w) w:Int) ∣ w:=uD ..;exact Int.dvd_coe_gcd ((Int.dvd_add_left (jv d2)).mp d1) d2
 have two:=one (a+k*w) (-k);rw[show a+k*w + -k*w=a by grind] at two;exact Nat.dvd_antisymm (Int.natCast_dvd_natCast.mp (one a k)) (Int.natCast_dvd_natCast.mp two)
def zjx {v:P}:lf b (mvT t v)=((lf b t).1+(v.1*b.1+v.2*b.2)*(lf b t).2,(lf b t).2):=by
 have e:ss b (mvT t v)=ss b t+(v.1*b.1+v.2*b.2)*t.2.2:=by
  unfold ss mvT
  grind
 have w:(mvT t v).2.2=t.2.2:=rfl;unfold lf;rw[e,w,zfq];have d2:(Int.gcd (ss b t) t.2.2:Int) ∣ t.2.2:=uD ..;k_in;rw[Int.add_ediv_of_dvd_right (jv d2),Int.mul_ediv_assoc _ d2]
def zg1 {ts h:List T3}(hb:Vb 1000 b)(hm:0<M)(x:Ar ts h)(tn:ts≠[])(pe:∀t∈ts,Pe 190 t)(hM:∀t∈ts,Dv M t)(tz:ts.length<=14)(hz:h.length<=ts.length)(wb:Wb 40 wd)(wn:wd≠[])(wz:wd.length<=14)(q:Q (.bl true)):z0U.run [pls3 h,vecs wd,vec b] Q X:=by
 have lo:∀t∈ts,Lo t:=λt ht=>(pe t ht).lo;have is:=x.is hM tn;have hn:=x.ne (λt ht=>(lo t ht).1) tn;have sub:=x.sub;have ph:∀t∈h,Px t:=λt ht=>((pe t (sub t ht)).le (by decide)).px;walk_at "fn";ac_nf;kl_no;refine z0O (g:=λv:P=>D.int (v.1*b.1+v.2*b.2)) (λv hv K hK =>?_) ?_
 .ac_nf;exact zdq (wb v hv).le hb.le hK
 rw[show (wd.map λv:P=>D.int (v.1*b.1+v.2*b.2))=(wd.map λv:P=>v.1*b.1+v.2*b.2).map D.int by rw[vM];rfl];refine zhz (by simpa using wn) λm mm mx =>?_;obtain⟨v0,hv0,em⟩:=wv.mp mm;have mx':∀v∈wd,v.1*b.1+v.2*b.2<=m:=λv hv=>mx _ (wv.mpr ⟨v,hv,rfl⟩);refine z1k (Safe.of_noL rfl rfl _) ?_;ac_rfl;ac_nf;refine zg2 (X:=X) hb (λt ht=>(ph t ht).tz) (λt ht=>(ph t ht).lo.1) (λz=>absurd z hn) λt ht =>?_;refine z1k (Safe.of_noL rfl rfl _) ?_;ac_rfl;ac_nf;refine z4b hm tn hn (by lia) is (λt ht=>hM t (sub t ht)) ph (.inl rfl) (λv hv=>(wb v hv).le) wn (by lia) λg L h' ig mem far Ln Ll x' =>?_;have pL:∀s∈L,Pe 191 s/\Dv M s:=λs hs=>by
  obtain⟨p,hp,v,hv,rfl⟩:=mem s hs;exact⟨(pe p (sub p hp)).mv (wb v (ig.sub v hv)) (by decide),z36 (hM p (sub p hp))⟩
 have isL:=x'.is (λs hs=>(pL s hs).2) Ln;have hn':=x'.ne (λs hs=>(pL s hs).1.lo.1) Ln;refine zg2 (X:=X) hb (λs hs=>(pL s (x'.sub s hs)).1.pb.tz (by decide)) (λs hs=>(pL s (x'.sub s hs)).1.lo.1) (λz=>absurd z hn') λu hu =>?_;refine z1k (Safe.of_noL rfl rfl _) ?_;ac_rfl;have key:lf b u=((lf b t).1+m*(lf b t).2,(lf b t).2):=by
  have t0:=(ph t ht.1).lo.1;have uL:=x'.sub u hu.1;have u0:=(pL u uL).1.lo.1;have s0:0<(mvT t v0).2.2:=t0;have k1:Nf b u (mvT t v0):=by
   obtain⟨p,hp,v,hv,e⟩:=mem u uL;rw[e];refine zhK (ph p hp).lo.1 t0 (ht.2 p hp) ?_;have:=mx' v (ig.sub v hv);unfold Qb;lia
  have k2:Nf b (mvT t v0) u:=by
   have it:InA h t:=λw=>⟨t,ht.1,ul _⟩
   obtain⟨s,ms,ks⟩:=z3o ig (λt ht=>(ph t ht).lo.1) mem far t0 it hv0 b;obtain⟨c,hc,cw⟩:=isL.far (isL.in (vd ms)) b;obtain⟨y,hy,rfl⟩:=wv.mp hc;have y0:=(pL y (x'.sub y hy)).1.lo.1;have ps:=(pL s ms).1.lo.1;have k3:Nf b s y:=(z35 (pL s ms).2 (pL y (x'.sub y hy)).2).mpr cw;exact(ks.tr ps s0 y0 k3).tr y0 s0 u0 (hu.2 y hy)
  unfold Nf at k1 k2;rw[(zfb u0 s0).2 (by lia),zjx,em]
 have bl:=zfc hb (ph t ht.1).tz (ph t ht.1).lo.1;have l1:=bl.1;have l2:=bl.2;have bm:Bt 2000 m:=by
  rw[<- em];exact(Bt.add (Bt.mul (wb v0 hv0).1 hb.1) (Bt.mul (wb v0 hv0).2 hb.2)).le
 ac_nf;rw[key];refine z95 (Da.vec ((lf b t).1+m*(lf b t).2,(lf b t).2)) (Da.vec ((lf b t).1+m*(lf b t).2,(lf b t).2)) ?_;rw[show deq (.tup [.int ((lf b t).1+m*(lf b t).2),.int (lf b t).2]) (.tup [.int ((lf b t).1+m*(lf b t).2),.int (lf b t).2])=true from (zft ((lf b t).1+m*(lf b t).2,(lf b t).2) ((lf b t).1+m*(lf b t).2,(lf b t).2)).trans (vC rfl)];exact q
def mixT (M i j k:Int)(x y z:T3):T3:=(i*(Geo.up M x).1+j*(Geo.up M y).1+k*(Geo.up M z).1,i*(Geo.up M x).2+j*(Geo.up M y).2+k*(Geo.up M z).2,(i+j+k)*M)
def zf7 {x c:T3}(hx:Dv M x)(h:Nf d x c):Qb (Geo.up M x) d*c.2.2<=ss d c*M:=by
 obtain⟨k0,e⟩:=hx.k;have e':Qb (Geo.up M x) d=ss d x*(M / x.2.2):=by unfold Qb Geo.up ss;grind
 unfold Nf at h;have m:=wM h (vf k0);rw[e'];generalize M / x.2.2=q at*;have:x.2.2*q=M:=by first | exact e | (rw[jh];exact e)
 rw[<- this]
 grind
def InA.mix {M i j k:Int}(hC:∀c∈C,0<c.2.2)(hx:Dv M x)(hy:Dv M y)(hz:Dv M z)(hi:0<=i)(hj:0<=j)(hk:0<=k)(ax:InA C x)(ay:InA C y)(az:InA C z):InA C (mixT M i j k x y z):=λd=>by
 obtain⟨c1,m1,n1⟩:=ax d;obtain⟨c2,m2,n2⟩:=ay d;obtain⟨c3,m3,n3⟩:=az d;have tot:∀a b:T3,Nf d a b\/Nf d b a:=λa b=>by
  unfold Nf;exact Int.le_total _ _
 have best:∃c∈C,Nf d x c/\Nf d y c/\Nf d z c:=by
  have p1:=hC c1 m1;have p2:=hC c2 m2;have p3:=hC c3 m3
  rcases tot c1 c2 with t1 | t1
  .rcases tot c2 c3 with t2 | t2
   .exact⟨c3,m3,(n1.tr p1 hx.pos p2 t1).tr p2 hx.pos p3 t2,n2.tr p2 hy.pos p3 t2,n3⟩
   .exact⟨c2,m2,n1.tr p1 hx.pos p2 t1,n2,n3.tr p3 hz.pos p2 t2⟩
  .rcases tot c1 c3 with t2 | t2
   .exact⟨c3,m3,n1.tr p1 hx.pos p3 t2,(n2.tr p2 hy.pos p1 t1).tr p1 hy.pos p3 t2,n3⟩
   .exact⟨c1,m1,n1,n2.tr p2 hy.pos p1 t1,n3.tr p3 hz.pos p1 t2⟩
 obtain⟨c,mc,nx,ny,nz⟩:=best;refine⟨c,mc,?_⟩;have s1:=vB (zf7 hx nx) hi;have s2:=vB (zf7 hy ny) hj;have s3:=vB (zf7 hz nz) hk;unfold Nf ss mixT;unfold Qb ss at s1 s2 s3;k_in;generalize Geo.up M x=X at*;generalize Geo.up M y=Y at*;generalize Geo.up M z=Z at*
 grind
def ngv (v:P):P:=(0 - v.1,0 - v.2)
def zb5 {M:Int}{h L' hd h1:List T3}{wd:List P}{p:T3}(hm:0<M)(hM:∀t∈h,Dv M t)(pM:Dv M p)(memD:∀s∈L',∃a∈h,∃v∈wd,s=mvT a (ngv v))(inD:∀a∈h,∀v∈wd,InA L' (mvT a (ngv v)))(mem1:∀s∈h1,∃v∈wd,s=mvT p v)(in1:∀v∈wd,InA h1 (mvT p v))(isD:z04 (· ∈ L'.map (Geo.up M)) (hd.map (Geo.up M))):
  (∃q:T3,0<q.2.2/\InA h1 q/\InA h q)↔InA L' p:=by
 have LM:∀s∈L',Dv M s:=λs hs=>by
  obtain⟨a,ha,v,_,rfl⟩:=memD s hs;exact z36 (hM a ha)
 have p1:∀s∈h1,0<s.2.2:=λs hs=>by
  obtain⟨v,_,rfl⟩:=mem1 s hs;exact pM.pos
 w_up
 .rintro⟨q,q0,i1,i2⟩ d;obtain⟨a,ma,na⟩:=i2 d;obtain⟨s,ms,ns⟩:=i1 (-d.1,-d.2);obtain⟨v,hv,rfl⟩:=mem1 s ms;obtain⟨s',ms',ns'⟩:=inD a ma v hv d;have a0:=(hM a ma).pos;have p0:=pM.pos;have k:Nf d p (mvT a (ngv v)):=by
   unfold Nf ss mvT ngv at*;dsimp only at*;have m1:=wM na (vf p0);have m2:=wM ns (vf a0);refine ug (a:=q.2.2) ?_ q0
   grind
  exact⟨s',ms',Nf.tr (t:=mvT a (ngv v)) (show 0<(mvT a (ngv v)).2.2 from a0) p0 (LM s' ms').pos k ns'⟩
 .intro ip;obtain⟨A,B,C,i,j,k,mx⟩:=In.mix isD ((z5p isD LM pM).mpr ip);have back:∀c∈hd.map (Geo.up M),∃a∈h,∃v∈wd,c=Geo.pl (Geo.up M a) (Geo.sca M (ngv v)):=λc hc=>by
   obtain⟨s,hs,rfl⟩:=wv.mp (isD.sub c hc);obtain⟨a,ha,v,hv,rfl⟩:=memD s hs;exact⟨a,ha,v,hv,z5l (hM a ha)⟩
  obtain⟨a,ha,u,hu,eA⟩:=back A mx.ma;obtain⟨b,hb,v,hv,eB⟩:=back B mx.mb;obtain⟨c,hc,w,hw,eC⟩:=back C mx.mc;have self:∀t∈h,InA h t:=λt ht d=>⟨t,ht,ul _⟩
  have same:mixT M i j k a b c=mixT M i j k (mvT p u) (mvT p v) (mvT p w):=by
   have e1:=mx.ex;have e2:=mx.ey;unfold mixT;rw[z5l pM,z5l pM,z5l pM];rw[eA,eB,eC] at e1 e2;unfold Geo.pl Geo.sca ngv at*;dsimp only at*;generalize Geo.up M a=x at*;generalize Geo.up M b=y at*;generalize Geo.up M c=z at*;generalize Geo.up M p=t at*;exact vV (by dsimp only;grind) (vV (by dsimp only;grind) rfl)
  refine⟨mixT M i j k a b c,wP mx.sum hm,?_,?_⟩
  .rw[same];exact InA.mix p1 (z36 pM) (z36 pM) (z36 pM) mx.pi mx.pj mx.pk (in1 u hu) (in1 v hv) (in1 w hw)
  .exact InA.mix (λt ht=>(hM t ht).pos) (hM a ha) (hM b hb) (hM c hc) mx.pi mx.pj mx.pk (self a ha) (self b hb) (self c hc)
def z9N (q:Q (.tup [])):z0f.run [.tup [],d] Q X:=by
 walk_at "fn";ac_nf;refine z3G rfl ?_;ac_nf;exact q
def zhY (a:P):z04 (· ∈ [a]) [a]:=⟨⟨a,[],rfl,by simp,λp hp=>by rw[wq.mp hp];exact Lx.irr,by simp,.inl ⟨rfl,λp hp=>wq.mp hp⟩⟩⟩
def z5a {ts ar:List T3}(x:Ar ts ar)(tn:ts≠[])(lo:∀t∈ts,Lo t)(q0:0<q.2.2):InA ar q↔∀y∈z1j ar,Nf y.1 q y.2:=by
 obtain⟨M,_,hMp⟩:=z4C (l:=ts++[q]) λt ht=>by
  rcases wG.mp ht with z | z
  .exact(lo t z).1
  .rw[wq.mp z];exact q0
 have is:=x.is (λt ht=>hMp t (wR _ ht)) tn;exact z9H (is.of is.sub λc hc=>hc) (λt ht=>hMp t (wR _ (x.sub t ht))) (hMp q (by simp)) (λt ht=>lo t (x.sub t ht)) (x.ne (λt ht=>(lo t ht).1) tn)
def zaN {ts ar LD hD:List T3}(hb:Vb 1000 b)(pp:Pe 191 p)(x:Ar ts ar)(tn:ts≠[])(pe:∀t∈ts,Pe 190 t)(tl:ts.length<=12)(al:ar.length<=ts.length)(wb:Wb 40 wd)(wn:wd≠[])(wz:wd.length<=12)
  (igD:z04 (· ∈ wd.map ngv) gD) (memD:∀s∈LD,∃a∈ar,∃v∈gD,s=mvT a v) (farD:∀a∈ar,∀v∈gD,∀d:P,∃s∈LD,Nf d (mvT a v) s) (LnD:LD≠[]) (LlD:LD.length<=40) (xD:Ar LD hD)
  (q:∀e,N [e0,e1,e2,e3,e4,e5,.s (vecs wd),.s (pls3 ar),e8,.s (pls3 hD),e10,.s (vec b),.s (pl3 p),e]):
  Sm.run (.seq (.ifs (.not (.op z0U [(.v 7),(.v 6),(.v 11)])) (.ret (.c (.bl false))) .skip)
 (.seq (.set 13 (.op z1m [(.op z0f [(.op pTup [(.v 12)]),(.v 6)]),(.v 7)]))
 (.ifs (.op pNe [(.op z21 [(.v 9),(.v 12)]),(.op pGt [(.op pLen [(.v 13)]),(.c (.int 0))])]) (.ret (.c (.bl false))) .skip))) [e0,e1,e2,e3,e4,e5,.s (vecs wd),.s (pls3 ar),e8,.s (pls3 hD),e10,.s (vec b),.s (pl3 p),e13] N Q (λ_=>False):=by
 have lo:∀t∈ts,Lo t:=λt ht=>(pe t ht).lo;obtain⟨M,hm,hMp⟩:=z4C (l:=ts++[p]) λt ht=>by
  rcases wG.mp ht with z | z
  .exact(lo t z).1
  .rw[wq.mp z];exact pp.lo.1
 have hM:∀t∈ts,Dv M t:=λt ht=>hMp t (wR _ ht);have pM:Dv M p:=hMp p (by simp);have is:=x.is hM tn;have an:=x.ne (λt ht=>(lo t ht).1) tn;have sub:=x.sub;have aM:∀t∈ar,Dv M t:=λt ht=>hM t (sub t ht);have pxa:∀t∈ar,Px t:=λt ht=>((pe t (sub t ht)).le (by decide)).px;have isA:z04 (· ∈ ar.map (Geo.up M)) (ar.map (Geo.up M)):=is.of is.sub λc hc=>hc;have px:Px p:=(pp.le (by decide)).px;ac_nf;refine zg1 hb hm x tn pe hM (by lia) al wb wn (by lia) ?_;ac_nf;refine z1B ?_;ac_nf;refine z4b (M:=M) (l:=[p]) (h:=[p]) hm (by simp) (by simp) (by simp) (zhY _) (λt ht=>by rw[wq.mp ht];exact pM) (λt ht=>by rw[wq.mp ht];exact px) (.inl rfl) (λv hv=>(wb v hv).le) wn (by lia) λg1 L1 h1 ig1 mem1 far1 Ln1 Ll1 x1 =>?_;have gl1:=z0N ig1.nodup ig1.sub;have m1:∀s∈L1,∃v∈wd,s=mvT p v:=λs hs=>by
  obtain⟨a,ha,v,hv,e⟩:=mem1 s hs;rw[wq.mp ha] at e;exact⟨v,ig1.sub v hv,e⟩
 have pL1:∀s∈L1,Pe 192 s/\Dv M s:=λs hs=>by
  obtain⟨v,hv,rfl⟩:=m1 s hs;exact⟨pp.mv (wb v hv) (by decide),z36 pM⟩
 have is1:=x1.is (λs hs=>(pL1 s hs).2) Ln1;have n1:=x1.ne (λs hs=>(pL1 s hs).1.lo.1) Ln1;have hl1:h1.length<=L1.length:=by
  have:=z0N is1.nodup is1.sub
  rwa [wg,wg] at this
 have isH:z04 (· ∈ h1.map (Geo.up M)) (h1.map (Geo.up M)):=is1.of is1.sub λc hc=>hc;have hM1:∀s∈h1,Dv M s:=λs hs=>(pL1 s (x1.sub s hs)).2;refine zbP (X:=λ_=>False) (M:=M) (.inr (Gu.of isH hM1 (λs hs=>((pL1 s (x1.sub s hs)).1.le (by decide)).px) n1)) (by simp at Ll1;lia) an pxa aM isA λC hs hC hi xs =>?_;refine⟨Safe.of_noL (z62 hs) (z65 hs) _,?_⟩;have pLD:∀s∈LD,Pe 191 s/\Dv M s:=λs hs=>by
  obtain⟨a,ha,v,hv,rfl⟩:=memD s hs;obtain⟨u,hu,rfl⟩:=wv.mp (igD.sub v hv);have:=wb u hu;exact⟨(pe a (sub a ha)).mv ⟨this.1.of_abs (by unfold ngv;dsimp only;lia),this.2.of_abs (by unfold ngv;dsimp only;lia)⟩ (by decide),z36 (aM a ha)⟩
 have isD:=xD.is (λs hs=>(pLD s hs).2) LnD;have key:=zb5 (h:=ar) (L':=LD) (hd:=hD) (h1:=h1) (wd:=wd) hm aM pM (λs hs=>by
  obtain⟨a,ha,v,hv,e⟩:=memD s hs;obtain⟨u,hu,rfl⟩:=wv.mp (igD.sub v hv);exact⟨a,ha,u,hu,e⟩) (λa ha v hv=>z3o igD (λt ht=>(aM t ht).pos) memD farD (aM a ha).pos (λd=>⟨a,ha,ul _⟩) (vd hv)) (λs hs=>m1 s (x1.sub s hs)) (λv hv d=>by
  obtain⟨s,ms,ns⟩:=z3o ig1 (λt ht=>by rw[wq.mp ht];exact pM.pos) mem1 far1 pM.pos (λd=>⟨p,by simp,ul _⟩) hv d;obtain⟨c,hc,cw⟩:=is1.far (is1.in (vd ms)) d;obtain⟨y,hy,rfl⟩:=wv.mp hc;exact⟨y,hy,ns.tr (pL1 s ms).1.lo.1 pM.pos (hM1 y hy).pos ((z35 (pL1 s ms).2 (hM1 y hy)).mpr cw)⟩) isD
 have cne:(∃q:T3,0<q.2.2/\InA h1 q/\InA ar q)↔hs≠[]:=by
  w_up
  .rintro⟨y,y0,i1,i2⟩;have ic:=(hi y y0).mpr ⟨i1,(z5a x tn lo y0).mp i2⟩
   rcases hC with rfl | gu
   .obtain⟨w,hw,_⟩:=ic (0,0)
    cases hw
   .exact xs.ne (λt ht=>(gu.gd.py t ht).lo.1) gu.gd.wc.1
  .intro hn
   rcases hC with rfl | gu
   .exact absurd xs.nil hn
   .obtain⟨y,hy⟩:=j3 _ gu.gd.wc.1;have y0:=(gu.gd.py y hy).lo.1;obtain⟨i1,i2⟩:=(hi y y0).mp λd=>⟨y,hy,ul _⟩
    exact⟨y,y0,i1,(z5a x tn lo y0).mpr i2⟩
 ac_rfl;ac_nf;refine ziv (M:=M) xD (λs hs=>(pLD s hs).1.lo) pp.lo (λs hs=>(pLD s hs).1.pb.tz (by decide)) (pp.pb.tz (by decide)) (by lia) (λs hs=>(pLD s hs).2) pM λv hv =>?_;rw[z5p isD (λs hs=>(pLD s hs).2) pM, <- key,cne] at hv;ac_nf;have ev:v=decide (0<((hs.map pl3).length:Int)):=by
  rw[wg]
  by_cases z:hs=[]
  .have:v=false:=Bool.eq_false_iff.mpr λw=>hv.mp w z;rw[this,z]
   rfl
  .have:=vq.mpr z;rw[hv.mpr z];exact(vC (by lia)).symm
 refine zhv ?_;rw[vC ev];refine z1B ?_;ac_nf;exact q _
def zfe (ns:List Int)(h:ns.length<=63):z4A.run [.lst (ns.map .int)] (λd=>d = .bl true) (λ_=>False):=by
 walk_at "fn";ac_nf;refine zel λc =>?_;ac_nf;rw[z2n];obtain⟨ys,hy,e⟩:∃ys:List Int,ys.length<=63/\ys=(ns.drop (HT.sIx ns.length 0 (some 1))).take (HT.sIx ns.length ns.length (some 63) - HT.sIx ns.length 0 (some 1)):=⟨_,by simp;lia,rfl⟩
 rw[<- e];clear e;refine z6Z (by simp;exact szl (by lia)) ?_;rw[show [D.int (c / 2)]++ys.map D.int=(c / 2::ys).map D.int from rfl];have hc:1<=(c / 2::ys).length/\(c / 2::ys).length<=64:=by simp;lia
 generalize c / 2::ys=cs at*;have hf:57*(c % 2)=0\/57*(c % 2)=57:=by lia
 generalize 57*(c % 2)=f at*;refine⟨by walk_at "sf",?_⟩;ac_rfl;ac_nf;rw[wg];obtain⟨k0,ek⟩:∃k0:Int,k0=(if ((cs.length:Int)+1) / 2<12 then ((cs.length:Int)+1) / 2 else 12):=⟨_,rfl⟩
 rw[<- ek];have hk:1<=k0/\k0<=12/\k0<=cs.length:=by rw[ek];split <;> lia
 clear ek;rw[zbf (by lia)];have cl:(cs.take k0.toNat).length=k0.toNat:=by rw[vO];lia
 refine z9Q (n:=190) (by decide) (by decide) (by lia) (by lia) λts t1 pe =>?_;refine⟨by walk_at "sf",?_⟩;ac_rfl;have tn:ts≠[]:=λz=>by rw[z] at t1;simp at t1;lia
 have tl:ts.length<=12:=by lia
 ac_nf;rw[z2n];obtain⟨zs,hzs,e⟩:∃zs:List Int,zs.length<=64/\zs=(cs.drop (HT.sIx cs.length 0 (some k0))).take (HT.sIx cs.length cs.length (some (k0+12)) - HT.sIx cs.length 0 (some k0)):=⟨_,by simp;lia,rfl⟩
 rw[<- e];clear e;refine z6Z (by simp;exact szl (by lia)) ?_;rw[show zs.map D.int++[D.int c]=(zs++[c]).map D.int by rw[wY];rfl];ac_nf;rw[zbf (by lia)];have wl:1<=((zs++[c]).take (1+c / 2 % 12).toNat).length/\((zs++[c]).take (1+c / 2 % 12).toNat).length<=12:=by
  rw[vO,wL,uH];lia
 generalize (zs++[c]).take (1+c / 2 % 12).toNat=wc at*;refine zef (by lia) λwd w1 wb =>?_;have wn:wd≠[]:=λz=>by rw[z] at w1;simp at w1;lia
 refine⟨by walk_at "sf",?_⟩;ac_rfl;ac_nf;have lo:∀t∈ts,Lo t:=λt ht=>(pe t ht).lo;have tzs:∀t∈ts,Tz t:=λt ht=>(pe t ht).pb.tz (by decide);refine z88 (l:=ts) (.inl rfl) tzs lo (by lia) λar x =>?_;refine⟨Safe.of_noL (z62 ar) (z65 ar) _,?_⟩;obtain⟨M,hm,hM⟩:=z4C λt ht=>(lo t ht).1;have is:=x.is hM tn;have an:=x.ne (λt ht=>(lo t ht).1) tn;have al:ar.length<=ts.length:=by
  have:=z0N is.nodup is.sub
  rwa [wg,wg] at this
 ac_rfl;ac_nf;kl_no;refine z0O (g:=λv=>vec (ngv v)) (λv hv K hK =>?_) ?_
 .unfold vec;ac_nf;exact hK
 ac_nf;rw[show (wd.map λv=>vec (ngv v))=(wd.map ngv).map vec by rw[vM];rfl];refine z9N ?_;ac_nf;refine zjn (Da.vecs []) (Da.vecs []) ?_;refine z1B ?_;ac_nf;refine z9S hm x tn pe hM (by lia) al wb wn (by lia) ?_;ac_nf;refine z1B ?_;ac_nf;have wbN:Wb 40 (wd.map ngv):=λv hv=>by
  obtain⟨u,hu,rfl⟩:=wv.mp hv;have:=wb u hu;exact⟨this.1.of_abs (by unfold ngv;dsimp only;lia),this.2.of_abs (by unfold ngv;dsimp only;lia)⟩
 have pxa:∀t∈ar,Px t:=λt ht=>((pe t (x.sub t ht)).le (by decide)).px;refine z4b hm tn an (by lia) is (λt ht=>hM t (x.sub t ht)) pxa (.inl rfl) (λv hv=>(wbN v hv).le) (by simpa using wn) (by rw[wg];lia) λgD LD hD igD memD farD LnD LlD xD =>?_;refine⟨Safe.of_noL (z62 hD) (z65 hD) _,?_⟩;ac_rfl;ac_nf;rw[z2n];obtain⟨us,hus,e⟩:∃us:List Int,us.length<=64/\us=(cs.drop (HT.sIx cs.length 0 (some k0))).take (HT.sIx cs.length cs.length (some (k0+10)) - HT.sIx cs.length 0 (some k0)):=⟨_,by simp;lia,rfl⟩
 rw[<- e];clear e;refine z6Z (by simp;exact szl (by lia)) ?_;rw[show us.map D.int++[D.int c]=(us++[c]).map D.int by rw[wY];rfl];ac_nf;have pD:∀s∈hD,Pe 191 s:=λs hs=>by
  obtain⟨a,ha,v,hv,rfl⟩:=memD s (xD.sub s hs);exact(pe a (x.sub a ha)).mv (wbN v (igD.sub v hv)) (by decide)
 have glD:=z0N igD.nodup igD.sub;rw[wg] at glD;refine z0u (f:=D.int) (λ_ ρ=>∃x10 x11 x12 x13:B,ρ=[.s (.lst (ns.map .int)),.s (.int c),.s (.int f),.s (.lst (cs.map .int)),.s (.int k0),.s (.lst (ts.map pl3)),.s (vecs wd),.s (pls3 ar),.s (.tup ((wd.map ngv).map vec)),.s (pls3 hD),x10,x11,x12,x13]) ⟨_,_,_,_,rfl⟩ ?_ ?_
 .rintro dn cell r ρ e ⟨x10,x11,x12,x13,rfl⟩;l_bnd;ac_rfl;ac_nf;refine zix λb hb =>?_;refine⟨by walk_at "sf",?_⟩;ac_rfl;ac_nf;refine zg4 (n:=191) pD (by decide) (by decide) λp pp =>?_;refine⟨by walk_at "sf",?_⟩;ac_rfl;ac_nf;refine z0y (λz =>?_) (λz =>?_)
  .ac_nf;refine zem (by lia) λb' hb' =>?_;refine⟨by walk_at "sf",?_⟩;ac_rfl;ac_nf;refine z9U (n:=191) (by decide) (by lia) λp' pp' =>?_;refine⟨by walk_at "sf",?_⟩;ac_rfl;exact zaN hb' pp' x tn pe tl al wb wn (by lia) igD memD farD LnD (by lia) xD λe=>⟨_,_,_,_,rfl⟩
  .refine z9O ?_;exact zaN hb pp x tn pe tl al wb wn (by lia) igD memD farD LnD (by lia) xD λe=>⟨_,_,_,_,rfl⟩
 .rintro ρ ⟨x10,x11,x12,x13,rfl⟩;ac_nf
  rfl
end Pu
namespace Pu
open PySem PySem.Spec PyProof.Rows L2
def Std (K:W.Frag)(n:Str)(st:Stmt)(f:Addr):Prop:=∃(oc:Value) (od:Option Addr) (sl:Array (Option Value)) (kV dc pm:Value) (an:Option Addr) (cd ct:Value),
 W.nsIn K mainGlobals n=some (some (.ref f))/\K.lookup f=some ⟨oc,od,.func (W.fnOf n n (z1D st) (z0C st) (z00 st) .none kV dc pm an cd ct),sl⟩/\W.codeIn K cd n=true/\W.keepIn K (.ref f)=true
def Std.mk {K:W.Frag}{n:Str}{st:Stmt}{sl:Array (Option Value)}{kV dc pm:Value}(a:W.nsIn K mainGlobals n=some (some (.ref f)))(l:K.lookup f=some ⟨oc,od,.func (W.fnOf n n (z1D st) (z0C st) (z00 st) .none kV dc pm an cd ct),sl⟩)(c:W.codeIn K cd n=true)(k:W.keepIn K (.ref f)=true):Std K n st f:=⟨oc,od,sl,kV,dc,pm,an,cd,ct,a,l,c,k⟩
section
variable {P:Program}{w:World}{K:W.Frag}{mg:WmP}{h base:Heap}{CX:CXT}{k:Nat}{n:Str}{st:Stmt}{f fa:Addr}{ps:List Str}{sp:Sp}
def zig (X:K.In h)(G:h.Ns mainGlobals mg)(d:Std K n st f)
  (hb:∀(kV dc pm:Value) (an:Option Addr) (cd ct:Value) (us:List Value),us.length=ps.length->bindArgs (W.fnOf n n (z1D st) (z0C st) (z00 st) .none kV dc pm an cd ct) ⟨us,[]⟩=pure (ps.zip us))
  (ok:∀fd,Fun K n n st f fd->FnOk P w K mg base CX k f fd ps sp):Cal P w K mg base CX k n ps sp:=by
 obtain⟨oc,od,sl,kV,dc,pm,an,cd,ct,a,l,c,kk⟩:=d;have F:=zdQ (st:=st) l c kk;exact⟨_,_,ok _ F,W.mg_of X G a,kk,F.binds (ps:=ps) hb⟩
def zfJ (X:K.In h)(G:h.Ns mainGlobals mg)(d:Std K n st f)(hfa:mg n=some (.ref fa))
  (hb:∀(kV dc pm:Value) (an:Option Addr) (cd ct:Value) (s:Shared) (v:Value),BindsTo s (W.fnOf n n (z1D st) (z0C st) (z00 st) .none kV dc pm an cd ct) ⟨[v],[]⟩ [(x,v)])
  (ok:∀base:Heap,K.In base->base.Ns mainGlobals mg->∀fd,Fun K n n st fa fd->FnOk P w K mg base CX k fa fd [x] sp):
  ∃fd:FuncData,(∀(s:Shared) (v:Value),BindsTo s fd ⟨[v],[]⟩ [(x,v)])/\∀base:Heap,K.In base->base.Ns mainGlobals mg->FnOk P w K mg base CX k fa fd [x] sp:=by
 obtain⟨oc,od,sl,kV,dc,pm,an,cd,ct,a,l,c,kk⟩:=d
 cases hfa.symm.trans (W.mg_of X G a)
 exact⟨_,λs v=>hb kV dc pm an cd ct s v,λbase kb nb=>ok base kb nb _ (zdQ (st:=st) l c kk)⟩
end
end Pu
namespace L2
open PySem PySem.Spec PyProof.Rows
def z7u (X:Cx)(pos:Pos):Prop:=∃c P,X.env.code = .ref c/\W.codeHdIn X.K c P=true/\(tsOf X.K).lookup P=some (pos.line,pos.col,X.env.qual++"<lambda>")
abbrev lamO (X:Cx)(params:Arguments)(body:Expr)(scope:Scope)(c':Addr)(ctv:Value):Obj:=W.kla_obj "<lambda>" (X.env.qual++"<lambda>") params body scope (z1Q X.env scope.names []) ((X.mg "__name__").getD .none) c' ctv
def LamF (X:Cx)(params:Arguments)(body:Expr)(scope:Scope)(f c':Addr)(H:Hp):Prop:=∃ctv oc vs t,H f=some (.frz (lamO X params body scope c' ctv) (.own f))/\H c'=some (.frz oc (.own c'))/\oc.data = .fields vs/\vs[1]? = some (.str (X.env.qual++"<lambda>") t)
def LamF.same (h:LamF X params body scope f c' H)(g:∀b o,H b=some o->H' b=some o):LamF X params body scope f c' H':=
 let ⟨ctv,oc,vs,t,h1,h2,h3⟩:=h;⟨ctv,oc,vs,t,g _ _ h1,g _ _ h2,h3⟩
def z3T (h:i<3):(encT t++more)[i]? = (encT t)[i]? := Array.getElem?_append_left (show i<(encT t).size from h)
section
variable {X:Cx}{pins:List (Addr × Obj)}{σ:St}{H:Hp}{s:Shared}{params:Arguments}{body:Expr}{scope:Scope}{pos:Pos}{N':List Str}{nt:Nat}{js:List Nat}
def zcL (I:Inv X pins σ H s)(hl:z7u X pos)(cp:z2S X N' nt js scope)(hdef:defaultsOf params X.env=([],[]))
  (h:∀f c' H',LamF X params body scope f c' H'->Same H H'->Q (.ref f) H'):wpAny (model X.prog X.w) X.A (eval (.Lambda params body scope pos) X.env) (EP X pins σ Q) E s:=by
 obtain⟨c,P,hcode,hhd,hts⟩:=hl;obtain⟨more,hHP⟩:=I.tbs P _ hts;have CH:W.CodeHd s.heap c P:=W.codeHd_of_K I.kIn hhd;have hg:s.heap.Ns mainGlobals X.mg:=I.mod.glob.keeps I.bk;have base_ne:∀b o,X.base.get? b=some o->b≠P:=λb o e z=>by
  have:=(I.bs b o e).2;rw[z,hHP] at this;cases this
 have hgP:mainGlobals≠P:=by
  obtain⟨o,es,ep,e,_⟩:=I.mod.glob;exact base_ne _ _ e
 have hb:s.heap.BuiltinsAt X.mg P:=by
  obtain⟨bm,ob,b1,b2,b3,b4,b5,b6⟩:=I.mod.bm;obtain⟨o,es,ep,e,hd,_⟩:=I.mod.glob;exact⟨bm,ob,b1,b2,(λz=>by rw[z,e] at b3;cases b3;rw[hd] at b6;cases b6),base_ne _ _ b3,I.bk _ _ b3,b4,b5,b6⟩
 have hcl:=z3A (cp.cells I);refine W.kla_eval hdef ?_
 rcases I.hok P _ hHP with hP | ⟨l,cl,q,t,c',oc,vs,u,e1,e2,e3,hP,hc',hd,hv⟩
 .refine W.kla_makeFunction (ps := #[]) hcl I.ok.glob hg hcode CH hP trivial rfl hgP hb λc' ctv h' tk hx hge hlt hrec htb =>?_;obtain⟨c2,oc,vs,t,ec,hoc,hd,hv⟩:=hrec
  cases ec
  have cn:H c'=none:=I.hok.fresh hge;have hsz:s.heap.objs.size<=h'.objs.size:=wO hge (um hlt);generalize hf0:h'.objs.size=f at*;have fn:H f=none:=I.hok.fresh hsz;have ncf:c'≠f:=wV hlt;generalize hlo:lamO X params body scope c' ctv=lo;have hlo':W.kla_obj "<lambda>" (X.env.qual++"<lambda>") params body scope (z1Q X.env scope.names []) ((X.mg "__name__").getD .none) c' ctv=lo:=hlo;rw[hlo'];generalize hh2:h'.push lo=h2;have up:∀b o,h'.get? b=some o->h2.get? b=some o:=λb o e=>hh2 ▸ wo _ e;have hfo:h2.get? f=some lo:=by rw[<- hh2, <- hf0];exact wA _ (hlo ▸ rfl)
  have keep:∀b o,b≠P->s.heap.get? b=some o->h2.get? b=some o:=λb o n e=>up b o (hx b o n e)
  let H1:Hp:=upd H c' (.frz oc (.own c'))
  have f1:H1 f=none:=by show upd H c' _ f=none;rw[z05 ncf.symm];exact fn
  have neH:∀b v,H b=some v->upd H1 f (.frz lo (.own f)) b=some v:=λb v e=>by
   rw[z05 (z0g e fn)];show upd H c' _ b=_;rw[z05 (z0g e cn)];exact e
  have U:Un X.fs [] H (upd H1 f (.frz lo (.own f))) s.heap h2:=⟨λb o e n _ _=>keep b o (λz=>by rw[z,hHP] at n;cases n) e,λb o e n _ _=>⟨o.slots,keep b o (λz=>by rw[z,hHP] at n;cases n) e⟩,λb o e n _=>by
    rw[z05 (wV (wT (wE e) hsz))];show upd H c' _ b=_;rw[z05 (wV (wT (wE e) hge))];exact n,λb o e _=>by
    by_cases hb:b=P
    .exact⟨_,hb ▸ up _ _ htb⟩
    .exact⟨o,keep b o hb e⟩,λb xs e=>neH b _ e,λb o u e=>neH b _ e,λb ps e=>⟨#[],by rw[neH b _ e];simp⟩⟩
  have K:HOk X.prog X.w (upd H1 f (.frz lo (.own f))) h2:=λb v e=>by
   by_cases hbf:b=f
   .subst hbf;rw[z0b] at e;cases e;exact⟨hfo,_,hfo⟩
   rw[z05 hbf] at e
   by_cases hbc:b=c'
   .subst hbc;have e':upd H b _ b=some v:=e;rw[z0b] at e';cases e';exact⟨up _ _ hoc,_,up _ _ hoc⟩
   have e':upd H c' _ b=some v:=e;rw[z05 hbc] at e'
   by_cases hbP:b=P
   .subst hbP;rw[hHP] at e'
    cases e'
    exact .inr ⟨rawInt pos.line,rawInt pos.col,_,0,c',oc,vs,t,z3T (by decide),z3T (by decide),z3T (by decide),up _ _ (by simpa using htb),by rw[z05 ncf];exact z0b,hd,hv⟩
   .exact(I.hok b v e').stay (λc2 v2 hc q=>keep c2 v2 (by
     rcases hc with rfl | hc
     .exact hbP
     .intro z;rw[z,hHP] at hc;cases hc) q) (λc q=>neH _ _ q) (λc xs q=>neH _ _ q) λc _ _ q=>neH _ _ q
  exact⟨.ref f,_,I.un (t':=tk) U K,rfl,h f c' _ ⟨ctv,oc,vs,t,by rw[z0b,hlo],by rw[z05 ncf];exact z0b,hd,hv⟩ neH⟩
 .have e1':l=rawInt pos.line:=vk (((z3T (by decide)).symm.trans e1).symm);have e2':cl=rawInt pos.col:=vk (((z3T (by decide)).symm.trans e2).symm);have e3':X.env.qual++"<lambda>"=q:=by
   have:(encT (pos.line,pos.col,X.env.qual++"<lambda>")++more)[2]? = some (.str (X.env.qual++"<lambda>") 0):=z3T (by decide);rw[this] at e3
   injection e3 with e3
   injection e3
  subst e1' e2';subst e3';refine W.kla_makeFunctionHit (ps := #[rawInt pos.line,rawInt pos.col,.ref c']) (cv :=.ref c') hcl I.ok.glob hg hcode CH hP (by simp[TriplesOk,rawInt]) (by simp[codeAmong,rawInt]) hb λctv h' tk hk hsz =>?_;generalize hlo:lamO X params body scope c' ctv=lo;have hlo':({ cls :=.type "function",data :=.func (W.kla_fn "<lambda>" (X.env.qual++"<lambda>") params body scope (z1Q X.env scope.names []) ((X.mg "__name__").getD .none) (.ref c') ctv) }:Obj)=lo:=hlo;rw[hlo'];have fn:H h'.objs.size=none:=I.hok.fresh hsz;have hfo:(h'.push lo).get? h'.objs.size=some lo:=wA _ (hlo ▸ rfl);exact⟨.ref _,_,I.laid (t':=tk) (o :=.frz lo (.own h'.objs.size)) (λb u e=>wo _ (hk b u e)) hsz ⟨hfo,_,hfo⟩,rfl,h _ c' _ ⟨ctv,oc,vs,u,by rw[z0b,hlo],by rw[z05 (z0g hc' fn)];exact hc',hd,hv⟩ (z0i fn _)⟩
@[reducible] def Cx.lamG (X:Cx)(A:Around)(scope:Scope)(N':List Str)(f c':Addr)(s:Shared)(H:Hp):Cx:=
 { X with A:=A.deeper (W.envX (X.env.qual++"<lambda>") scope s.heap.objs.size f (.ref c') (z1Q X.env scope.names [])),N:=N',s₀:=s,H₀:=H,env:=W.envX (X.env.qual++"<lambda>") scope s.heap.objs.size f (.ref c') (z1Q X.env scope.names []),outer:=X.stack,stack:=W.envX (X.env.qual++"<lambda>") scope s.heap.objs.size f (.ref c') (z1Q X.env scope.names [])::X.stack,ex:=[],pn:=[],fn:=λy=>((z1Q X.env scope.names []).lookup y).isNone,xe:=λ_ _=>False }
theorem Inv.lamG (I:Inv X pins σ H s)(hk:scope.kind = .function)(c:z2S X N' 1 js scope)(hA:A.frames=X.A.frames)(hc:A.handled=none)(hp:N'[0]? = some p)(hpl:scope.names.lookup p=some .local)(r:RelV xv u)
  (keep:∀b o,s.heap.get? b=some o->h1.get? b=some o) (hns:h1.Ns s.heap.objs.size (λx=>([(p,u)]:List (Str × Value)).reverse.lookup x)):
  Inv (X.lamG A scope N' f c' s H) [] (some xv::js.map λj=>(σ[j]?).getD none) H { s with heap:=h1,toks:=t1 }:=by
 have cell:∀{a:Addr}{v:Option Value},s.heap.IsCell a v->h1.IsCell a v:=λ⟨o,ho,hd⟩=>⟨o,keep _ _ ho,hd⟩
 have noA:∀b:Addr,b ∉ (X.lamG A scope N' f c' s H).ex:=λb z=>absurd (show b∈([]:List Addr) from z) (by simp);refine⟨⟨I.ok.mod,hk,rfl,rfl,wx _,(λy z a e1 e2=>I.ok.inj y z a (c.clo I e1).1 (c.clo I e2).1),(λy q=>c.has I ?_),(λy a hf e =>?_),(λ_=>hc),Around.frames_deeper (hA.trans I.ok.frames),.inr ⟨rfl,rfl⟩,λb z=>absurd z (noA b),(λb o e=>⟨I.bk b o e,(I.bs b o e).2⟩),wO I.ok.bsz I.sz,λb _ _=>noA b,λb z=>absurd z (noA b),I.stack,I.stkFree,I.tbs⟩,
  rfl,I.bare,Un.kept keep,⟨_,hns,(λi y v e1 e2 hv =>?_)⟩,(λy a e =>?_),I.hok.fresh (wx _),(λy a e=>I.freeC y a (c.clo I e).1),(λp hp=>absurd (show p∈([]:List (Addr × Obj)) from hp) (by simp)),I.hok.kept keep,?_⟩
 .have q:scope.names.lookup y=some .cell\/scope.names.lookup y=some .free:=q
  rcases q with q | q
  .exact absurd rfl (c.nocell _ (z0z q))
  .exact z0z q
 .have hf':((z1Q X.env scope.names []).lookup y).isNone=true:=hf;have e':(z1Q X.env scope.names []).lookup y=some a:=e;rw[e'] at hf'
  cases hf'
 .cases i with
  | zero=>
   have e1':N'[0]? = some y:=e1;rw[hp] at e1'
   cases e1'
   have e2':some (some xv)=some (some v):=e2
   cases e2'
   exact⟨u,r,.inl ⟨hpl,by simp⟩⟩
  | succ k=>
   have e2:(js.map λj=>(σ[j]?).getD none)[k]? = some (some v):=by simpa using e2
   rw[wB] at e2
   cases ej:js[k]? with
   | none=>rw[ej] at e2;cases e2
   | some j=>
    rw[ej] at e2;obtain⟨y',q1,q2,q3⟩:=c.cap _ _ ej;rw[We] at q1;have e1':N'[k+1]? = some y:=e1;rw[q1] at e1'
    cases e1'
    have e2:some ((σ[j]?).getD none)=some (some v):=e2;have hσ:σ[j]? = some (some v):=by
     cases ez:σ[j]? with
     | none=>rw[ez] at e2;cases e2
     | some z=>rw[ez] at e2;exact congrArg some (vk e2)
    have hkX:=c.free _ (z0z q3) rfl;obtain⟨m,hn,hl⟩:=I.loc;obtain⟨u,r,l⟩:=hl j y v q2 hσ (.inr hkX);refine⟨u,r,.inr ⟨.inr q3,?_⟩⟩
    rcases l with ⟨l,_⟩ | ⟨_,a,ha,hcell⟩
    .have l':X.env.kindOf y=some .local:=l
     rcases hkX with z | z
     .rw[l'] at z;cases z
     .rw[l'] at z;cases z
    .obtain⟨b,hb⟩:=c.has I (z0z q3);have:=(c.clo I hb).1;rw[ha] at this
     cases this
     exact⟨a,hb,cell hcell⟩
 .obtain⟨v,z⟩:=I.cell y a (c.clo I e).1;exact⟨v,cell z⟩
 .show (some xv::js.map λj=>(σ[j]?).getD none).length=N'.length;rw[w5,wg,c.len,We]
def zcM (I:Inv X pins σ H s)(hf:LamF X params body scope f c' H)(hk:scope.kind = .function)(hco:scope.isCoroutine=false)(hgen:scope.isGenerator=false)(cp:z2S X N' 1 js scope)
  (hA:A.frames=X.A.frames) (hc:A.handled=none) (hroom:A.depth<recursionLimit) (hp:N'[0]? = some p) (hpl:scope.names.lookup p=some .local) (r:RelV xv u)
  (hbind:∀(name qual:Str) (sc:Scope) (cl:List (Str × Addr)) (pm cdv ct:Value),bindArgs (W.kla_fn name qual params body sc cl pm cdv ct) ⟨[u],[]⟩=pure [(p,u)])
  (hb:PE (X.lamG A scope N' f c' s H) body tb) (q:tb (some xv::js.map λj=>(σ[j]?).getD none) H Q):
  wpAny (model X.prog X.w) A (call (.ref f) [u]) (EP X pins σ Q) E s:=by
 obtain⟨ctv,oc,vs,t,hF,hC,hd,hv⟩:=hf;refine wpAny_call (W.kla_callFunE hroom (I.hok f _ hF).1 rfl hco hgen rfl ⟨c',oc,vs,t,rfl,(I.hok c' _ hC).1,hd,hv⟩ ?_);rw[hbind];refine wj (wpAny_newFunctionEnv cp.nocell (λy hy=>by rw[wq.mp hy];exact hpl) (λh1 hns hsb =>?_) hk);have keep:∀b o,s.heap.get? b=some o->h1.get? b=some o:=λb o e=>hsb.extBut b o (wV (wE e)) (wo _ e);refine⟨I.nolimit.keeps keep,W.kla_codeExpr (vK (hb [] _ _ H Q (I.lamG hk cp hA hc hp hpl r keep hns) q) (λv s' hs =>?_) λ_ _ z=>z.elim)⟩;obtain⟨y,H',J,rv,qq⟩:=hs;exact⟨y,H',I.call' (ch:=[]) J.os J.base J.hok J.bare (λb z=>absurd z (by simp)),rv,qq⟩
end
end L2
namespace Pu
open PySem PySem.Spec PyProof.Rows L2 Tab
def z7D {α β:Type}{R:α->β->Prop}{bs bs':List β}(p:bs.Perm bs'):∀{as:List α},Paired R as bs->∃as',as.Perm as'/\Paired R as' bs':=by
 induction p with
 | nil=>exact λh=>⟨_,.refl _,h⟩
 | cons x _ ih=>
  intro as h
  cases h with
  | cons r t=>
   obtain⟨as',q,h'⟩:=ih t;exact⟨_::as',q.cons _,.cons r h'⟩
 | swap x y l=>
  intro as h
  cases h with
  | cons r t=>
   cases t with
   | cons r' t'=>exact⟨_,List.Perm.swap _ _ _,.cons r' (.cons r t')⟩
 | trans _ _ ih1 ih2=>
  intro as h;obtain⟨a1,q1,h1⟩:=ih1 h;obtain⟨a2,q2,h2⟩:=ih2 h1;exact⟨a2,q1.trans q2,h2⟩
theorem z5j {α β κ:Type}{R:α->β->Prop}:∀(kz:List κ) {as:List α}{bs:List β},Paired R as bs->Paired (λ(p:κ × α) (q:κ × β)=>p.1=q.1/\R p.2 q.2) (kz.zip as) (kz.zip bs)
 | [],_,_,_ =>.nil
 | _::_,_,_,.nil=>by simpa using Paired.nil
 | k::kz,_,_,.cons r t =>.cons ⟨rfl,r⟩ (z5j kz t)
theorem z3K {α β κ:Type}{R:α->β->Prop}:∀{ps:List (κ × α)}{qs:List (κ × β)},Paired (λ(p:κ × α) (q:κ × β)=>p.1=q.1/\R p.2 q.2) ps qs->ps.map Prod.fst=qs.map Prod.fst/\Paired R (ps.map Prod.snd) (qs.map Prod.snd)
 | _,_,.nil=>⟨rfl,.nil⟩
 | _,_,.cons r t=>⟨by simp[r.1,(z3K t).1],.cons r.2 (z3K t).2⟩
def KO {α:Type}(kz:List (List Int))(l out:List α):Prop:=∃ps:List (List Int × α),ps.Perm (kz.zip l)/\out=ps.map Prod.snd/\ps.Pairwise (λp q=>HT.z0j q.1 p.1=false)
def KO.lift {α β:Type}{R:α->β->Prop}{kz:List (List Int)}{as:List α}{bs zb:List β}(h:Paired R as bs)(k:KO kz bs zb):∃za,Paired R za zb/\KO kz as za:=by
 obtain⟨ps,p,rfl,pw⟩:=k;obtain⟨qs,q,hq⟩:=z7D p.symm (z5j kz h);obtain⟨e,hs⟩:=z3K hq;refine⟨_,hs,qs,q.symm,rfl,?_⟩;have:(ps.map Prod.fst).Pairwise (λa b=>HT.z0j b a=false):=vp.mpr pw;rw[<- e] at this;exact vp.mp this
theorem z5e {K:W.Frag}{mg:WmP}{G:Hp}:∀{ds:List D}{xs:List V},RDs K mg G ds xs->Paired (RD K mg G) ds xs
 | [],_,h=>by rw[RDs] at h;subst h;exact .nil
 | _::_,_,h=>by
  rw[RDs] at h;obtain⟨x,r,rfl,h1,h2⟩:=h;exact .cons h1 (z5e h2)
theorem z5k {K:W.Frag}{mg:WmP}{G:Hp}:∀{ds:List D}{xs:List V},Paired (RD K mg G) ds xs->RDs K mg G ds xs
 | _,_,.nil=>RDs.nil
 | _,_,.cons r t=>RDs.cons r (z5k t)
def KeyG (K:W.Frag)(tb:TE)(σ0:V->L2.St)(xs:List V)(Q:VK)(H2:Hp):Prop:=∃W:List V->Hp->Prop,W [] H2/\(∀ys H,W ys H->Same H2 H)/\(∀ys H x,W ys H->xs[ys.length]? = some x->tb (σ0 x) H λy H'=>W (ys++[y]) H')/\
 ∀ys H,W ys H->ys.length=xs.length->∃kz,Tis K H ys kz/\(∀k∈kz,k≠[])/\∀zs:List V,KO kz xs zs->∀p,H p=none->Q (.ref p) (upd H p (.lst zs))
section
variable {X:Cx}{pins:List (Addr × Obj)}{σ:L2.St}{H:Hp}{s:Shared}{params:Arguments}{body:Expr}{scope:Scope}{N':List Str}{js:List Nat}
def zaQ {D:Addr}(I:Inv X pins σ H s)(hn:H D=none)(hD:X.s₀.heap.objs.size<=D)(hL:D≠X.env.locals)(h2:∀x c,X.env.cells.lookup x=some c->c≠D)(h3:∀p∈X.pn++pins,p.1≠D)(ok:z1c X.prog X.w (upd H D o) s.heap D o):Inv X pins σ (upd H D o) s:=by
 have neH:∀b u,H b=some u->upd H D o b=some u:=λb u e=>by rw[z05 (z0g e hn)];exact e
 exact I.step (g':=s.gens) (d':=s.drawn) (t':=s.toks) (h':=s.heap) (ch:=[D]) (λb hb=>by
  rw[wq.mp hb];exact⟨.inr hD,hL,h2,h3⟩) (λb o _ _ _ e _=>e) (λb o _ _ _ e _=>⟨o.slots,e⟩) (λb u hc e n=>by rw[z05 (λz=>hc (by simp[z]))];exact n) (λb u _ e=>⟨u,e⟩) (λb xs e=>neH b _ e) (λb u v e=>neH b _ e) (λb ps e=>⟨#[],by rw[neH b _ e];simp⟩) (λm h=>h) (HOk.track I.hok hn ok) I.bare
def zbI {f c' a:Addr}{p:Str}{xs:List V}{tb:TE}{Q:VK}{E:WvP}(hc:X.calm=true)(hroom:X.A.depth<recursionLimit)(I:Inv X pins σ H s)(hf:LamF X params body scope f c' H)(hk:scope.kind = .function)(hco:scope.isCoroutine=false)(hgen:scope.isGenerator=false)(cp:z2S X N' 1 js scope)
  (hp:N'[0]? = some p) (hpl:scope.names.lookup p=some .local)
  (hbind:∀(u:Value) (name qual:Str) (sc:Scope) (cl:List (Str × Addr)) (pm cdv ct:Value),bindArgs (W.kla_fn name qual params body sc cl pm cdv ct) ⟨[u],[]⟩=pure [(p,u)])
  (hb:∀(A:Around) (f c':Addr) (s:Shared) (H:Hp),PE (X.lamG A scope N' f c' s H) body tb) (hs:SqL X.K H a xs) (h64:xs.length<Tim.z18)
  (kg:KeyG X.K tb (λx=>some x::js.map λj=>(σ[j]?).getD none) xs Q H):
  wpAny (model X.prog X.w) X.A (call (.builtin "sorted") [.ref a] [(Str.ofString "key",.ref f)]) (EP X pins σ Q) E s:=by
 have hz:=Tim.z7z h64;obtain⟨W,w0,wS,wt,wf⟩:=kg;obtain⟨vs,rv,pl,_⟩:=I.list hs;have hl:xs.length=vs.length:=rv.length;refine call_function_entry_kw kind_sorted plain_sorted entry_sorted (ksk_s1 _ _) ?_;unfold Builtin.«sorted»;refine we (m:=checkCount "sorted" 1 1 _) (wj ?_);refine we (collect_list (vs:=vs) (by simpa using pl.isList) ?_ (by lia));refine we (wpAny_newList ?_ (by lia));have hsz:((s.heap.push (seqObj "list" #[] 0)).update s.heap.objs.size (Obj.mapSeq (· ++ vs.toArray))).objs.size=s.heap.objs.size+1:=by rw[u6,size_push']
 have keep:∀b o,s.heap.get? b=some o->(((s.heap.push (seqObj "list" #[] 0)).update s.heap.objs.size (Obj.mapSeq (· ++ vs.toArray))).push (seqObj "list" vs.toArray 0)).get? b=some o:=λb o q=>by
  have hlt:b<s.heap.objs.size:=wE q;rw[uU _ _ _ (by rw[hsz];exact wV (uq hlt)),v8 _ _ _ _ (wV hlt),uU _ _ _ (wV hlt)];exact q
 have hoL:(((s.heap.push (seqObj "list" #[] 0)).update s.heap.objs.size (Obj.mapSeq (· ++ vs.toArray))).push (seqObj "list" vs.toArray 0)).get? (s.heap.objs.size+1)=some (seqObj "list" vs.toArray 0):=by
  rw[<- hsz];exact wA _ rfl
 show wpAny _ _ _ _ _ { s with heap:=((s.heap.push (seqObj "list" #[] 0)).update s.heap.objs.size (Obj.mapSeq (· ++ vs.toArray))).push (seqObj "list" vs.toArray 0) };rw[hsz];have hsz2:(((s.heap.push (seqObj "list" #[] 0)).update s.heap.objs.size (Obj.mapSeq (· ++ vs.toArray))).push (seqObj "list" vs.toArray 0)).objs.size=s.heap.objs.size+2:=by rw[size_push',hsz]
 generalize ((s.heap.push (seqObj "list" #[] 0)).update s.heap.objs.size (Obj.mapSeq (· ++ vs.toArray))).push (seqObj "list" vs.toArray 0)=g2 at keep hoL hsz2 ⊢;generalize hD:s.heap.objs.size+1=D at hoL ⊢;have hlt:s.heap.objs.size<D:=by lia
 have new:∀d,s.heap.objs.size<=d->d≠X.env.locals/\d ∉ X.fs/\X.s₀.heap.objs.size<=d/\(∀x c,X.env.cells.lookup x=some c->c≠d)/\∀q∈X.pn++pins,q.1≠d:=λd hd=>by
  refine⟨λz =>?_,I.nofs hd,wO I.sz hd,λx c e z =>?_,λq hq z =>?_⟩
  .have:=I.lt;rw[z] at hd;exact absurd this (Nat.not_lt.mpr hd)
  .obtain⟨v,o,ho,_⟩:=I.cell x c e;have:=wE ho;rw[z] at this;exact absurd this (Nat.not_lt.mpr hd)
  .have:=wE (I.pin q hq).1;rw[z] at this;exact absurd this (Nat.not_lt.mpr hd)
 obtain⟨nD1,nD2,nD3,nD4,nD5⟩:=new D (um hlt);obtain⟨nK1,nK2,nK3,nK4,nK5⟩:=new (g2.objs.size+1) (by lia);have hDK:D≠g2.objs.size+1:=by lia
 refine we (ud (wpAny_call_entry_kw slot_list_sort ⟨_,hoL,rfl⟩ entry_list_sort ?body (ksk_l1 _ _)));show wpAny (model X.prog X.w) X.A.in1.in1 (Builtin.«list.sort» ⟨[.ref D],[(Str.ofString "key",.ref f)]⟩) _ _ _;rw[ksk_t1];refine Tim.zbJ (s:={ s with heap:=g2 }) hoL (by rw[<- hl];exact h64) (λe1 ks s'=>∃ys H',Inv X pins σ H' s'/\W ys H'/\Vals ys ks/\s'.heap.get? D=some (seqObj "list" #[] e1)/\(∃e,s'.heap.get? (g2.objs.size+1)=some (seqObj "list" ks.toArray e))/\H' D=none/\H' (g2.objs.size+1)=none) (λe1 ho1 => ?start) (λe1 i v ks s' hv hi hI => ?turn) (λe1 ks s' hks hI => ?fin)
 case start=>
  have hkS:((g2.update D (Obj.mapSeq λ_=>(#[]:Array Value))).push (seqObj "tuple" vs.toArray 0)).objs.size=g2.objs.size+1:=by rw[size_push',u6]
  refine⟨[],H,I.kept (t':=s.toks) (λb o e=>wo _ (wo _ ?_)),w0,.nil,wo _ (wo _ ho1),⟨0,?_⟩,I.hok.fresh (um hlt),I.hok.fresh (by lia)⟩
  .rw[v8 _ _ _ _ (wV (Nat.lt_trans (wE e) hlt))];exact keep b o e
  .show Heap.get? (Heap.push _ _) _=_;rw[<- hkS];exact wA _ rfl
 case turn=>
  obtain⟨ys,H',J,w,r,hA,⟨e,hK⟩,hDn,hKn⟩:=hI;have hyl:ys.length=i:=r.length.trans hi;have hx:∃x,xs[i]? = some x/\RelV x v:=by
   have hlt:i<xs.length:=by rw[hl];exact(wu.mp hv).1
   obtain⟨u,h1,h2⟩:=rv.get (wp hlt);rw[hv] at h1;cases h1;exact⟨_,wp hlt,h2⟩
  obtain⟨x,hx,rx⟩:=hx;have J2:Inv X (pins++[(D,seqObj "list" #[] e1),(g2.objs.size+1,seqObj "list" ks.toArray e)]) σ H' s':=J.pins_of λq hq=>by
   rcases wG.mp hq with hq | hq
   .exact J.pin q (wF _ hq)
   .rcases ww.mp hq with rfl | hq
    .exact⟨hA,hDn,nD1,nD2,λv z=>by cases z⟩
    .rw[wq.mp hq];exact⟨hK,hKn,nK1,nK2,λv z=>by cases z⟩
  refine vK (zcM (E:=λ_ _=>False) (A:=X.A.in1.in1) J2 (hf.same (wS ys H' w)) hk hco hgen cp rfl (I.ok.hd hc) hroom hp hpl rx (hbind v) (hb _ _ _ _ _) (wt ys H' x w (by rw[hyl];exact hx))) (λu s'' h =>?_) λ_ _ z=>z;obtain⟨y,H'',J3,ry,w3⟩:=h;have pD:=J3.pin (D,seqObj "list" #[] e1) (wF _ (wF _ (.head _)));have pK:=J3.pin (g2.objs.size+1,seqObj "list" ks.toArray e) (wF _ (wF _ (.tail _ (.head _))));have J4:Inv X pins σ H'' s'':=J3.pins_of λq hq=>J3.pin q (wF _ (wR _ hq));refine⟨⟨e,pK.1⟩,ys++[y],H'',J4.turned (t':=s''.toks) (it:=g2.objs.size+1) (λb o n q=>by rw[v8 _ _ _ _ n];exact q) pK.2.1 nK1 (.inr nK3) nK4 nK5,w3,Vals.append r (.cons ry .nil),?_,?_,pD.2.1,pK.2.1⟩
  .show Heap.get? (Heap.update _ _ _) _=_;rw[v8 _ _ _ _ hDK];exact pD.1
  .obtain⟨e',he'⟩:∃e',(s''.heap.update (g2.objs.size+1) (Obj.mapSeq (·.push u))).get? (g2.objs.size+1)=some (seqObj "list" (ks.toArray.push u) e'):=⟨_,Wi pK.1 (·.push u)⟩
   exact⟨e',by rw[show (ks++[u]).toArray=ks.toArray.push u by simp];exact he'⟩
 case fin=>
  obtain⟨ys,H',J,w,r,hA,⟨e,hK⟩,hDn,hKn⟩:=hI;have hyl:ys.length=xs.length:=by rw[r.length,hks,hl]
  obtain⟨kz,ht,hne,q⟩:=wf ys H' w hyl;have hkl:kz.length=vs.length:=by rw[<- hl, <- hyl];exact(z9x ht).symm
  refine⟨kz,hkl,hne,⟨hA,⟨e,hK⟩,λi u k hu hk =>?_⟩,λout hol ko=>⟨_,rfl,wj ⟨_,rfl,?_⟩⟩⟩
  .obtain⟨b,k',h1,h2,rfl,h4⟩:=zfK ht r hu;rw[hk] at h2;cases h2;exact TK.ti (z8N J Same.refl' h4)
  .obtain⟨zs,hv,kz'⟩:=KO.lift (R:=RelV) rv ko;have J1:=J.turned (t':=s'.toks) (it:=g2.objs.size+1) (h':=s'.heap.update (g2.objs.size+1) (Obj.mapSeq λ_ => #[])) (λb o n q=>by rw[v8 _ _ _ _ n];exact q) hKn nK1 (.inr nK3) nK4 nK5;have hA1:(s'.heap.update (g2.objs.size+1) (Obj.mapSeq λ_ => #[])).get? D=some (seqObj "list" #[] e1):=by rw[v8 _ _ _ _ hDK];exact hA
   obtain⟨e2,hA2⟩:∃e2,((s'.heap.update (g2.objs.size+1) (Obj.mapSeq λ_ => #[])).update D (Obj.mapSeq λ_=>out.toArray)).get? D=some (seqObj "list" out.toArray e2):=⟨_,Wi hA1 λ_=>out.toArray⟩
   have J2:=J1.turned (t':=s'.toks) (it:=D) (h':=(s'.heap.update (g2.objs.size+1) (Obj.mapSeq λ_ => #[])).update D (Obj.mapSeq λ_=>out.toArray)) (λb o n q=>by rw[v8 _ _ _ _ n];exact q) hDn nD1 (.inr nD3) nD4 nD5;have hzl:zs.length<=sizeLine:=by
    have:=hv.length;lia
   exact⟨.ref D,upd H' D (.lst zs),zaQ J2 hDn nD3 nD1 nD4 nD5 ⟨hzl,out,e2,hv,hA2⟩,rfl,q zs kz' D hDn⟩
end
end Pu
namespace Mxd
open PySem PySem.Spec PyProof.Rows
section
variable {prog:Program}{w:World}{A:Around}{R:Result->Shared->Prop}{I:Addr}{fp wr:List Addr}{n:Nat}{P:Nat->Value->Prop}{St:Nat->Heap->Prop}
def Best (P:Nat->Value->Prop)(bt:Nat->Nat->Bool)(i:Nat)(old:Array Value):Prop:=(i=0/\old = #[])\/∃j v,i=j+1/\old = #[v,v]/\P (argBest bt j) v
def zjv (W:Walks prog w A.in1 I fp wr n P St)(bt:Nat->Nat->Bool)(hcmp:CmpOf prog w A.in1 .Gt P bt)(S:Addr)(hSf:S ∉ fp)(d:Value):
  ∀(k i:Nat) (s:Shared) (old:Array Value) (c:Nat),n - i=k->i<=n->St i s.heap->s.heap.get? S=some { cls :=.type "list",dict:=none,data :=.seq old c,slots := #[] }->Best P bt i old->
  (∀v h' tk,(n=0/\v=d\/0<n/\P (argBest bt (n - 1)) v)->(∀b o,b ∉ wr->b≠S->s.heap.get? b=some o->h'.get? b=some o)->R (.ok (.ret v)) { s with heap:=h',toks:=tk })->
  codeAny (model prog w) A (.builtin "max.loop" ⟨[.ref I,.none,.ref S],[(Str.ofString "default",d)]⟩) R s:=by
 have hname:(toString "max"++toString ".loop":String)="max.loop":=by decide
 have hSw:S ∉ wr:=λz=>hSf (W.sub _ z);intro k
 induction k with
 | zero=>
  intro i s old c e1 e2 st hS hB hR;obtain rfl:i=n:=by lia
  refine uW F.entry_max_loop ?_;rw[uy jE _];show wpAny _ A.in1 (seqItems? (.ref S) >>= _) _ _ s;refine we (uc hS rfl ?_);show wpAny _ A.in1 (tryCatch (pyNext (.ref I)) _ >>= _) _ _ s;refine we (wpAny_tryCatch (W.done s _ _ st λh' tk kp =>?_))
  rcases hB with ⟨z,rfl⟩ | ⟨j,v,z,rfl,hP⟩
  .exact we (jU (wj (hR d h' tk (.inl ⟨z,rfl⟩) λb o nb _ e=>kp b o nb e)))
  .have hS':=kp S _ hSw hS;show wpAny _ A.in1 (updateSeq S (λ_ => #[]) >>= _) _ _ _;refine we (jP hS' rfl (we (jQ (wj ?_))));exact hR v _ tk (.inr ⟨by lia,by rw[z];exact hP⟩) λb o nb ns e=>(v4 _ _ (vU ns)).trans (kp b o nb e)
 | succ k ih=>
  intro i s old c e1 e2 st hS hB hR;have hlt:i<n:=by lia
  refine uW F.entry_max_loop ?_;rw[uy jE _];show wpAny _ A.in1 (seqItems? (.ref S) >>= _) _ _ s;refine we (uc hS rfl ?_);show wpAny _ A.in1 (tryCatch (pyNext (.ref I)) _ >>= _) _ _ s;refine we (wpAny_tryCatch (W.item i s _ _ hlt st λv h' tk hv st' kp =>?_));have hS':=kp S _ hSw hS;have back:∀(g:Array Value->Array Value),St (i+1) (h'.update S (Obj.mapSeq g)):=λg=>W.frame _ _ _ st' λb hb o e=>(v4 _ _ (λz:S=b=>hSf (by rw[z];exact hb))).trans e
  rcases hB with ⟨z,rfl⟩ | ⟨j,u,z,rfl,hP⟩
  .show wpAny _ A.in1 (updateSeq S (λ_ => #[v,v]) >>= _) _ _ _;refine we (jP hS' rfl ?_);rw[hname];refine wj ⟨uR jE _,ih (i+1) _ #[v,v] _ (by lia) hlt (back _) (vT _ hS' rfl) (.inr ⟨0,v,by lia,rfl,by rw[z] at hv;exact hv⟩) λv' g tk' q kp' =>?_⟩;exact hR v' g tk' q λb o nb ns e=>kp' b o nb ns ((v4 _ _ (vU ns)).trans (kp b o nb e))
  .show wpAny _ A.in1 (tryCatch (holding [v,v] (richCompare .Gt v u >>= _)) _ >>= _) _ _ _;refine we (wpAny_tryCatch (ud (we (hcmp i (argBest bt j) v u _ _ _ hv hP ?_))));refine we (ud (jm (we (jQ (wj ?_)))))
   cases hb:bt i (argBest bt j) with
   | true=>
    simp only[jF];refine we (jP hS' rfl (we (jQ ?_)));rw[hname];refine wj ⟨uR jE _,ih (i+1) _ #[v,v] _ (by lia) hlt (back _) (vT _ hS' rfl) (.inr ⟨i,v,rfl,rfl,?_⟩) λv' g tk' q kp' =>?_⟩
    .rw[z] at hb hv ⊢;simp only[argBest,hb,jF];exact hv
    .exact hR v' g tk' q λb o nb ns e=>kp' b o nb ns ((v4 _ _ (vU ns)).trans (kp b o nb e))
   | false=>
    simp only[wZ,uv];refine we (jQ ?_);rw[hname];refine wj ⟨uR jE _,ih (i+1) _ #[u,u] c (by lia) hlt st' hS' (.inr ⟨i,u,rfl,rfl,?_⟩) λv' g tk' q kp' =>?_⟩
    .rw[z] at hb ⊢;simp only[argBest,hb,wZ,uv];exact hP
    .exact hR v' g tk' q λb o nb ns e=>kp' b o nb ns (kp b o nb e)
end
section
variable {prog:Program}{w:World}{A:Around}{E:WvP}{s:Shared}
def zbw (a d:Value):argsOk "max" ⟨[a],[(Str.ofString "default",d)]⟩:=by unfold argsOk;kernel_rfl
def zcF (hh:A.handled=none)(hl:s.heap.IsList l (intItems xs))
  (h:∀v h' tk,(xs.size=0/\v=d\/0<xs.size/\(intItems xs)[argBest (λi j=>decide (numAt xs i > numAt xs j)) (xs.size - 1)]? = some v)->(∀b o,s.heap.get? b=some o->h'.get? b=some o)->Q v { s with heap:=h',toks:=tk }):
  wpAny (model prog w) A (call (.builtin "max") [.ref l] [(Str.ofString "default",d)]) Q E s:=by
 refine wpAny_call (codeAny_call_builtin F.plain_max F.entry_max ?_);simp only[checkBuiltinCall,F.kind_max];have body:wpAny (model prog w) A.in1 (Builtin.«max» ⟨[.ref l],[(Str.ofString "default",d)]⟩) (λfin s'=>match fin with
   | .done f=>(match (Except.ok f:Result) with | .ok (.ret v)=>Q v s' | .ok _=>False | .error e=>E e s')
   | .again c'=>c'.quiet=true/\codeAny (model prog w) A c' (λr s'=>match r with | .ok (.ret v)=>Q v s' | .ok _=>False | .error e=>E e s') s') E s:=by
  have hname:(toString "max"++toString ".loop":String)="max.loop":=by decide
  show wpAny _ A.in1 (Builtin.Builtins.bindParams "max" ["key","default"] 0 ⟨[],[(Str.ofString "default",d)]⟩ >>= _) _ _ s;refine we (wpAny_of_eq (show Builtin.Builtins.bindParams "max" ["key","default"] 0 ⟨[],[(Str.ofString "default",d)]⟩=pure [none,some d] from rfl) ?_);refine we (wj ?_);refine we (iter_intList hl λs₂ e st hfp hlI =>?_);subst e;refine we (vo ?_);have W:=Walks.list (A:=A.in1) (prog:=prog) (w:=w) hh _ l hlI (intItems xs);rw[hname];have hz:(intItems xs).size=xs.size:=by simp[intItems]
  refine wj ⟨uR jE _,zjv W _ (CmpOf.ints_gt (numAt xs) (λ_ _=>intItems_at)) _ (λhm=>uj _ (hfp _ hm)) d _ 0 _ #[] _ rfl (vy _) (W.frame _ _ _ st λb _ o e=>wo _ e) (wA _ rfl) (.inl ⟨rfl,rfl⟩) λv h' tk q kp =>?_⟩;refine h v h' tk ?_ ?_
  .rw[hz] at q;exact q
  .exact old_kept λb o nb e=>kp b o nb (wV (wE e)) (wo _ e)
 cases hsig:Manifest.signature? "max" with
 | none=>exact wj body
 | some sig=>
  have ha':Bind.checkArgs "max" sig ⟨[.ref l],[(Str.ofString "default",d)]⟩=pure ():=by simpa only[argsOk,hsig] using zbw (.ref l) d
  simp only[ha'];exact wj body
end
end Mxd
namespace Pu
open PySem PySem.Spec PyProof.Rows L2
section
variable {X:Cx}{E:XK}
def zeo (K:W.Frag):R2:=λx y H Q=>∃(a:Addr) (ns:List Int) (i:Int),x = .ref a/\y = .int i/\SqL K H a (ns.map V.int)/\(ns=[]->Q (.int i) H)/\(ns≠[]->∀m∈ns,(∀x∈ns,x<=m)->Q (.int m) H)
def zbp (hc:X.calm=true){u v:Value}(I:Inv X pins σ H s)(rx:RelV x u)(ry:RelV y v)(h:zeo X.K x y H Q):
  wpAny (model X.prog X.w) X.A (call (.builtin "max") [u] [(Str.ofString "default",v)]) (EP X pins σ Q) X.xe s:=by
 obtain⟨a,ns,i,rfl,rfl,hs,q0,q1⟩:=h
 cases (show u=Value.ref a from rx)
 obtain⟨t0,rfl⟩:=ry;obtain⟨its,hv,pl,_⟩:=I.list hs;obtain⟨l,rfl,hl⟩:=z7w ns hv;have hll:l.length=ns.length:=by rw[<- hl,wg]
 refine Mxd.zcF (xs:=l.toArray) (I.ok.hd hc) (by have:=pl.isList;simpa[intItems] using this) λv h' tk z kp =>?_
 rcases z with ⟨z,rfl⟩ | ⟨z,e⟩
 .have:ns=[]:=ue.mp (by rw[<- hll];simpa using z);exact⟨.int i,H,I.kept (t':=tk) kp,⟨t0,rfl⟩,q0 this⟩
 .have hpos:0<l.length:=by simpa using z
  have num:∀i,numAt l.toArray i=(ns[i]?).getD 0:=λi=>by
   unfold numAt;rw[<- hl,wB];simp
  obtain⟨t,rfl⟩:=intItems_at e;generalize hk0:argBest (λi j=>decide (numAt l.toArray i > numAt l.toArray j)) (l.toArray.size - 1)=k at*;have hkle:k<=l.length - 1:=by
   have:=z3V (λi j=>decide (numAt l.toArray i > numAt l.toArray j)) (l.toArray.size - 1);rw[hk0] at this;o_rec
  have hkn:k<ns.length:=by lia
  refine⟨.int _,H,I.kept (t':=tk) kp,⟨t,rfl⟩,q1 (λw=>by rw[w] at hkn;simp at hkn) _ ?_ λx hx =>?_⟩
  .rw[num,wp hkn];exact ua hkn
  .obtain⟨j,hj,rfl⟩:=vw.mp hx;have:=z3g (numAt l.toArray) (l.toArray.size - 1) j (by simp;lia);rw[hk0] at this;rw[num j,wp hj] at this;exact this
def zeP {e k:Expr}(hc:X.calm=true)(hg:Gl X "max")(hm:X.mg "max"=none)(ha:PE X e te)(hk:PE X k tk)
  (hs:starEach [e] X.env=(false,eval e X.env)::starEach [] X.env:=by rfl) (hkw:∀pos,backToKw pos (keywordEach [⟨some "default",k,kpos⟩] X.env)=[(some (Str.ofString "default"),do let v <- eval k X.env;standAt pos;pure v)]:=by intro _;rfl):
  PE X (.Call (.Name "max" pp) [e] [⟨some "default",k,kpos⟩] pos) (tOp (zeo X.K) te tk):=by
 x_go;refine ja (z40 I hg hm (show bootBuiltins "max"=some (.builtin "max") from rfl) ?_ (by decide) (by decide));have pa:PA X [e] (z6w te tNil):=z7E ha zao hs;have pk:PK X [⟨some "default",k,kpos⟩] (z6w tk tNil):=zag hk zdz;refine callWith_kw (thn (pa pos pins s σ H (λvs H1=>z6w tk tNil σ H1 λzs H2=>match vs,zs with | [x],[y]=>zeo X.K x y H2 Q | _,_=>False) I h) λus s1 ⟨vs,H1,I1,r,q⟩=>thn (pk pos pins s1 σ H1 _ I1 q) λws s2 z9 =>?_) (by rw[hs];rfl) (by rw[hs];rfl) (by rw[hkw];rfl) (by rw[hkw];rfl);obtain⟨zs,H2,I2,rz,q2⟩:=z9
 match vs,zs,r,rz,q2 with
 | [x],[y],r,rz,q2=>
  obtain⟨u,rfl,ru⟩:=z3k r;obtain⟨v,rfl,rv⟩:=z3k rz;rw[hkw];exact zbp hc I2 ru rv q2
def zeq {e k:Expr}(hc:X.calm=true)(hg:Gl X "max")(hm:X.mg "max"=none)(ha:QX X E e x)(hk:QX X E k y)
  (hs:starEach [e] X.env=(false,eval e X.env)::starEach [] X.env:=by rfl) (hkw:∀pos,backToKw pos (keywordEach [⟨some "default",k,kpos⟩] X.env)=[(some (Str.ofString "default"),do let v <- eval k X.env;standAt pos;pure v)]:=by intro _;rfl):
  QX X E (.Call (.Name "max" pp) [e] [⟨some "default",k,kpos⟩] pos) (.op zct [x,y]):=
 QE.imp ⟨zeP hc hg hm ha.p hk.p hs hkw⟩ λσ H Q h=>tx2 (λG H d1 d2 v1 v2 Q0 X0 Q g rd1 rd2 hr hk=>by
  obtain⟨ns,i,e,h1,h2⟩:=hr
  injection e with e1 e2
  injection e2 with e2 _
  subst e1;subst e2;obtain⟨a,xs,rfl,hq,hx⟩:=z1p rd1;rw[z2X ns hx] at hq;exact⟨a,ns,i,rfl,z0v rd2,z13 g hq,λz=>hk.now g (h1 z) RD.int',λz m hm hx=>hk.now g (h2 z m hm hx) RD.int'⟩) h
end
open Tab
section
variable {X:Cx}{E:XK}{e:Expr}{params:Arguments}{body:Expr}{scope:Scope}{pos lpos kpos pp:Pos}{N':List Str}{js:List Nat}{p:Str}
def zco (hc:X.calm=true)(hroom:X.A.depth<recursionLimit)(hg:Gl X "sorted")(hm:X.mg "sorted"=none)(hl:z7u X lpos)(ha:PE X e te)(hk:scope.kind = .function)(hco:scope.isCoroutine=false)(hgen:scope.isGenerator=false)(cp:z2S X N' 1 js scope)
  (hp:N'[0]? = some p) (hpl:scope.names.lookup p=some .local)
  (hbind:∀(u:Value) (name qual:Str) (sc:Scope) (cl:List (Str × Addr)) (pm cdv ct:Value),bindArgs (W.kla_fn name qual params body sc cl pm cdv ct) ⟨[u],[]⟩=pure [(p,u)])
  (hb:∀(A:Around) (f c':Addr) (s:Shared) (H:Hp),PE (X.lamG A scope N' f c' s H) body tb) (hdef:defaultsOf params X.env=([],[]))
  (hs:starEach [e] X.env=(false,eval e X.env)::starEach [] X.env) (hkw:∀pos,backToKw pos (keywordEach [⟨some "key",.Lambda params body scope lpos,kpos⟩] X.env)=[(some (Str.ofString "key"),do let v <- eval (.Lambda params body scope lpos) X.env;standAt pos;pure v)]):
  PE X (.Call (.Name "sorted" pp) [e] [⟨some "key",.Lambda params body scope lpos,kpos⟩] pos) (λσ H Q=>te σ H λv H1=>∀f c' H2,LamF X params body scope f c' H2->Same H1 H2->∃a xs,v = .ref a/\SqL X.K H2 a xs/\xs.length<Tim.z18/\KeyG X.K tb (λx=>some x::js.map λj=>(σ[j]?).getD none) xs Q H2):=by
 x_go;refine ja (z40 I hg hm (show bootBuiltins "sorted"=some (.builtin "sorted") from rfl) ?_ (by decide) (by decide));have pa:PA X [e] (z6w te tNil):=z7E ha zao hs;have plam:PE X (.Lambda params body scope lpos) (λσ H Q=>∀f c' H',LamF X params body scope f c' H'->Same H H'->Q (.ref f) H'):=λpins s σ H Q I h=>zcL I hl cp hdef h;have pk:PK X [⟨some "key",.Lambda params body scope lpos,kpos⟩] (z6w _ tNil):=zag plam zdz;refine callWith_kw (thn (pa pos pins s σ H (λvs H1=>match vs with | [v]=>∀f c' H2,LamF X params body scope f c' H2->Same H1 H2->∃a xs,v = .ref a/\SqL X.K H2 a xs/\xs.length<Tim.z18/\KeyG X.K tb (λx=>some x::js.map λj=>(σ[j]?).getD none) xs Q H2 | _=>False) I h) λus s1 z9 =>?_) (by rw[hs];rfl) (by rw[hs];rfl) (by rw[hkw];rfl) (by rw[hkw];rfl);obtain⟨vs,H1,I1,r,q⟩:=z9
 match vs,r,q with
 | [x],r,q=>
  obtain⟨u,rfl,ru⟩:=z3k r;refine thn (pk pos pins s1 σ H1 (λzs H2=>match zs with | [y]=>∃f c',y = .ref f/\LamF X params body scope f c' H2/\∃a xs,x = .ref a/\SqL X.K H2 a xs/\xs.length<Tim.z18/\KeyG X.K tb (λx=>some x::js.map λj=>(σ[j]?).getD none) xs Q H2 | _=>False) I1 λf c' H' l g=>⟨f,c',rfl,l,q f c' H' l g⟩) λws s2 z9 =>?_;obtain⟨zs,H2,I2,rz,q2⟩:=z9
  match zs,rz,q2 with
  | [y],rz,q2=>
   obtain⟨v,rfl,rv⟩:=z3k rz;obtain⟨f,c',rfl,lf,a,xs,rfl,h1,h2,h3⟩:=q2
   cases (show u=Value.ref a from ru)
   cases (show v=Value.ref f from rv)
   rw[hkw];exact zbI hc hroom I2 lf hk hco hgen cp hp hpl hbind hb h1 h2 h3
def zcf {k:Nat}(hc:X.calm=true)(hr:Room k X.A)(hg:Gl X "sorted")(hm:X.mg "sorted"=none)(hl:z7u X lpos)(ha:QX X E e src)(hk:scope.kind = .function)(hco:scope.isCoroutine=false)(hgen:scope.isGenerator=false)(cp:z2S X N' 1 js scope)
  (hp:N'[0]? = some p) (hpl:scope.names.lookup p=some .local)
  (hbind:∀(u:Value) (name qual:Str) (sc:Scope) (cl:List (Str × Addr)) (pm cdv ct:Value),bindArgs (W.kla_fn name qual params body sc cl pm cdv ct) ⟨[u],[]⟩=pure [(p,u)])
  (hb:∀(A:Around) (f c':Addr) (s:Shared) (H:Hp),QX (X.lamG A scope N' f c' s H) E0 body x) (hdef:defaultsOf params X.env=([],[]):=by rfl)
  (hs:starEach [e] X.env=(false,eval e X.env)::starEach [] X.env:=by rfl) (hkw:∀pos,backToKw pos (keywordEach [⟨some "key",.Lambda params body scope lpos,kpos⟩] X.env)=[(some (Str.ofString "key"),do let v <- eval (.Lambda params body scope lpos) X.env;standAt pos;pure v)]:=by intro _;rfl):
  QF X E (.Call (.Name "sorted" pp) [e] [⟨some "key",.Lambda params body scope lpos,kpos⟩] pos) (.sortk 1 js (.nm 0) src x):=by
 refine QE.imp ⟨zco (tb:=tx X.K X.mg E0 x) hc (uM (wO (jD _ (3*k)) (jD _ 5)) hr.dp) hg hm hl ha.p hk hco hgen cp hp hpl hbind (λA f c' s H=>(hb A f c' s H).p) hdef hs hkw⟩ λσ H Q z9 =>?_;obtain⟨G,ρ,Q0,X0,g,ab,hr,hk,hx⟩:=z9;refine⟨G,ρ,_,X0,g,ab,hr,λd v G1 H1 q g1 g2 g3 rd f c' H2 _ s12 =>?_,hx⟩
 cases d with
 | lst l=>
  f_int;obtain⟨hz,q⟩:=(show l.length<Tim.z18/\_ from q)
  have hxl:xs.length=l.length:=h2.len;have g12:Same G1 H2:=z01 g2 s12;refine⟨a,xs,rfl,z13 g12 h1,by rw[hxl];exact hz,λys H'=>∃G' rs,Gr G1 H1 G'/\Same G' H'/\Same H2 H'/\RDs X.K X.mg G' rs ys/\z2R (z2G (.nm 0) none x (z0s 1 js ρ)) (l.drop ys.length) λr=>∃kz:List (List Int),rs++r=kz.map tupD/\(∀k∈kz,k≠[])/\∀out,zbz kz l out->Q0 (.lst out),⟨G1,[],Gr.refl,g12,Same.refl',RDs.nil,by simpa using q⟩,λys H' ⟨_,_,_,_,s,_⟩=>s,λys H' xv ⟨G',rs,k1,k2,k3,rds,hc⟩ hxv =>?_,λys H' ⟨G',rs,k1,k2,k3,rds,hc⟩ hyl =>?_⟩
  .obtain⟨d,hd,rd'⟩:=h2.getV hxv;obtain⟨hlt,hd'⟩:=wu.mp hd;rw[vJ hlt,hd'] at hc;have hc':x.run ((z0s 1 js ρ).set 0 (.s d)) (λd'=>z2R (z2G (.nm 0) none x (z0s 1 js ρ)) (l.drop (ys.length+1)) λr=>∃kz:List (List Int),rs++((some d').toList++r)=kz.map tupD/\(∀k∈kz,k≠[])/\∀out,zbz kz l out->Q0 (.lst out)) (λ_=>False):=hc;have ab':AbE X.K X.mg G' ((z0s 1 js ρ).set 0 (.s d)) (some xv::js.map λj=>(σ[j]?).getD none):=λi d' ed=>by
    cases i with
    | zero=>
     have ed':some d=some d':=ed
     cases ed'
     exact⟨xv,rfl,rd'.same k1.1⟩
    | succ i=>
     obtain⟨v,e1,e2⟩:=z5t (nt:=1) (js:=js) (ab.same (z01 g1.1 k1.1)) (i+1) d' ed;exact⟨v,e1,e2⟩
   refine⟨G',_,_,λ_=>False,k2,ab',hc',λd' v' G2 H3 q n1 n2 n3 rd2=>⟨G2,rs++[d'],k1.trans (z01 s12 k3) n1,n2,z01 k3 n3,(rds.same n1.1).app (RDs.cons rd2 RDs.nil),?_⟩,Kx.no⟩;rw[wL];refine z1T z2r _ _ _ (λr q =>?_) q;simpa using q
  .rw[hyl,hxl,List.drop_length] at hc;obtain⟨kz,ek,hne,hq⟩:=(show ∃kz:List (List Int),rs++[]=kz.map tupD/\(∀k∈kz,k≠[])/\∀out,zbz kz l out->Q0 (.lst out) from hc)
   rw[v6] at ek;subst ek;refine⟨kz,(z5H (rds.same k2)),hne,λzs ko p hp =>?_⟩;obtain⟨out,pr,ko'⟩:=KO.lift (z5e (h2.same k1.1)) ko;have hn:∀{A:Hp},Same A H'->A p=none:=λs=>z0Y s hp;exact hk (.lst out) p G' (upd H' p (.lst zs)) (hq out ko') (g1.trans g3 k1) (z01 k2 (z0i hp _)) (z01 g3 (z01 s12 (z01 k3 (z0i hp _)))) (hn (z01 g3 (z01 s12 k3))) (hn k2) ⟨zs,z0b,z5k pr⟩
 | _=>exact(show False from q).elim
end
def z5n (K:W.Frag):Bool:=K.all λp=>match p.2.data with
 | .func fd=>(match z5m fd with
  | some pos=>(match fd.code with
   | .ref c=>(match z7x K c with
    | some P=>W.codeHdIn K c P && ((tsOf K).lookup P == some (pos.line,pos.col,fd.qualname++".<locals>."++"<lambda>"))
    | none=>false)
   | _=>false)
  | none=>true)
 | _=>true
section
variable {P:Program}{w:World}{K:W.Frag}{mg:WmP}{base:Heap}{f:Addr}{qual:Str}{N:List Str}
def zhR {sc:Scope}(h:z5n K=true)(lk:K.lookup f=some ⟨oc,od,.func fd,osl⟩)(hc:fd.code=cdv)(hq:fd.qualname=qual)(hp:z5m fd=some pos):z7u ((cxOf CX P w K mg base N qual sc f cdv A outer s H E).wish xe) pos:=by
 have:=jC.mp h _ (z8m lk);dsimp only at this;rw[hp] at this;dsimp only at this;rw[hc,hq] at this
 cases cdv with
 | ref c=>
  dsimp only at this
  cases e:z7x K c with
  | none=>rw[e] at this;cases this
  | some P=>
   rw[e] at this;dsimp only at this;rw[vE] at this;exact⟨c,P,rfl,this.1,eq_of_beq this.2⟩
 | _=>cases this
def fnL {st:Stmt}{ps:List Str}{k np nn:Nat}(F:Fun K x qual st f fd)(S:z3h N ps (z00 st))(hl:z5n K=true)(hps:z5m { name:=x,qualname:=qual,params:=z1D st,body :=.stmts (z0C st),scope:=z00 st,globals:=0,closure:=[],defaults :=.none,kwdefaults :=.none,doc :=.none,pyModule :=.none,annotations:=none,code :=.none,closureTuple :=.none,builtins:=0 }=some pos)
  (hb:∀(cdv:Value) (A:Around) (outer:List PySem.Env) (s:Shared) (H:Hp) (E:XK),Room k (A.deeper (envOfC qual (z00 st) s.heap.objs.size f cdv))->(A.deeper (envOfC qual (z00 st) s.heap.objs.size f cdv)).units+64<cLine->z7u ((cxOf (CXe P w) P w K mg base N qual (z00 st) f cdv A outer s H E).wish λ_ _=>False) pos->QZs ((cxOf (CXe P w) P w K mg base N qual (z00 st) f cdv A outer s H E).wish λ_ _=>False) E0 (z0C st) b) (hp:ps.length=np:=by rfl) (hN:N.length=nn:=by rfl):
  FnOk P w K mg base (CXe P w) (k+1) f fd ps (spP K mg (Fn.mkN np nn b)):=by
 obtain⟨oc,od,kV,doc,pm,an,cdv,ct,osl,rfl,lk,hcd⟩:=F.ex;refine zi4 lk hcd S (λvs H Q E ⟨G,ds,Q0,X0,hs,rds,⟨hl,hr⟩,hk,hx⟩=>by rw[rds.len,hl,hp]) λA outer s H vs Q E hroom ⟨G,ds,Q0,X0,hs,rds,⟨hl',hr⟩,hk,hx⟩=>⟨_,(hb cdv A outer s H E hroom hroom.units (zhR hl lk rfl rfl hps)).p.nox,?_⟩
 refine⟨H,G,G,_,λ_=>Q0 .non,Q0,λ_=>False,z82 hs rds hl' hN,hr,λρ' σ' H' G' q ab _ =>?_,hk,Kx.no⟩;exact hk .non .non G' H' q ⟨ab.g0,ab.nw⟩ ab.g ab.s0 (by rw[RD])
def ze9 {K:Params->W.Frag}{as:List Addr}{e:∀P,as=(K P).map (·.1)}{ts:List Addr}{w:World}{h:Heap}(Y:(W.kmHook K as e ts).says w h)(hts:(tsOf (K w.params)).map Prod.fst=ts):∀P t,(tsOf (K w.params)).lookup P=some t->h.get? P=some { cls :=.none,data :=.fields #[] }:=
 λP t q=>W.km_tabs_of Y P (by rw[<- hts];exact wv.mpr ⟨_,z8m q,rfl⟩)
end
structure Sc (N ps:List Str)(sc:Scope):Prop where
 fs:z3h N ps sc
 nm:∀x∈N,Nm sc x
def Sc.of {N ps:List Str}{sc:Scope}(h:(sc.kind = .function/\sc.isCoroutine=false/\sc.isGenerator=false)/\N.Nodup/\N.take ps.length=ps/\(∀y∈sc.names,y.2 ≠ .free)/\∀x∈N,(sc.names.lookup x=some .local\/sc.names.lookup x=some .cell)/\(x == ("__debug__":Str))=false/\(x == ("__classdict__":Str))=false):Sc N ps sc:=
 ⟨⟨h.1.1,h.1.2.1,h.1.2.2,h.2.1,h.2.2.1,λx hx=>(h.2.2.2.2 x (List.mem_of_mem_take (by rw[h.2.2.1];exact hx))).1,h.2.2.2.1⟩,λx hx=>⟨(h.2.2.2.2 x hx).1,(h.2.2.2.2 x hx).2.1,(h.2.2.2.2 x hx).2.2⟩⟩
section
variable {CX:CXT}{P:Program}{w:World}{K:W.Frag}{mg:WmP}{base:Heap}{N ps:List Str}{qual:Str}{sc:Scope}{f:Addr}{cdv:Value}{A:Around}{outer:List PySem.Env}{s:Shared}{H:Hp}{E:XK}{xe:WvP}{x:Str}{pos pos2:Pos}{e:Expr}{te:TE}{i:Nat}
def vx (S:Sc N ps sc)(hN:N[i]? = some x):QE ((cxOf CX P w K mg base N qual sc f cdv A outer s H E).wish xe) (.Name x pos) (tVar i):=vg i (S.nm x (wy hN)) hN
def nx (S:Sc N ps sc)(hN:N[i]? = some x):QG ((cxOf CX P w K mg base N qual sc f cdv A outer s H E).wish xe) (.Name x pos) (z47 i):=ng i S.fs.nd (S.nm x (wy hN)) hN
def ax (S:Sc N ps sc)(hN:N[i]? = some x)(he:QE ((cxOf CX P w K mg base N qual sc f cdv A outer s H E).wish xe) e te)(hs:swapsWith e (some (.Name x pos2)) pos.line ((cxOf CX P w K mg base N qual sc f cdv A outer s H E).wish xe).env=pure false):QS ((cxOf CX P w K mg base N qual sc f cdv A outer s H E).wish xe) (.Assign [.Name x pos2] e pos) (tAsg te (z47 i)):=ag i S.fs.nd (S.nm x (wy hN)) he hN hs
end
def ziO {op:BoolOp}(h:QXW X E (.BoolOp op es pos) x):QXT X E (.BoolOp op es pos) x:=QW.pt h
def tgN:Expr->List Str
 | .Name x _=>[x]
 | .Tuple es _ _=>es.filterMap fun | .Name x _=>some x | _=>none
 | _=>[]
def z9i (tg:Expr)(js:List Nat)(N:List Str):List Str:=tgN tg++js.map λj=>N.getD j ""
section
variable {X:Cx}{E:XK}{N ps:List Str}{sc scope:Scope}{target iter elt c:Expr}{src x y:Ex}{nt iy:Nat}{js:List Nat}{tg:Tg}{pos py spos:Pos}{z:Str}
def zcg (S:Sc N ps sc)(hxn:X.N=N)(hosc:X.env.scope=sc)(hc:X.calm=true)(hi:QXI X E target iter src)(hk:scope.kind = .function)(cp:z7U (z9i target js N) N nt js scope.names sc.names=true/\(z9i target js N).Nodup)(hts:tg.slots.all (· < nt)=true)
  (hg:∀(C:Addr) (s:Shared) (H:Hp) (fp:List Addr),(z9i target js N).Nodup->QG (X.compG scope (z9i target js N) C s H fp) target (tgt X.K tg))
  (he:∀(C:Addr) (s:Shared) (H:Hp) (fp:List Addr),(z9i target js N).Nodup->QX (X.compG scope (z9i target js N) C s H fp) E0 elt x) (hs:∀x,foldedSetIterable iter X.env x=pure x):QF X E (.ListComp elt [⟨target,iter,[],0⟩] scope pos) (.comp nt js tg src none x):=
 zeE (ct:=none) hc hi hk (z7U.ok hxn hosc cp.1) hts (λC s H fp=>hg C s H fp cp.2) trivial (λC s H fp=>he C s H fp cp.2) hs
end
structure Te where
 k:Nat
 x:Str
 i:Nat
 np:Nat
 N:List Str
 F:Fn
abbrev Te.ps (t:Te):List Str:=t.N.take t.np
structure Gx where
 P:Program
 w:World
 K:W.Frag
 mg:Str->Option Value
 base:Heap
abbrev Ct (G:Gx)(t:Te):Prop:=Cal G.P G.w G.K G.mg G.base (CXe G.P G.w) t.k t.x t.ps (spP G.K G.mg t.F)
abbrev Ft (G:Gx)(t:Te)(f:Addr)(fd:FuncData):Prop:=FnOk G.P G.w G.K G.mg G.base (CXe G.P G.w) t.k f fd t.ps (spP G.K G.mg t.F)
section
variable {P:Program}{w:World}{K:W.Frag}{mg:WmP}{base:Heap}{f:Addr}{fd:FuncData}{N ps:List Str}{qual x:Str}{st:Stmt}{k np nn:Nat}{b:Sm}
def fnQ (F:Fun K x qual st f fd)(S:Sc N ps (z00 st))
  (hb:∀(cdv:Value) (A:Around) (outer:List PySem.Env) (s:Shared) (H:Hp) (E:XK),Sc N ps (z00 st)->Room k (A.deeper (envOfC qual (z00 st) s.heap.objs.size f cdv))->(A.deeper (envOfC qual (z00 st) s.heap.objs.size f cdv)).units+64<cLine->QZs ((cxOf (CXe P w) P w K mg base N qual (z00 st) f cdv A outer s H E).wish λ_ _=>False) E0 (z0C st) b) (hp:ps.length=np:=by rfl) (hN:N.length=nn:=by rfl):
  FnOk P w K mg base (CXe P w) (k+1) f fd ps (spP K mg (Fn.mkN np nn b)):=fnM F S.fs (λcdv A outer s H E hr hu=>hb cdv A outer s H E S hr hu) hp hN
end
section
variable {G:Gx}{t:Te}{f:Addr}{fd:FuncData}{st:Stmt}{k np nn:Nat}{b:Sm}
def fnT (F:Fun G.K t.x t.x st f fd)(S:Sc t.N t.ps (z00 st))(hF:t.F=Fn.mkN np nn b)(hk:t.k=k+1)
  (hb:∀(cdv:Value) (A:Around) (outer:List PySem.Env) (s:Shared) (H:Hp) (E:XK),Sc t.N t.ps (z00 st)->Room k (A.deeper (envOfC t.x (z00 st) s.heap.objs.size f cdv))->(A.deeper (envOfC t.x (z00 st) s.heap.objs.size f cdv)).units+64<cLine->QZs ((cxOf (CXe G.P G.w) G.P G.w G.K G.mg G.base t.N t.x (z00 st) f cdv A outer s H E).wish λ_ _=>False) E0 (z0C st) b) (hp:t.ps.length=np:=by rfl) (hN:t.N.length=nn:=by rfl):Ft G t f fd:=by
 show FnOk _ _ _ _ _ _ t.k _ _ _ (spP _ _ t.F);rw[hF,hk];exact fnQ F S hb hp hN
end
structure Cf (G:Gx)(F:Fn)(t:Te):Prop where
 c:Ct G t
 e:t.F=F
def zgr (C:Cf G F t)(h:Ct G t->Cal X.prog X.w X.K X.mg X.base (CXe G.P G.w) t.k f t.ps (spP X.K X.mg t.F))(hr:Room t.k X.A)(hx:z3E (CXe G.P G.w) X E)(ha:QXA X E (e::es) xs)(hg:Gl X f)
  (hdb:(f == ("__debug__":Str))=false) (he:starEach (e::es) X.env=(false,eval e X.env)::starEach es X.env) (hpl:(backTo pos (starEach es X.env)).any (·.1)=false):QX X E (.Call (.Name f pp) (e::es) [] pos) (.op F xs):=by
 have q:=h C.c;rw[C.e] at q;exact ziK q hr hx ha hg hdb he hpl
def us1 {P:List Value->Prop}(h:∀a0,P [a0]):∀us,us.length=1->P us
 | [_],_=>h _
def us2 {P:List Value->Prop}(h:∀a0 a1,P [a0,a1]):∀us,us.length=2->P us
 | [_,_],_=>h _ _
def us3 {P:List Value->Prop}(h:∀a0 a1 a2,P [a0,a1,a2]):∀us,us.length=3->P us
 | [_,_,_],_=>h _ _ _
def us4 {P:List Value->Prop}(h:∀a0 a1 a2 a3,P [a0,a1,a2,a3]):∀us,us.length=4->P us
 | [_,_,_,_],_=>h _ _ _ _
section
variable {K:W.Frag}{h:Heap}{mg:WmP}{base:Heap}{P:Program}{w:World}
def zjL (X:K.In h)(G:h.Ns mainGlobals mg)(t:Te){st:Stmt}{f:Addr}(d:Std K t.x st f)(ok:∀fd,Fun K t.x t.x st f fd->Ft ⟨P,w,K,mg,base⟩ t f fd)
  (hb:∀(kV dc pm:Value) (an:Option Addr) (cd ct:Value) (us:List Value),us.length=t.ps.length->bindArgs (W.fnOf t.x t.x (z1D st) (z0C st) (z00 st) .none kV dc pm an cd ct) ⟨us,[]⟩=pure (t.ps.zip us):=by walk_at "c"):Cf ⟨P,w,K,mg,base⟩ t.F t:=⟨zig X G d hb ok,rfl⟩
end
def lamN (p:Arguments)(js:List Nat)(N:List Str):List Str:=p.args.map (·.arg)++js.map λj=>N.getD j ""
def pN (p:Arguments):Str:=(p.args.map (·.arg)).headD ""
section
variable {X:Cx}{E:XK}{N ps:List Str}{sc scope:Scope}{params:Arguments}{body e:Expr}{js:List Nat}{pos pp lpos kpos:Pos}
def za8 (S:Sc N ps sc){k:Nat}(hxn:X.N=N)(hosc:X.env.scope=sc)(hc:X.calm=true)(hr:Room k X.A)(hg:Gl X "sorted")(hm:X.mg "sorted"=none)(hl:z7u X lpos)(ha:QX X E e src)(hk:scope.kind = .function)(hco:scope.isCoroutine=false)(hgen:scope.isGenerator=false)(cp:z7U (lamN params js N) N 1 js scope.names sc.names=true)
  (hp:(lamN params js N)[0]? = some (pN params)) (hpl:scope.names.lookup (pN params)=some .local)
  (hbind:∀(u:Value) (name qual:Str) (sc:Scope) (cl:List (Str × Addr)) (pm cdv ct:Value),bindArgs (W.kla_fn name qual params body sc cl pm cdv ct) ⟨[u],[]⟩=pure [(pN params,u)])
  (hb:∀(A:Around) (f c':Addr) (s:Shared) (H:Hp),QX (X.lamG A scope (lamN params js N) f c' s H) E0 body x) (hdef:defaultsOf params X.env=([],[]))
  (hs:starEach [e] X.env=(false,eval e X.env)::starEach [] X.env) (hkw:∀pos,backToKw pos (keywordEach [⟨some "key",.Lambda params body scope lpos,kpos⟩] X.env)=[(some (Str.ofString "key"),do let v <- eval (.Lambda params body scope lpos) X.env;standAt pos;pure v)]):
  QF X E (.Call (.Name "sorted" pp) [e] [⟨some "key",.Lambda params body scope lpos,kpos⟩] pos) (.sortk 1 js (.nm 0) src x):=
 zcf hc hr hg hm hl ha hk hco hgen (z7U.ok hxn hosc cp) hp hpl hbind hb hdef hs hkw
end
section
variable {P:Program}{w:World}{K:W.Frag}{mg:WmP}{base:Heap}{f:Addr}{fd:FuncData}{N ps:List Str}{qual x:Str}{st:Stmt}{k np nn:Nat}{b:Sm}{pos:Pos}
def fnLQ (F:Fun K x qual st f fd)(S:Sc N ps (z00 st))(hl:z5n K=true)(hps:z5m { name:=x,qualname:=qual,params:=z1D st,body :=.stmts (z0C st),scope:=z00 st,globals:=0,closure:=[],defaults :=.none,kwdefaults :=.none,doc :=.none,pyModule :=.none,annotations:=none,code :=.none,closureTuple :=.none,builtins:=0 }=some pos)
  (hb:∀(cdv:Value) (A:Around) (outer:List PySem.Env) (s:Shared) (H:Hp) (E:XK),Sc N ps (z00 st)->Room k (A.deeper (envOfC qual (z00 st) s.heap.objs.size f cdv))->(A.deeper (envOfC qual (z00 st) s.heap.objs.size f cdv)).units+64<cLine->z7u ((cxOf (CXe P w) P w K mg base N qual (z00 st) f cdv A outer s H E).wish λ_ _=>False) pos->QZs ((cxOf (CXe P w) P w K mg base N qual (z00 st) f cdv A outer s H E).wish λ_ _=>False) E0 (z0C st) b) (hp:ps.length=np:=by rfl) (hN:N.length=nn:=by rfl):
  FnOk P w K mg base (CXe P w) (k+1) f fd ps (spP K mg (Fn.mkN np nn b)):=fnL F S.fs hl hps (λcdv A outer s H E hr hu hlam=>hb cdv A outer s H E S hr hu hlam) hp hN
end
section
variable {G:Gx}{t:Te}{f:Addr}{fd:FuncData}{st:Stmt}{k np nn:Nat}{b:Sm}{pos:Pos}
def fnLT (F:Fun G.K t.x t.x st f fd)(S:Sc t.N t.ps (z00 st))(hF:t.F=Fn.mkN np nn b)(hk:t.k=k+1)(hl:z5n G.K=true)(hps:z5m { name:=t.x,qualname:=t.x,params:=z1D st,body :=.stmts (z0C st),scope:=z00 st,globals:=0,closure:=[],defaults :=.none,kwdefaults :=.none,doc :=.none,pyModule :=.none,annotations:=none,code :=.none,closureTuple :=.none,builtins:=0 }=some pos)
  (hb:∀(cdv:Value) (A:Around) (outer:List PySem.Env) (s:Shared) (H:Hp) (E:XK),Sc t.N t.ps (z00 st)->Room k (A.deeper (envOfC t.x (z00 st) s.heap.objs.size f cdv))->(A.deeper (envOfC t.x (z00 st) s.heap.objs.size f cdv)).units+64<cLine->z7u ((cxOf (CXe G.P G.w) G.P G.w G.K G.mg G.base t.N t.x (z00 st) f cdv A outer s H E).wish λ_ _=>False) pos->QZs ((cxOf (CXe G.P G.w) G.P G.w G.K G.mg G.base t.N t.x (z00 st) f cdv A outer s H E).wish λ_ _=>False) E0 (z0C st) b) (hp:t.ps.length=np:=by rfl) (hN:t.N.length=nn:=by rfl):Ft G t f fd:=by
 show FnOk _ _ _ _ _ _ t.k _ _ _ (spP _ _ t.F);rw[hF,hk];exact fnLQ F S hl hps hb hp hN
end
end Pu
end
set_option Elab.async false
set_option linter.all false
set_option maxRecDepth 100000
set_option maxHeartbeats 4000000
namespace My
open PySem L2 Pu
def top (i:Nat):Stmt:=PySem.Challenge.pw_closehaul_k40_whole_spread_and_drawn_in.main.body.getD i (.Pass ⟨0,0,0,0⟩)
abbrev Fu (G:Gx)(t:Te)(f:Addr)(fd:FuncData):Prop:=Fun G.K t.x t.x (top t.i) f fd
local macro_rules | `(tactic| walk_at "c") => `(tactic| first | exact λ_ _ _ _ _ _=>us1 λ_=>rfl | exact λ_ _ _ _ _ _=>us2 λ_ _=>rfl | exact λ_ _ _ _ _ _=>us3 λ_ _ _=>rfl | exact λ_ _ _ _ _ _=>us4 λ_ _ _ _=>rfl)
abbrev BL:List Str:=["abs","all","bool","int","isinstance","len","list","max","min","range","reversed","set","sorted","tuple","zip"]
structure Txt (K:W.Frag)(mg:WmP):Prop where
 nb:∀b∈BL,mg b=none
 g_EVERY_WAY:ziq K mg "EVERY_WAY" z2C
 lam:z5n K=true
def zjV:bootBuiltins "abs"=some (.builtin "abs"):=by rfl
def zjU:bootBuiltins "all"=some (.builtin "all"):=by rfl
def zii:bootBuiltins "bool"=some (.type "bool"):=by rfl
def zjT:bootBuiltins "int"=some (.type "int"):=by rfl
def zjS:bootBuiltins "len"=some (.builtin "len"):=by rfl
def zih:bootBuiltins "list"=some (.type "list"):=by rfl
def zjR:bootBuiltins "max"=some (.builtin "max"):=by rfl
def zjQ:bootBuiltins "min"=some (.builtin "min"):=by rfl
def zdf:bootBuiltins "sorted"=some (.builtin "sorted"):=by rfl
def zfz:bootBuiltins "tuple"=some (.type "tuple"):=by rfl
set_option hygiene false in
local macro_rules | `(tactic| walk_at "q2") => `(tactic| first
 | with_reducible first
  | refine za3 ?_
  | refine z7C ?_ ?_
  | exact zgh
  | refine qx_v ?_
  | refine zc7 ?_ ?_ ?_
  | exact zep
  | exact zgq
  | refine zgu ?_ lk2 ?_ ?_
  | refine ziJ ?_ ?_ ?_
  | refine zgj ?_
  | refine zge ?_
  | exact zhq
  | exact zhs
  | exact zho
  | exact zhr
  | exact zf3
  | exact zhp
  | refine zgl ?_
  | refine zgB ?_ lk2 ?_ ?_ ?_
  | refine ziF ?_ ?_ ?_
  | refine zgt ?_ lk2 ?_ ?_ ?_
  | refine zji ?_
  | refine zjc ?_
  | refine zjd ?_
  | refine zjh ?_
  | refine zje ?_
  | exact zjf
  | refine zjg ?_
  | refine zcD ?_
  | exact ziN
  | exact zgo
  | refine ziG ?_ lk1 ?_
  | exact zhc
  | refine zgn ?_
  | refine zeu ?_
  | refine zc9 ?_
  | refine zer ?_
  | refine zes ?_ ?_
  | refine zgw ?_ ?_
  | refine zgm ?_
  | refine zgv ?_ ?_
  | refine ziI ?_ ?_
  | refine ziH ?_ ?_ ?_
  | exact zeA
  | refine zez ?_
  | refine zgg ?_
  | refine zgk ?_ ?_ ?_ ?_ ?_ ?_ ?_ ?_
  | refine zgf ?_ ?_ ?_ ?_
  | refine zc3 ?_ ?_ ?_
  | refine zgi ?_ ?_ ?_ ?_ ?_ ?_
  | refine zc6 ?_ ?_ ?_ ?_ ?_ ?_ ?_ ?_ ?_
  | refine zc5 ?_ ?_ ?_ ?_ ?_ ?_ ?_ ?_ ?_ ?_
  | exact zc4
  | refine zcg S ?_ ?_ ?_ ?_ ?_ ?_ ?_ ?_ ?_ ?_
  | refine zgH ?_
  | refine z8X ?_ ?_ ?_ ?_ ?_ ?_ ?_ ?_ ?_
  | refine z3I ?_ ?_ ?_ ?_ ?_ ?_ ?_ ?_
  | refine za8 (k:=0) S ?_ ?_ ?_ ?_ ?_ ?_ ?_ ?_ ?_ ?_ ?_ ?_ ?_ ?_ ?_ ?_ ?_ ?_ ?_
  | refine zeq ?_ ?_ ?_ ?_ ?_ ?_ ?_
  | refine zcd ?_ ?_ ?_ ?_ ?_
  | refine qi_x ?_
  | refine zgp ?_ ?_ ?_ ?_ ?_ ?_ ?_ ?_ ?_ ?_ ?_
  | exact zjV
  | exact zjU
  | exact zii
  | exact zjT
  | exact zjS
  | exact zih
  | exact zjR
  | exact zjQ
  | exact zdf
  | exact zfz
 | (with_reducible refine zgr (G:=?_) (t:=?_) ?_ ?_ ?_ ?_ ?_ ?_ ?_ ?_ ?_;rotate_left 2;assumption;with_unfolding_all exact λh=>h)
 | (with_reducible refine zc8 (CX:=?_) (k:=?_) ?_ ?_ ?_ ?_ ?_ ?_ ?_;rotate_left 2;with_unfolding_all exact tb)
 | (with_reducible refine z8c (n:=0) (CX:=?_) (k:=?_) (ps:=?_) (sp:=?_) ?_ ?_ ?_ ?_;rotate_left 6;with_unfolding_all exact(‹Cf G z2Q _›).c)
 | (with_reducible refine z8c (n:=1) (CX:=?_) (k:=?_) (ps:=?_) (sp:=?_) ?_ ?_ ?_ ?_;rotate_left 6;with_unfolding_all exact(‹Cf G z1y _›).c)
 | (with_reducible refine z8c (n:=2) (CX:=?_) (k:=?_) (ps:=?_) (sp:=?_) ?_ ?_ ?_ ?_;rotate_left 6;with_unfolding_all exact(‹Cf G z1z _›).c)
 | (with_reducible refine z8c (n:=3) (CX:=?_) (k:=?_) (ps:=?_) (sp:=?_) ?_ ?_ ?_ ?_;rotate_left 6;with_unfolding_all exact(‹Cf G z0T _›).c)
 | with_reducible refine ziM (d:=z2C) ?_ ?_ ?_
 | (with_reducible refine ziL (id:=?_) ?_ lkN ?_ ?_ ?_ ?_ ?_ ?_ ?_ ?_;rotate_left;first | exact zic | exact zif | (refine zfx ?_;with_unfolding_all rfl) | (refine zfw ?_;with_unfolding_all rfl) | (refine zie ?_;with_unfolding_all rfl))
 | (with_reducible refine zgs (id:=?_) ?_ lkN ?_ ?_ ?_ ?_ ?_ ?_ ?_ ?_;rotate_left;first | exact z8D | exact zbg)
 | (with_reducible refine zgI (id:=?_) ?_ ?_ ?_ ?_ ?_ ?_ ?_ ?_ ?_;rotate_left;first | exact z8D | exact zbg)
 |(with_reducible first|refine ziO ?_|refine zev ?_ ?_|refine QF.qx ?_)| exact vx S rfl
 | exact qv _
 | exact nx S rfl
 | refine ax S rfl ?_ rfl
 | exact zgF n1 rfl rfl
 | exact zgG n1 rfl rfl
 | refine zce ?_ ?_ rfl
 | exact zeD
 | refine zgE rfl ?_
 | exact hr.mono (by decide)
 | exact zh9
 | exact hu
 | exact PassesOwn.never
 | exact zhH _
 | exact rfl
 | exact T.nb _ (by decide)
 | assumption
 | exact hlam
 | exact hr.mono (by decide)
 | exact λ_ _ _ _ _ _ _ _=>rfl
 | (intro _;rfl)
 | (intro _ _;rfl)
 | (intro _ _ _ _ n1)
 | decide
 | exact S.fs.nd
 | decide +kernel
 | refine zeG rfl (T.nb _ (by decide)) ?_ rfl (by decide) (by decide)
 | with_unfolding_all rfl
 | exact T.g_EVERY_WAY)
local macro_rules | `(tactic| walk_at "q") => `(tactic| walk_at "q2" <;> walk_at "q")
set_option hygiene false in
local macro_rules | `(tactic| walk_at "f") => `(tactic| (refine fnT F (Sc.of (by decide +kernel)) rfl rfl (λcdv A outer s H E S hr hu =>?_);first | refine za3 ?_ | refine z7C ?_ ?_) <;> walk_at "q")
set_option hygiene false in
local macro_rules | `(tactic| walk_at "fl") => `(tactic| (refine fnLT F (Sc.of (by decide +kernel)) rfl rfl T.lam rfl (λcdv A outer s H E S hr hu hlam =>?_);first | refine za3 ?_ | refine z7C ?_ ?_) <;> walk_at "q")
def z1L:Te:=⟨1,"_law_cell_at",40,2,["script","k"],z0K⟩
def z2p:Te:=⟨1,"_law_size",47,1,["many","size","k"],z0n⟩
def z1r:Te:=⟨1,"_law_digit",48,2,["rest","size","digit"],z06⟩
def z1J:Te:=⟨1,"_law_measure",42,2,["one","other","rest"],z0p⟩
def z0E:Te:=⟨2,"_law_lowest",43,3,["x","y","bottom","part"],z03⟩
def z0M:Te:=⟨3,"_law_place_free",49,2,["cell","most","size","rest","x","y"],z0e⟩
def z1q:Te:=⟨1,"_law_mixed",44,2,["cell","k","mixed"],z0d⟩
def z1M:Te:=⟨3,"_law_between",45,4,["one","other","top","bottom","x","y"],z0L⟩
def z12:Te:=⟨4,"_law_place_by",46,2,["cell","ahead","rest","way","x","y","one","other"],z0h⟩
def z2c:Te:=⟨5,"_law_places",50,2,["cells","free","places","cell"],z0R⟩
def z2V:Te:=⟨2,"_law_wind",62,2,["cells","free","wind","size","cell","rest","heading"],z1a⟩
def z2J:Te:=⟨1,"turn_of",2,2,["one","other"],z2q⟩
def z2K:Te:=⟨1,"step_of",4,2,["start","end"],z1z⟩
def z3l:Te:=⟨2,"turn_by",6,3,["start","middle","end"],z2Q⟩
def z29:Te:=⟨1,"turn_among",26,3,["start","middle","end","x","y"],z1y⟩
def z0m:Te:=⟨1,"common_divisor",15,2,["one","other","great","small","rest"],z07⟩
def z1w:Te:=⟨2,"step_among",29,2,["start","end","east","north","divisor"],z0T⟩
def z2W:Te:=⟨3,"chain_of",7,2,["spots","turn","kept","spot"],z1S⟩
def z1h:Te:=⟨4,"least_round",8,2,["rising","turn","there","back"],z0I⟩
def z1g:Te:=⟨1,"rising_places",27,1,["places","apart","great","times"],z1l⟩
def z1X:Te:=⟨5,"area_of",28,1,["places"],z14⟩
def z15:Te:=⟨5,"least_headings",9,1,["wind"],z19⟩
def z1G:Te:=⟨3,"steps_round",19,2,["corners","step_between","behind"],z0Z⟩
def z1I:Te:=⟨2,"place_added",23,2,["one","other","shared","one_times","other_times","x","y","rest"],z1P⟩
def z1H:Te:=⟨3,"place_moved",34,2,["place","vector"],z0H⟩
def z2e:Te:=⟨2,"goes_first",20,2,["one","other","one_rises","other_rises"],z1A⟩
def z0X:Te:=⟨6,"area_spread",38,2,["area","wind","headings","steps","others","corner","heading","spread"],z0f⟩
def z16:Te:=⟨2,"_law_bearing_by",60,1,["cell","rest","bearing"],z0r⟩
def z48:Te:=⟨2,"lowest",16,2,["top","bottom","divisor"],z6e⟩
def z4k:Te:=⟨3,"along",24,2,["bearing","place"],z3S⟩
def z2U:Te:=⟨1,"right_of",5,1,["step"],z31⟩
def z17:Te:=⟨3,"bearings_round",10,2,["corners","step_between","found","number","corner","step"],z1b⟩
def z2f:Te:=⟨4,"area_sides",30,1,["area"],z2j⟩
def z49:Te:=⟨1,"dot_of",3,2,["one","other"],z4f⟩
def z2w:Te:=⟨2,"beyond_by",31,3,["place","bearing","most"],z1s⟩
def z1t:Te:=⟨2,"lowest_place",22,3,["x","y","bottom","divisor"],z1v⟩
def z1N:Te:=⟨3,"crossing_of",35,4,["one","one_beyond","other","other_beyond","x","y"],z11⟩
def z2a:Te:=⟨4,"places_cut",36,3,["corners","bearing","most","left","number","ahead","corner","ahead_beyond","beyond"],z2i⟩
def z1O:Te:=⟨6,"area_shared",37,2,["one","other","corners","bearing","most"],z1m⟩
def z1R:Te:=⟨1,"_law_step",51,2,["one","other"],z0a⟩
def z2d:Te:=⟨2,"_law_before",56,2,["one","other","step"],z0S⟩
def z2o:Te:=⟨1,"_law_turn",52,2,["one","other"],z0t⟩
def z2L:Te:=⟨1,"_law_dot",53,2,["one","other"],z0B⟩
def z1x:Te:=⟨2,"_law_within",54,2,["corners","place","k","side"],z0k⟩
def z2s:Te:=⟨1,"_law_whole",41,1,["found"],z10⟩
def z2t:Te:=⟨3,"_law_place",55,1,["found"],z0A⟩
def z1K:Te:=⟨4,"_law_corners",57,1,["found","k","side"],z0J⟩
def z2b:Te:=⟨7,"_law_spread",63,3,["area","places","wind","found","sums","place","heading","x","corner"],z0Q⟩
def z0P:Te:=⟨2,"_law_bearing_free",61,2,["cell","most","size","rest","bearing"],z0l⟩
def z2v:Te:=⟨1,"is_before",17,2,["one","other"],z2D⟩
def z1i:Te:=⟨4,"area_farthest",33,2,["area","bearing","most","corner","far"],z0V⟩
def z3m:Te:=⟨7,"_law_far",64,3,["area","wind","bearing","far","own","found"],z0U⟩
def z2u:Te:=⟨6,"is_within",32,2,["area","place"],z21⟩
def zfM:Te:=⟨8,"law",65,1,["script","first","free","cells","half","places","wind","area","back","drawn","cell","bearing","place","shared"],z4A⟩
section
variable {G:Gx}{f:Addr}{fd:FuncData}(T:Txt G.K G.mg)
include T
theorem z4U (F:Fu G z1L f fd):Ft G z1L f fd:=by walk_at "f"
theorem z7K (F:Fu G z2p f fd):Ft G z2p f fd:=by walk_at "f"
theorem z6U (F:Fu G z1r f fd):Ft G z1r f fd:=by walk_at "f"
theorem z4S (F:Fu G z1J f fd):Ft G z1J f fd:=by walk_at "f"
theorem z5W (F:Fu G z0E f fd)(_:Cf G z0p z1J):Ft G z0E f fd:=by walk_at "f"
theorem z3M (F:Fu G z0M f fd)(_:Cf G z03 z0E)(_:Cf G z0n z2p)(_:Cf G z06 z1r):Ft G z0M f fd:=by walk_at "f"
theorem z6T (F:Fu G z1q f fd):Ft G z1q f fd:=by walk_at "f"
theorem z4V (F:Fu G z1M f fd)(_:Cf G z03 z0E):Ft G z1M f fd:=by walk_at "f"
theorem z4s (F:Fu G z12 f fd)(_:Cf G z03 z0E)(_:Cf G z0d z1q)(_:Cf G z0L z1M):Ft G z12 f fd:=by walk_at "f"
theorem z5V (F:Fu G z2c f fd)(_:Cf G z0h z12)(_:Cf G z0e z0M):Ft G z2c f fd:=by walk_at "f"
theorem z7H (F:Fu G z2V f fd)(_:Cf G z0d z1q)(_:Cf G z06 z1r):Ft G z2V f fd:=by walk_at "f"
theorem z8Z (F:Fu G z2J f fd):Ft G z2J f fd:=by walk_at "f"
theorem z91 (F:Fu G z2K f fd):Ft G z2K f fd:=by walk_at "f"
theorem z90 (F:Fu G z3l f fd)(_:Cf G z2q z2J)(_:Cf G z1z z2K):Ft G z3l f fd:=by walk_at "f"
theorem z5Q (F:Fu G z29 f fd):Ft G z29 f fd:=by walk_at "f"
theorem z3O (F:Fu G z0m f fd):Ft G z0m f fd:=by walk_at "f"
theorem z5R (F:Fu G z1w f fd)(_:Cf G z07 z0m):Ft G z1w f fd:=by walk_at "f"
theorem z7L (F:Fu G z2W f fd)(tb:FTab G.P G.w G.K G.mg G.base (CXe G.P G.w) 2 z7P):Ft G z2W f fd:=by walk_at "f"
theorem z4R (F:Fu G z1h f fd)(_:Cf G z1S z2W):Ft G z1h f fd:=by walk_at "f"
theorem z45 (F:Fu G z1g f fd):Ft G z1g f fd:=by walk_at "fl"
theorem z94 (F:Fu G z1X f fd)(_:Cf G z0I z1h)(_:Cf G z1y z29)(_:Cf G z1l z1g):Ft G z1X f fd:=by walk_at "f"
theorem z3L (F:Fu G z15 f fd)(_:Cf G z2Q z3l)(_:Cf G z0I z1h):Ft G z15 f fd:=by walk_at "f"
theorem z4O (F:Fu G z1G f fd)(tb:FTab G.P G.w G.K G.mg G.base (CXe G.P G.w) 2 z7P):Ft G z1G f fd:=by walk_at "f"
theorem z4Q (F:Fu G z1I f fd)(_:Cf G z07 z0m):Ft G z1I f fd:=by walk_at "f"
theorem z4P (F:Fu G z1H f fd)(_:Cf G z1P z1I):Ft G z1H f fd:=by walk_at "f"
theorem z5Y (F:Fu G z2e f fd)(_:Cf G z2q z2J):Ft G z2e f fd:=by walk_at "f"
theorem z4X (F:Fu G z0X f fd)(_:Cf G z1z z2K)(_:Cf G z19 z15)(_:Cf G z0Z z1G)(_:Cf G z1A z2e)(_:Cf G z14 z1X)(_:Cf G z0T z1w)(_:Cf G z0H z1H):Ft G z0X f fd:=by walk_at "f"
theorem z3N (F:Fu G z16 f fd)(_:Cf G z0d z1q):Ft G z16 f fd:=by walk_at "f"
theorem zat (F:Fu G z48 f fd)(_:Cf G z07 z0m):Ft G z48 f fd:=by walk_at "f"
theorem zcB (F:Fu G z4k f fd)(_:Cf G z6e z48):Ft G z4k f fd:=by walk_at "f"
theorem z7G (F:Fu G z2U f fd):Ft G z2U f fd:=by walk_at "f"
theorem z3P (F:Fu G z17 f fd)(_:Cf G z31 z2U)(tb:FTab G.P G.w G.K G.mg G.base (CXe G.P G.w) 2 z7P):Ft G z17 f fd:=by walk_at "f"
theorem z5Z (F:Fu G z2f f fd)(_:Cf G z1b z17)(_:Cf G z3S z4k)(_:Cf G z0T z1w):Ft G z2f f fd:=by walk_at "f"
theorem zau (F:Fu G z49 f fd):Ft G z49 f fd:=by walk_at "f"
theorem z6X (F:Fu G z2w f fd)(_:Cf G z4f z49):Ft G z2w f fd:=by walk_at "f"
theorem z4r (F:Fu G z1t f fd)(_:Cf G z07 z0m):Ft G z1t f fd:=by walk_at "f"
theorem z4W (F:Fu G z1N f fd)(_:Cf G z1v z1t):Ft G z1N f fd:=by walk_at "f"
theorem z5S (F:Fu G z2a f fd)(_:Cf G z1s z2w)(_:Cf G z11 z1N):Ft G z2a f fd:=by walk_at "f"
theorem z4Y (F:Fu G z1O f fd)(_:Cf G z14 z1X)(_:Cf G z2j z2f)(_:Cf G z2i z2a):Ft G z1O f fd:=by walk_at "f"
theorem z7J (F:Fu G z1R f fd):Ft G z1R f fd:=by walk_at "f"
theorem z5X (F:Fu G z2d f fd)(_:Cf G z0a z1R):Ft G z2d f fd:=by walk_at "f"
theorem z7I (F:Fu G z2o f fd):Ft G z2o f fd:=by walk_at "f"
theorem z93 (F:Fu G z2L f fd):Ft G z2L f fd:=by walk_at "f"
theorem z5T (F:Fu G z1x f fd)(_:Cf G z0a z1R)(_:Cf G z0t z2o)(_:Cf G z0B z2L):Ft G z1x f fd:=by walk_at "f"
theorem z6R (F:Fu G z2s f fd):Ft G z2s f fd:=by walk_at "f"
theorem z6S (F:Fu G z2t f fd)(_:Cf G z10 z2s)(_:Cf G z03 z0E):Ft G z2t f fd:=by walk_at "f"
theorem z4T (F:Fu G z1K f fd)(_:Cf G z0a z1R)(_:Cf G z0t z2o)(_:Cf G z0k z1x)(_:Cf G z0A z2t)(_:Cf G z0S z2d):Ft G z1K f fd:=by walk_at "f"
theorem z5U (F:Fu G z2b f fd)(_:Cf G z0f z0X)(_:Cf G z03 z0E)(_:Cf G z0k z1x)(_:Cf G z0J z1K):Ft G z2b f fd:=by walk_at "f"
theorem z3e (F:Fu G z0P f fd)(_:Cf G z0n z2p)(_:Cf G z06 z1r):Ft G z0P f fd:=by walk_at "f"
theorem z6W (F:Fu G z2v f fd):Ft G z2v f fd:=by walk_at "f"
theorem z46 (F:Fu G z1i f fd)(_:Cf G z2D z2v)(_:Cf G z3S z4k):Ft G z1i f fd:=by walk_at "f"
theorem z92 (F:Fu G z3m f fd)(_:Cf G z0V z1i)(_:Cf G z0f z0X)(_:Cf G z0B z2L):Ft G z3m f fd:=by walk_at "f"
theorem z6V (F:Fu G z2u f fd)(_:Cf G z14 z1X):Ft G z2u f fd:=by walk_at "f"
theorem zhm (F:Fu G zfM f fd)(_:Cf G z14 z1X)(_:Cf G z21 z2u)(_:Cf G z1m z1O)(_:Cf G z0f z0X)(_:Cf G z0K z1L)(_:Cf G z0h z12)(_:Cf G z0e z0M)(_:Cf G z0R z2c)(_:Cf G z0r z16)(_:Cf G z0l z0P)(_:Cf G z1a z2V)(_:Cf G z0Q z2b)(_:Cf G z0U z3m):Ft G zfM f fd:=by walk_at "f"
end
def zil {l:W.OpenLaw}{w:World}{K:W.Frag}{h:Heap}{mg:WmP}{fa f0 f1 f2 f3 f4 f5 f6 f7 f8 f9 f10 f11 f12 f13 f14 f15 f16 f17 f18 f19 f20 f21 f22 f23 f24 f25 f26 f27 f28 f29 f30 f31 f32 f33 f34 f35 f36 f37 f38 f39 f40 f41 f42 f43 f44 f45 f46 f47 f48 f49 f50 f51 f52 f53:Addr}(X:K.In h)(G:h.Ns mainGlobals mg)(hfa:mg "law"=some (.ref fa))
  (d0:Std K "_law_cell_at" (top 40) f0)
  (d1:Std K "_law_size" (top 47) f1)
  (d2:Std K "_law_digit" (top 48) f2)
  (d3:Std K "_law_measure" (top 42) f3)
  (d4:Std K "_law_lowest" (top 43) f4)
  (d5:Std K "_law_place_free" (top 49) f5)
  (d6:Std K "_law_mixed" (top 44) f6)
  (d7:Std K "_law_between" (top 45) f7)
  (d8:Std K "_law_place_by" (top 46) f8)
  (d9:Std K "_law_places" (top 50) f9)
  (d10:Std K "_law_wind" (top 62) f10)
  (d11:Std K "turn_of" (top 2) f11)
  (d12:Std K "step_of" (top 4) f12)
  (d13:Std K "turn_by" (top 6) f13)
  (d14:Std K "turn_among" (top 26) f14)
  (d15:Std K "common_divisor" (top 15) f15)
  (d16:Std K "step_among" (top 29) f16)
  (d17:Std K "chain_of" (top 7) f17)
  (d18:Std K "least_round" (top 8) f18)
  (d19:Std K "rising_places" (top 27) f19)
  (d20:Std K "area_of" (top 28) f20)
  (d21:Std K "least_headings" (top 9) f21)
  (d22:Std K "steps_round" (top 19) f22)
  (d23:Std K "place_added" (top 23) f23)
  (d24:Std K "place_moved" (top 34) f24)
  (d25:Std K "goes_first" (top 20) f25)
  (d26:Std K "area_spread" (top 38) f26)
  (d27:Std K "_law_bearing_by" (top 60) f27)
  (d28:Std K "lowest" (top 16) f28)
  (d29:Std K "along" (top 24) f29)
  (d30:Std K "right_of" (top 5) f30)
  (d31:Std K "bearings_round" (top 10) f31)
  (d32:Std K "area_sides" (top 30) f32)
  (d33:Std K "dot_of" (top 3) f33)
  (d34:Std K "beyond_by" (top 31) f34)
  (d35:Std K "lowest_place" (top 22) f35)
  (d36:Std K "crossing_of" (top 35) f36)
  (d37:Std K "places_cut" (top 36) f37)
  (d38:Std K "area_shared" (top 37) f38)
  (d39:Std K "_law_step" (top 51) f39)
  (d40:Std K "_law_before" (top 56) f40)
  (d41:Std K "_law_turn" (top 52) f41)
  (d42:Std K "_law_dot" (top 53) f42)
  (d43:Std K "_law_within" (top 54) f43)
  (d44:Std K "_law_whole" (top 41) f44)
  (d45:Std K "_law_place" (top 55) f45)
  (d46:Std K "_law_corners" (top 57) f46)
  (d47:Std K "_law_spread" (top 63) f47)
  (d48:Std K "_law_bearing_free" (top 61) f48)
  (d49:Std K "is_before" (top 17) f49)
  (d50:Std K "area_farthest" (top 33) f50)
  (d51:Std K "_law_far" (top 64) f51)
  (d52:Std K "is_within" (top 32) f52)
  (d53:Std K "law" (top 65) f53)
  (zb:∀b∈BL,W.nsIn K mainGlobals b=some none)
  (z_fn:W.nsIn K mainGlobals ""=some none)
  {ya_EVERY_WAY:Addr}(y_EVERY_WAY:W.nsIn K mainGlobals "EVERY_WAY"=some (some (.ref ya_EVERY_WAY))) (yy_EVERY_WAY:z75 K z2C (.ref ya_EVERY_WAY)=true)
  (hlam:z5n K=true)
  : ∃fd:FuncData,(∀(s:Shared) (v:Value),BindsTo s fd ⟨[v],[]⟩ [("script",v)])/\∀base:Heap,K.In base->base.Ns mainGlobals mg->FnOk l.prog w K mg base (CXe l.prog w) 8 fa fd ["script"] (spL K):=by
 have T:Txt K mg:=⟨λb hb=>W.mg_none_of X G (zb b hb),⟨_,W.mg_of X G y_EVERY_WAY,yy_EVERY_WAY⟩,hlam⟩
 refine zfJ X G d53 hfa (λ_ _ _ _ _ _ s v =>.of_eq rfl) λbase kb nb fd F =>?_;have ct := @zjL K h mg base l.prog w X G;have q0:=ct z1L d0 λ_ F=>z4U T F;have q1:=ct z2p d1 λ_ F=>z7K T F;have q3:=ct z1r d2 λ_ F=>z6U T F;have q4:=ct z1J d3 λ_ F=>z4S T F;have q5:=ct z0E d4 λ_ F=>z5W T F q4;have q6:=ct z0M d5 λ_ F=>z3M T F q5 q1 q3;have q7:=ct z1q d6 λ_ F=>z6T T F;have q8:=ct z1M d7 λ_ F=>z4V T F q5;have q9:=ct z12 d8 λ_ F=>z4s T F q5 q7 q8;have qa:=ct z2c d9 λ_ F=>z5V T F q9 q6;have qb:=ct z2V d10 λ_ F=>z7H T F q7 q3;have qc:=ct z2J d11 λ_ F=>z8Z T F;have qd:=ct z2K d12 λ_ F=>z91 T F;have qe:=ct z3l d13 λ_ F=>z90 T F qc qd;have qf:=ct z29 d14 λ_ F=>z5Q T F;have qg:=ct z0m d15 λ_ F=>z3O T F;have qh:=ct z1w d16 λ_ F=>z5R T F qg;have FT:FTab l.prog w K mg base (CXe l.prog w) 2 z7P:=FTab.mk (W.mg_none_of X G z_fn) λn hn f e=>by
  match n,hn with
  | 0,_=>exact qe.c.tab (by decide) f e
  | 1,_=>exact qf.c.tab (by decide) f e
  | 2,_=>exact qd.c.tab (by decide) f e
  | 3,_=>exact qh.c.tab (by decide) f e
 have qi:=ct z2W d17 λ_ F=>z7L T F FT;have qj:=ct z1h d18 λ_ F=>z4R T F qi;have qk:=ct z1g d19 λ_ F=>z45 T F;have ql:=ct z1X d20 λ_ F=>z94 T F qj qf qk;have qm:=ct z15 d21 λ_ F=>z3L T F qe qj;have qn:=ct z1G d22 λ_ F=>z4O T F FT;have qo:=ct z1I d23 λ_ F=>z4Q T F qg;have qp:=ct z1H d24 λ_ F=>z4P T F qo;have qq:=ct z2e d25 λ_ F=>z5Y T F qc;have qr:=ct z0X d26 λ_ F=>z4X T F qd qm qn qq ql qh qp;have qs:=ct z16 d27 λ_ F=>z3N T F q7;have qt:=ct z48 d28 λ_ F=>zat T F qg;have qu:=ct z4k d29 λ_ F=>zcB T F qt;have qw:=ct z2U d30 λ_ F=>z7G T F;have qy:=ct z17 d31 λ_ F=>z3P T F qw FT;have qz:=ct z2f d32 λ_ F=>z5Z T F qy qu qh;have qA:=ct z49 d33 λ_ F=>zau T F;have qB:=ct z2w d34 λ_ F=>z6X T F qA;have qC:=ct z1t d35 λ_ F=>z4r T F qg;have qD:=ct z1N d36 λ_ F=>z4W T F qC;have qE:=ct z2a d37 λ_ F=>z5S T F qB qD;have qF:=ct z1O d38 λ_ F=>z4Y T F ql qz qE;have qG:=ct z1R d39 λ_ F=>z7J T F;have qH:=ct z2d d40 λ_ F=>z5X T F qG;have qI:=ct z2o d41 λ_ F=>z7I T F;have qJ:=ct z2L d42 λ_ F=>z93 T F;have qK:=ct z1x d43 λ_ F=>z5T T F qG qI qJ;have qL:=ct z2s d44 λ_ F=>z6R T F;have qM:=ct z2t d45 λ_ F=>z6S T F qL q5;have qN:=ct z1K d46 λ_ F=>z4T T F qG qI qK qM qH;have qO:=ct z2b d47 λ_ F=>z5U T F qr q5 qK qN;have qP:=ct z0P d48 λ_ F=>z3e T F q1 q3;have qQ:=ct z2v d49 λ_ F=>z6W T F;have qR:=ct z1i d50 λ_ F=>z46 T F qQ qu;have qS:=ct z3m d51 λ_ F=>z92 T F qR qr qJ;have qT:=ct z2u d52 λ_ F=>z6V T F ql;exact zhQ zfe (zhm (G:=⟨l.prog,w,K,mg,base⟩) T F ql qT qF qr q0 q9 q6 qa qs qP qb qO qS)
def walk {l:W.OpenLaw}{q:Program}{loose:List Str}{XP:(Str->Option Value)->Heap->Prop}{YP:World->Heap->Prop}{d:DefRec}{K:Params->W.Frag}(hn:l.most=some 63)(hdf:d.params.defaults=[])
  (hY:∀(w:World) (h:Heap),YP w h->(K w.params).In h) (hT:∀(w:World) (h:Heap),YP w h->∀P t,(tsOf (K w.params)).lookup P=some t->h.get? P=some { cls :=.none,data :=.fields #[] })
  (F:∀(w:World) (mg:WmP) (fa:Addr) (h:Heap),(K w.params).In h->h.Ns mainGlobals mg->mg d.name=some (.ref fa)->
   ∃fd:FuncData,(∀(s:Shared) (u:Value),BindsTo s fd ⟨[u],[]⟩ [("script",u)])/\∀base:Heap,(K w.params).In base->base.Ns mainGlobals mg->FnOk l.prog w (K w.params) mg base (CXe l.prog w) 8 fa fd ["script"] (spL (K w.params))):
  W.WalkO q loose XP YP l.row.toRowW d [] (λf vs=>PySem.call f vs):=
 L2.ze1 (n:=63) (k:=8) (x:="script") (CX:=λw=>(CXe l.prog w)) (sp:=λw=>spL (K w.params)) hn (by decide) hdf ⟨rfl,by decide,by decide⟩ hY hT F (λ_ _ a ns hl hS=>⟨a,ns,rfl,hS,hl,λ_=>rfl⟩) λ_ _ _ _ _ ⟨_,_,_,_,_,_,_,_,_,z⟩=>z
end My
open PySem PySem.W PyProof.Rows
local macro_rules | `(tactic| walk_at "ks") => `(tactic| (refine' Pu.Std.mk ?a ?l ?c ?k;(case a=>k_is);(case l=>k_is);(case c=>k_is);(case k=>k_is)))
set_option maxRecDepth 100000 in
set_option maxHeartbeats 0 in
theorem PySem.Challenge.cw_closehaul_k40_whole_spread_and_drawn_in_holds : PySem.Challenge.rw_closehaul_k40_whole_spread_and_drawn_in.Holds := by
 w_on;o_law;k_head;(case hw=>w_witness2)
 k_fill
 refine My.walk (l:=PySem.Challenge.rw_closehaul_k40_whole_spread_and_drawn_in) rfl rfl (λw h Y=>W.km_in_of Y) (λw h Y=>Pu.ze9 Y (by kernel_rfl)) ?F
 case F=>
  intro w mg fa h KX G hmg;refine' My.zil KX G hmg ?_ ?_ ?_ ?_ ?_ ?_ ?_ ?_ ?_ ?_ ?_ ?_ ?_ ?_ ?_ ?_ ?_ ?_ ?_ ?_ ?_ ?_ ?_ ?_ ?_ ?_ ?_ ?_ ?_ ?_ ?_ ?_ ?_ ?_ ?_ ?_ ?_ ?_ ?_ ?_ ?_ ?_ ?_ ?_ ?_ ?_ ?_ ?_ ?_ ?_ ?_ ?_ ?_ ?_ ?_ ?_ ?_ ?_ ?_
  all_goals first | walk_at "ks" | k_is | kernel_rfl | ((repeat refine List.forall_mem_cons.2 ⟨by k_is,?_⟩);intro _ h;cases h) | skip
