import PyProof.Rows.All
import Wide.All
import OpenK.AllK
import Wide.FinOn
import Lean
import PyProof.EqAt
import PyProof.EqKinds
import PyProof.TupleCall
import PyProof.Rows.SortRuns
import KE.KRevIter
import PyProof.SetRoads
import PyProof.ListNew
import PyProof.Rows.ListMulPlace
import PyProof.ZipIter
import PyProof.Rows.ZipGen
import PyProof.Rows.SumGenD
import PySem.Challenge.RW_closehaul_k22_whole_never_both
namespace PySem.W.Fast
def tw12628975062294448371:=0
def tw5607043910452917220:=0
def tw16911481897346255976:=0
def tw8414603553021389769:=0
def tw8319886731407011978:=0
def tw12250268730284531547:=0
def tw7412874826171601942:=0
def tw2459319482719276237:=0
def tw3490230931364799302:=0
def tw1249468199235571701:=0
def tw1092659845862686595:=0
def tw5718688409817390629:=0
def tw9314695939523849114:=0
def tw5426519624115527706:=0
def tw9980870431442850192:=0
def tw11496545551864916466:=0
def tw2258580523969252713:=0
def tw10624760779754857087:=0
def tw1273476951132242294:=0
def tw762276745771382091:=0
def tw7014058528324132749:=0
def tw3714068243421202297:=0
def tw11716130714820770112:=0
def tw17669137557323488409:=0
def tw12802770473175937112:=0
def tw6101516711373517905:=0
def tw12593684205842633590:=0
def tw12867275745858911032:=0
def tw7207462104350547233:=0
def tw18208607796607896362:=0
def tw1055623314043035772:=0
def tw11895924654029276615:=0
def tw2734686952188077593:=0
def tw4303925846155549811:=0
def tw1647745732257281547:=0
def tw2866666284243329985:=0
def tw18028404889247087833:=0
def tw3034953575604277689:=0
def tw161605975645174753:=0
def tw5093941466279712293:=0
def tw11772532790800565572:=0
def tw12407990857101378655:=0
def tw6018364159050575296:=0
def tw11016060833184788965:=0
def tw15980470178764879448:=0
def tw14562531164824311043:=0
def tw4710457104391319558:=0
def tw17350016465837752499:=0
def tw14934885728828543512:=0
def tw9798758112212286673:=0
def tw15272747519036044281:=0
def tw4911321771731669871:=0
def tw2765630108302423999:=0
def tw3866161619082294737:=0
def tw5556191051761686779:=0
def tw8727403721535110609:=0
def tw451775853460393534:=0
def tw17175803115064900325:=0
def tw9131309333490915315:=0
def tw3235181303231054856:=0
def tw4869415405057119941:=0
def tw601626526070871896:=0
def tw4223280160650418533:=0
def tw5656549544546922213:=0
def tw10047328864979813580:=0
def tw6374077006081350434:=0
def tw9968088789498412838:=0
def tw18226299670129307497:=0
def tw10237126276291771408:=0
def tw8506803729784630097:=0
def tw18040343611738370431:=0
def tw14308636618091762693:=0
def tw11822765094082492856:=0
def tw953786218370995056:=0
def tw9449867992118399455:=0
def tw9527121561801976121:=0
def tw17522535076909270883:=0
def tw14130539469675107398:=0
def tw4693336717774428460:=0
def tw3162802264074041536:=0
def tw9984201748351737583:=0
def tw15558264406985326834:=0
def tw8061841456829876950:=0
def tw6808468948325243172:=0
def tw5049638065923070399:=0
def tw2354646124613436624:=0
def tw2892551037291608063:=0
def tw14325379377793399207:=0
def tw9841243890961981695:=0
def tw4360431375094483986:=0
def tw2286466661645849491:=0
def tw8371508198628957371:=0
def tw408054365102264196:=0
def tw7872387728091633381:=0
def tw15461250382012389595:=0
def tw13911128149250714182:=0
def tw6057744748286013693:=0
def tw17723173044543129213:=0
def tw1445366106005134693:=0
def tw5522590507238701338:=0
def tw11767543512814622960:=0
def tw12189875656329367417:=0
def tw3451570714033136281:=0
def tw936365236071418431:=0
def tw13795656605948173775:=0
def tw11871600941864908708:=0
def tw2819548736687838081:=0
def tw8636322176053668064:=0
def tw7571112192318418641:=0
def tw16047572085187654824:=0
def tw1821404594248303317:=0
def tw12842286078484451730:=0
def tw67668851557055954:=0
def tw7173961952522461462:=0
def tw2812709801286591606:=0
def tw13257384958893286647:=0
def tw3684580950724200584:=0
def tw4674579092372553185:=0
def tw2247051620523244182:=0
def tw5691988681724994347:=0
def tw6657728845298665338:=0
def tw6287800021582389083:=0
def tw2153542082037695403:=0
def tw2449135707038932913:=0
def tw16761648068852813135:=0
def tw12493605271964449028:=0
def tw11903627114623396588:=0
def tw14053397675181477962:=0
def tw8931964827516457265:=0
def tw1918721073218451983:=0
def tw17411483005088637040:=0
def tw5886801289090388360:=0
def tw13649347977156190814:=0
def tw7823076645408695513:=0
def tw7226005317916346313:=0
def tw9672208877525371761:=0
def tw2465108839188993033:=0
def tw4335205390210658438:=0
def tw10392572973134714919:=0
def tw516172755355713210:=0
def tw12900491283805131390:=0
def tw122044343304438529:=0
def tw2104111066684362864:=0
def tw16057728067164655823:=0
def tw14540746333789840947:=0
def tw15479693460188743229:=0
def tw3191376099503217086:=0
def tw4127777945444538644:=0
def tw5477789853069058963:=0
def tw3486473680532687796:=0
def tw8563005964791283706:=0
def tw6226614444257948536:=0
def tw3182078706008512059:=0
def tw1292322626556809369:=0
def tw9822279592837587673:=0
def tw2436269852657127268:=0
def tw2506220256279519604:=0
def tw8961670603973839107:=0
def tw8117941665753859147:=0
def tw7636434945948584216:=0
def tw7006311737711525972:=0
def tw5779889698343018019:=0
def tw3364789281071605015:=0
def tw15953618436401985970:=0
def tw10201187476014029590:=0
def tw9266204428073787014:=0
def tw4705586971151484864:=0
def tw14359052544649229807:=0
def tw12452036583391187291:=0
def tw2864376623065432416:=0
def tw2258815344856465454:=0
def tw1884072025675265099:=0
def tw3790840177702664221:=0
def tw11249547239629877818:=0
def tw5447478746269983387:=0
def tw480694561143676787:=0
def tw9230736989355102985:=0
def tw5950496874565570082:=0
def tw5915570961380569721:=0
def tw3737943192041286759:=0
def tw17527102373166328132:=0
def tw17330790980341770884:=0
def tw13097193916971911429:=0
def tw12180880205063436991:=0
def tw7786499366161568128:=0
def tw8294601404050148130:=0
def tw6433215612400528215:=0
def tw4063867643406066658:=0
def tw204570227459870556:=0
def tw504035904145346127:=0
def tw2937326810342672420:=0
def tw10543071785436677119:=0
def tw865583608171831674:=0
def tw17749754102794117074:=0
def tw17594920995923105521:=0
def tw1703412923756902801:=0
def tw10970242271499085652:=0
def tw10358529194649688993:=0
def tw7407715687743629439:=0
def tw3819198896265570144:=0
def tw3812708665309544152:=0
def tw8831016268824787439:=0
def tw776302262423770276:=0
def tw2352661642648063445:=0
def tw9106911668206258780:=0
def tw3162250313454036519:=0
def tw9300751595288354075:=0
def tw6177825829819385850:=0
def tw5281868298813312929:=0
def tw7496729777198030832:=0
def tw3957664545330708400:=0
def tw15420157107792909003:=0
def tw13460552502908103879:=0
def tw14805371343179365752:=0
def tw12550250695479192328:=0
def tw6766071633039967750:=0
def tw5621478848602807710:=0
def tw9135149769760216060:=0
def tw11338011303701622743:=0
def tw16946787607547263685:=0
def tw7716889648389846760:=0
def tw5812306832188344372:=0
def tw5727966246357734826:=0
def tw6637226603796788584:=0
def tw3782996034726827108:=0
def tw10633320785365967126:=0
def tw5945535664034205483:=0
def tw122195633857348028:=0
def tw9822243824130112445:=0
def tw5477152030482839989:=0
def tw5102554621559229796:=0
def tw16001267290316154340:=0
def tw12964288404090946286:=0
def tw4536970241520039098:=0
def tw9408949701235781094:=0
def tw9081045446213011903:=0
def tw11252395762945295671:=0
def tw1179827004390506754:=0
def tw3238832882321527129:=0
def tw18183190102924900147:=0
def tw17334040510782706410:=0
def tw15253464409604422753:=0
def tw12783909788823805011:=0
def tw12280008606118655613:=0
def tw8946572832749923135:=0
def tw7855861100571043088:=0
def tw5178297257472777722:=0
def tw6792702676399345228:=0
def tw5104409581265762604:=0
def tw12031522069362060969:=0
def tw16516361435806351756:=0
def tw1580976905054537421:=0
def tw5187778945568178177:=0
def tw2057547547925689015:=0
def tw16748841670687596924:=0
def tw9999528841871740615:=0
def tw9846659481552419764:=0
def tw9587009872900928404:=0
def tw9576725744823747189:=0
def tw9553704865573197416:=0
def tw95067986270509260:=0
def tw9384704664520771777:=0
def tw9197594101327835206:=0
def tw9031496663788872074:=0
def tw8958571764836268155:=0
def tw8777832376916040436:=0
def tw863887339699343656:=0
def tw8575167628639574797:=0
def tw8375601073458030526:=0
def tw8345725567602790475:=0
def tw8292590640282019071:=0
def tw820879309579298684:=0
def tw8034367060250557367:=0
def tw7574889921011794964:=0
def tw736325785590164134:=0
def tw7180707943104747586:=0
def tw6452149924595924411:=0
def tw6399656239048872605:=0
def tw6266909722071938133:=0
def tw6061287208398712848:=0
def tw6027435190923640249:=0
def tw5905968964770783606:=0
def tw5693916998544226126:=0
def tw536187510030774210:=0
def tw5356600705624119706:=0
def tw5337486119312371518:=0
def tw4810112907828325228:=0
def tw4692367649703379879:=0
def tw4603453089075667007:=0
def tw457220711369768526:=0
def tw4324915134779301881:=0
def tw4165018605909140848:=0
def tw4125228156353561758:=0
def tw4118473891193380752:=0
def tw4067304269396580188:=0
def tw3729076864537006692:=0
def tw366749593426232281:=0
def tw337448640628690149:=0
def tw2458451856658399103:=0
def tw2419974692216561427:=0
def tw1952531225947949763:=0
def tw1932753137978368283:=0
def tw1875272701758883746:=0
def tw18437088289116675307:=0
def tw18282941336526284963:=0
def tw18266814245657106389:=0
def tw18131239513648841109:=0
def tw1786517306235583693:=0
def tw17490444093715606716:=0
def tw17172599752237214464:=0
def tw17109495356366456328:=0
def tw16996139687769882744:=0
def tw16827601298909464194:=0
def tw16708617767777116357:=0
def tw16571056010133995676:=0
def tw15993100723579960027:=0
def tw15902690032505090565:=0
def tw15657372081409923911:=0
def tw15477081336818499752:=0
def tw14979608759489005995:=0
def tw14936981227816302749:=0
def tw14746340056326412204:=0
def tw144489869955279969:=0
def tw14217203434996551604:=0
def tw13967867141398269554:=0
def tw13888328658882203081:=0
def tw13747895218394413919:=0
def tw13583651050453599438:=0
def tw13548319453411922608:=0
def tw13524500981667791359:=0
def tw1322044372864035405:=0
def tw13193265545818461305:=0
def tw12987017828476470464:=0
def tw12878077158981950479:=0
def tw12849184206761544760:=0
def tw12822121016123510023:=0
def tw12815062972296586570:=0
def tw125468253907754353:=0
def tw12429236547526885083:=0
def tw12319792555256146137:=0
def tw12318678277359889662:=0
def tw12077981774009179777:=0
def tw11899427160161082233:=0
def tw11744230941277985740:=0
def tw1157822655232624278:=0
def tw11481809811237942313:=0
def tw11415497328962946585:=0
def tw11409921284074282929:=0
def tw11214692513174874632:=0
def tw11187557409214735450:=0
def tw10739438699349046370:=0
def tw10630365377415853459:=0
def tw10500174069855030280:=0
end PySem.W.Fast
noncomputable section
set_option Elab.async false
set_option linter.all false
set_option maxRecDepth 100000
namespace L2
open PySem PySem.Spec PyProof.Rows
abbrev Key:=Sum Int Str
def zkT:Key->Value->Bool
 | .inl k,v=>Value.isInt k v
 | .inr x,v=>Value.isStrOf x v
def keyH (w:World):Key->Int
 | .inl k=>hashInt k
 | .inr x=>hashStr w x
def z1A:∀{k:Key}{v:Value},zkT k v=true->(∃i t,k=Sum.inl i/\v=Value.int i t)\/(∃x t,k=Sum.inr x/\v=Value.str x t)
 | .inl i,v,h=>by
  obtain⟨t,e⟩:=Value.isInt_shape (k:=i) (v:=v) h;exact .inl ⟨i,t,rfl,e⟩
 | .inr x,v,h=>by
  obtain⟨t,e⟩:=Value.isStrOf_shape (x:=x) (v:=v) h;exact .inr ⟨x,t,rfl,e⟩
def zkS (a b:Int):decide ((Sum.inl a:Key)=Sum.inl b)=(a == b):=by
 by_cases e:a=b
 ·subst e; simp
 ·have h:¬ (Sum.inl a:Key)=Sum.inl b:=λq=>e (Sum.inl.inj q);rw[decide_eq_false h];exact(beq_eq_false_iff_ne.mpr e).symm
def zkP (a b:Str):decide ((Sum.inr a:Key)=Sum.inr b)=decide (a=b):=by
 by_cases e:a=b
 ·subst e; simp
 ·have h:¬ (Sum.inr a:Key)=Sum.inr b:=λq=>e (Sum.inr.inj q);rw[decide_eq_false h,decide_eq_false e]
def zkR (a:Int)(b:Str):decide ((Sum.inl a:Key)=Sum.inr b)=false:=decide_eq_false (λq=>nomatch q)
def zkQ (a:Str)(b:Int):decide ((Sum.inr a:Key)=Sum.inl b)=false:=decide_eq_false (λq=>nomatch q)
def zeq (prog:Program)(w:World):PySem.KeyKind prog w Key where
 is:=zkT
 hash:=keyH w
 inj:=λv a b ha hb=>by
  rcases z1A ha with ⟨i,t,rfl,rfl⟩ | ⟨x,t,rfl,rfl⟩
  ·rcases z1A hb with ⟨j,u,rfl,e⟩ | ⟨y,u,rfl,e⟩
   ·injection e with e1 _; rw[e1]
   ·exact nomatch e
  ·rcases z1A hb with ⟨j,u,rfl,e⟩ | ⟨y,u,rfl,e⟩
   ·exact nomatch e
   ·injection e with e1 _; rw[e1]
 byValue:=λk v h=>by
  rcases z1A h with ⟨i,t,rfl,rfl⟩ | ⟨x,t,rfl,rfl⟩ <;> rfl
 pyHash:=λhv h=>by
  rcases z1A hv with ⟨i,t,rfl,rfl⟩ | ⟨x,t,rfl,rfl⟩
  ·exact wpAny_pyHash_int h
  ·exact wpAny_pyHash_str h
 eqBool:=λhu hv h=>by
  rcases z1A hu with ⟨i,t,rfl,rfl⟩ | ⟨x,t,rfl,rfl⟩
  ·rcases z1A hv with ⟨j,u,rfl,rfl⟩ | ⟨y,u,rfl,rfl⟩
   ·rw[zkS] at h; exact wpAny_eqBool_int h
   ·rw[zkR] at h; exact SeqAt.EqAt.int_str i t y u _ _ _ _ h
  ·rcases z1A hv with ⟨j,u,rfl,rfl⟩ | ⟨y,u,rfl,rfl⟩
   ·rw[zkQ] at h; exact SeqAt.EqAt.str_int x t j u _ _ _ _ h
   ·rw[zkP] at h; exact wpAny_eqBool_str h
 «strs»:=λk x t v h=>by
  rcases z1A h with ⟨i,u,rfl,e⟩ | ⟨y,u,rfl,e⟩
  ·exact nomatch e
  ·injection e with e1 _
   subst e1
   cases v <;> rfl
inductive V where
 | non | bl (b:Bool) | int (i:Int) | str (x:Str) | byt (b:Array UInt8) | flt (b:UInt64) | ref (a:Addr) | ty (n:String)
 deriving DecidableEq
def RelV:V->Value->Prop
 | .non,u=>u=Value.none
 | .bl b,u=>u=Value.bool b
 | .int i,u=>∃t,u=Value.int i t
 | .str x,u=>∃t,u=Value.str x t
 | .byt b,u=>∃t,u=Value.bytes b t
 | .flt b,u=>∃t,u=Value.float b t
 | .ref a,u=>u=Value.ref a
 | .ty n,u=>u=Value.type n
abbrev Vals:List V->List Value->Prop:=Paired RelV
def Vals.length {xs:List V}{us:List Value}(r:Vals xs us):xs.length=us.length:=Paired.length r
def Vals.get:∀{xs:List V}{us:List Value}{i:Nat}{x:V},Vals xs us->xs[i]? = some x->∃u,us[i]? = some u/\RelV x u
 | _,_,_,_,.nil,e=>by simp at e
 | _,_,0,_,.cons r _,e=>by simp at e; subst e; exact⟨_,rfl,r⟩
 | _,_,i+1,x,.cons _ t,e=>by
  obtain⟨u,h1,h2⟩:=Vals.get (i:=i) (x:=x) t (by simpa using e);exact⟨u,by simpa using h1,h2⟩
def Vals.set {x:V}{u:Value}(r:RelV x u):∀{xs:List V}{us:List Value}(i:Nat),Vals xs us->Vals (xs.set i x) (us.set i u)
 | _,_,_,.nil =>.nil
 | _,_,0,.cons _ t =>.cons r t
 | _,_,i+1,.cons q t =>.cons q (Vals.set r i t)
def Vals.append:∀{xs ys:List V}{us ws:List Value},Vals xs us->Vals ys ws->Vals (xs++ys) (us++ws)
 | _,_,_,_,.nil,s=>s
 | _,_,_,_,.cons r t,s =>.cons r (Vals.append t s)
def Vals.take:∀{xs:List V}{us:List Value}(n:Nat),Vals xs us->Vals (xs.take n) (us.take n)
 | _,_,0,_ =>.nil
 | _,_,_+1,.nil =>.nil
 | _,_,n+1,.cons r t =>.cons r (Vals.take n t)
def Vals.drop:∀{xs:List V}{us:List Value}(n:Nat),Vals xs us->Vals (xs.drop n) (us.drop n)
 | _,_,0,r=>r
 | _,_,_+1,.nil =>.nil
 | _,_,n+1,.cons _ t=>Vals.drop n t
def Vals.none_of:∀{xs:List V}{us:List Value}{i:Nat},Vals xs us->xs[i]? = none->us[i]? = none:=λ{xs us i} r e=>by
 have h1:=r.length;have h2:xs.length<=i:=List.getElem?_eq_none_iff.mp e;exact List.getElem?_eq_none_iff.mpr (by omega)
def RelO:Option V->Option Value->Prop
 | some v,some u=>RelV v u
 | none,none=>True
 | _,_=>False
def KV {κ:Type}:List (κ × V)->List (κ × Value)->Prop:=Paired λ(p:κ × V) (q:κ × Value)=>p.1=q.1/\RelV p.2 q.2
def kV:Key->V
 | .inl i =>.int i
 | .inr x =>.str x
inductive HO where
 | lst (xs:List V)
 | tup (xs:List V)
 | dK (kvs:List (Key × V)) | dT (kvs:List (List Key × V))
 | set (S:Int->Bool) (n:Nat)
 | ins (C dx:Addr) (fs:List (Str × V))
 | own (x:Addr)
 | xd (fs:List (Str × V))
 | met (f x:Addr)
 | rng (lo hi:Int)
 | frz (o:Obj) (u:HO)
 | tbl (ps:Array Value)
 | ext (φ:Heap->Prop)
abbrev Hp:=Addr->Option HO
def upd (H:Hp)(a:Addr)(o:HO):Hp:=λb=>if b=a then some o else H b
def z0A {H:Hp}{a:Addr}{o:HO}:upd H a o a=some o:=by unfold upd; rw[if_pos rfl]
def z0o {H:Hp}{a b:Addr}{o:HO}(h:b≠a):upd H a o b=H b:=by unfold upd; rw[if_neg h]
def z0U {H:Hp}{a b:Addr}{o:HO}(h:H a=some o)(h':H b=none):a≠b:=by
 intro e; subst e; rw[h] at h'; cases h'
def NoD (h:Heap)(a:Addr):Prop:=∃o,h.get? a=some o/\o.dict=none
section
variable (P:Program)(w:World)
def z3C (H:Hp)(h:Heap)(a:Addr):HO->Prop
 | .lst xs=>xs.length<=sizeLine/\∃(its:List Value) (n:Nat),Vals xs its/\h.get? a=some { cls :=.type "list",data :=.seq its.toArray n }
 | .tup xs=>xs.length<=sizeLine/\∃its:List Value,Vals xs its/\IsTup h a its.toArray/\NoD h a
 | .dK kvs=>kvs.length<=sizeLine/\(a == sysModules)=false/\∃vs,KV kvs vs/\h.DictOf (zeq P w) a vs
 | .dT kvs=>kvs.length<=sizeLine/\(a == sysModules)=false/\∃xs:List (List Key × Addr × Value),
   Paired (λ(p:List Key × V) (q:List Key × Addr × Value)=>p.1=q.1/\H q.2.1=some (.tup (p.1.map kV))/\RelV p.2 q.2.2) kvs xs/\
   ∃o es ep,h.get? a=some o/\o.ExactDict/\o.data = .dict es ep/\es.toList=xs.map (entryOfKey (tupleKind (zeq P w)))/\(xs.map (·.1)).Nodup
 | .set S n=>h.SetOf (intKind P w) a S n
 | .ins C dx fs=>H dx=some (.own a)/\fs.length<=1000/\dx≠a/\h.get? a=some (PySem.W.instObj C dx)/\
   ∃mA,h.Ns1 dx mA/\(∀f,RelO (fs.lookup f) (mA f))/\PySem.Within mA (fs.map (·.1))
 | .own _=>∃o,h.get? a=some o
 | .xd fs=>∃mA,h.Ns1 a mA/\∀f,RelO (fs.lookup f) (mA f)
 | .rng lo hi=>∃t u v,h.get? a=some { cls :=.type "range",data :=.fields #[.int lo t,.int hi u,.int 1 v] }
 | .frz o u=>h.get? a=some o/\z3C H h a u
 | .tbl ps=>h.get? a=some { cls :=.none,data :=.fields ps }
 | .met f x=>h.get? a=some (PySem.W.methodObj (.ref f) (.ref x))
 | .ext φ=>φ h/\(∃o,h.get? a=some o)/\∀h1 h2:Heap,φ h1->(∀o,h1.get? a=some o->h2.get? a=some o)->φ h2
def HOk (H:Hp)(h:Heap):Prop:=∀a o,H a=some o->z3C P w H h a o
end
section
variable {P:Program}{w:World}{H H':Hp}{h h':Heap}{a:Addr}{o:HO}
def z3C.lt (x:z3C P w H h a o):a<h.objs.size:=by
 cases o with
 | lst xs=>obtain⟨_,_,_,_,e⟩:=x; exact Heap.lt_size e
 | tup xs=>obtain⟨_,_,_,p,_⟩:=x; exact p.lt
 | dK kvs=>obtain⟨_,_,_,_,o,_,_,e,_⟩:=x; exact Heap.lt_size e
 | dT kvs=>obtain⟨_,_,_,_,o,_,_,e,_⟩:=x; exact Heap.lt_size e
 | set S n=>obtain⟨o,_,_,_,e,_⟩:=x; exact Heap.lt_size e
 | ins C dx fs=>obtain⟨_,_,_,e,_⟩:=x; exact Heap.lt_size e
 | own y=>obtain⟨_,e⟩:=x; exact Heap.lt_size e
 | xd fs=>obtain⟨_,⟨_,_,_,e,_⟩,_⟩:=x; exact Heap.lt_size e
 | rng lo hi=>obtain⟨_,_,_,e⟩:=x; exact Heap.lt_size e
 | frz ob u=>obtain⟨e,_⟩:=x; exact Heap.lt_size e
 | tbl ps=>exact Heap.lt_size (show h.get? a=some _ from x)
 | met f y=>exact Heap.lt_size (show h.get? a=some _ from x)
 | ext φ=>obtain⟨_,⟨_,e⟩,_⟩:=x; exact Heap.lt_size e
def Paired.mapP {α β:Type}{F G:α->β->Prop}:∀{l₁:List α} {l₂:List β},Paired F l₁ l₂->(∀a b,F a b->G a b)->Paired G l₁ l₂
 | _,_,.nil,_ =>.nil
 | _,_,.cons r t,f =>.cons (f _ _ r) (Paired.mapP t f)
def z3C.stay (x:z3C P w H h a o)(k:∀b u,(b=a\/H b=some (.own a))->h.get? b=some u->h'.get? b=some u)
  (ho:∀b,H b=some (.own a)->H' b=some (.own a)) (ht:∀b xs,H b=some (.tup xs)->H' b=some (.tup xs)):z3C P w H' h' a o:=by
 induction o with
 | lst xs=>obtain⟨z,its,n,r,e⟩:=x; exact⟨z,its,n,r,k _ _ (.inl rfl) e⟩
 | tup xs=>obtain⟨z,its,r,⟨ob,e,c⟩,od,ed,cd⟩:=x; exact⟨z,its,r,⟨ob,k _ _ (.inl rfl) e,c⟩,od,k _ _ (.inl rfl) ed,cd⟩
 | dK kvs=>obtain⟨z,y,vs,r,ob,es,ep,e,c⟩:=x; exact⟨z,y,vs,r,ob,es,ep,k _ _ (.inl rfl) e,c⟩
 | dT kvs=>
  obtain⟨z,y,xs,r,ob,es,ep,e,c⟩:=x;exact⟨z,y,xs,Paired.mapP r λp q z=>⟨z.1,ht _ _ z.2.1,z.2.2⟩,ob,es,ep,k _ _ (.inl rfl) e,c⟩
 | set S n=>obtain⟨ob,es,ep,t,e,c⟩:=x; exact⟨ob,es,ep,t,k _ _ (.inl rfl) e,c⟩
 | ins C dx fs=>
  obtain⟨d,z,ne,e,mA,⟨od,es,ep,e2,c⟩,r⟩:=x;exact⟨ho _ d,z,ne,k _ _ (.inl rfl) e,mA,⟨od,es,ep,k _ _ (.inr d) e2,c⟩,r⟩
 | own y=>obtain⟨ob,e⟩:=x; exact⟨ob,k _ _ (.inl rfl) e⟩
 | xd fs=>obtain⟨mA,⟨od,es,ep,e,c⟩,r⟩:=x; exact⟨mA,⟨od,es,ep,k _ _ (.inl rfl) e,c⟩,r⟩
 | rng lo hi=>obtain⟨t,u,v,e⟩:=x; exact⟨t,u,v,k _ _ (.inl rfl) e⟩
 | frz ob u ih=>obtain⟨e,q⟩:=x; exact⟨k _ _ (.inl rfl) e,ih q⟩
 | tbl ps=>
  have e:h.get? a=some { cls :=.none,data :=.fields ps }:=x;show h'.get? a=some { cls :=.none,data :=.fields ps };exact k a _ (.inl rfl) e
 | met f y=>
  have e:h.get? a=some (PySem.W.methodObj (.ref f) (.ref y)):=x;show h'.get? a=some (PySem.W.methodObj (.ref f) (.ref y));exact k a _ (.inl rfl) e
 | ext φ=>obtain⟨p,⟨o,e⟩,st⟩:=x; exact⟨st _ _ p λo q=>k _ _ (.inl rfl) q,⟨o,k _ _ (.inl rfl) e⟩,st⟩
def HOk.lt (x:HOk P w H h)(e:H a=some o):a<h.objs.size:=(x a o e).lt
def HOk.fresh (x:HOk P w H h)(e:h.objs.size<=a):H a=none:=by
 cases q:H a with
 | none=>rfl
 | some u=>exact absurd (Nat.lt_of_lt_of_le (x.lt q) e) (Nat.lt_irrefl _)
def HOk.kept (x:HOk P w H h)(k:∀b u,h.get? b=some u->h'.get? b=some u):HOk P w H h':=λa o e=>
 (x a o e).stay (λb u _ q=>k b u q) (λ_ q=>q) λ_ _ q=>q
def HOk.laid (x:HOk P w H h)(k:∀b u,h.get? b=some u->h'.get? b=some u)(hp:h.objs.size<=a)(new:z3C P w (upd H a o) h' a o):HOk P w (upd H a o) h':=λb u e=>by
 have hn:=x.fresh hp
 by_cases hb:b=a
 ·subst hb; rw[z0A] at e; cases e; exact new
 ·rw[z0o hb] at e;exact(x b u e).stay (λc v _ q=>k c v q) (λc q=>by rw[z0o (z0U q hn)]; exact q) λc xs q=>by rw[z0o (z0U q hn)]; exact q
end
def Rd (H:Hp)(a:Addr)(u:HO):Prop:=H a=some u\/∃o,H a=some (.frz o u)
def Rd.ok {P:Program}{w:World}{H:Hp}{h:Heap}{a:Addr}{u:HO}(r:Rd H a u)(x:HOk P w H h):z3C P w H h a u:=by
 rcases r with r | ⟨o,r⟩
 ·exact x a u r
 ·obtain⟨_,q⟩:=x a _ r;exact q
def Mut:Option HO->Prop
 | some (.lst _)=>True
 | some (.dK _)=>True
 | some (.dT _)=>True
 | some (.set _ _)=>True
 | some (.ins _ _ _)=>True
 | some (.ext _)=>True
 | _=>False
section
variable {P:Program}{w:World}{H:Hp}{h h':Heap}{x e:Addr}{o':HO}
def HOk.write (ok:HOk P w H h)(mu:Mut (H x))(he:e=x\/H e=some (.own x))(k:∀b u,b≠e->h.get? b=some u->h'.get? b=some u)(heo:∃u,h'.get? e=some u)
  (new:z3C P w (upd H x o') h' x o'):HOk P w (upd H x o') h':=λb u q=>by
 have nown:∀c y,H c=some (.own y)->c≠x:=λc y r z=>by subst z; rw[r] at mu; exact mu
 have ntup:∀c xs,H c=some (.tup xs)->c≠x:=λc xs r z=>by subst z; rw[r] at mu; exact mu
 by_cases hb:b=x
 ·subst hb; rw[z0A] at q; cases q; exact new
 ·rw[z0o hb] at q
  by_cases hbe:b=e
  ·have q':H b=some (.own x):=by
    rcases he with z | z
    ·exact absurd (hbe.trans z) hb
    ·rw[hbe]; exact z
   rw[q] at q'; cases q';obtain⟨v,hv⟩:=heo;exact⟨v,by rw[hbe]; exact hv⟩
  ·refine(ok b u q).stay (λc v hc r=>k c v ?_ r) (λc r=>by rw[z0o (nown c b r)]; exact r) λc xs r=>by rw[z0o (ntup c xs r)]; exact r
   rcases hc with rfl | hc
   ·exact hbe
   ·rintro rfl
    rcases he with z | z
    ·exact nown c b hc z
    ·rw[hc] at z; cases z; exact hb rfl
end
structure Un (fs ex:List Addr)(H H':Hp)(h h':Heap):Prop where
 keep:∀b o,h.get? b=some o->H b=none->b ∉ fs->b ∉ ex->h'.get? b=some o
 slot:∀b o,h.get? b=some o->H b=none->b∈fs->b ∉ ex->∃sl,h'.get? b=some { o with slots:=sl }
 free:∀b o,h.get? b=some o->H b=none->b ∉ ex->H' b=none
 there:∀b o,h.get? b=some o->b ∉ ex->∃o',h'.get? b=some o'
 tups:∀b xs,H b=some (.tup xs)->H' b=some (.tup xs)
 frzs:∀b o u,H b=some (.frz o u)->H' b=some (.frz o u)
 tbls:∀b ps,H b=some (.tbl ps)->∃more,H' b=some (.tbl (ps++more))
section
variable {fs fs' ex ex':List Addr}{H H1 H2:Hp}{h h1 h2 h':Heap}{a x e:Addr}{o:HO}
def Un.any (u:Un fs ex H H1 h h1){b:Addr}{ob:Obj}(q:h.get? b=some ob)(n:H b=none)(hx:b ∉ ex):∃sl,h1.get? b=some { ob with slots:=sl }:=by
 by_cases hb:b∈fs
 ·exact u.slot b ob q n hb hx
 ·exact⟨ob.slots,u.keep b ob q n hb hx⟩
def Un.kept (k:∀b u,h.get? b=some u->h'.get? b=some u):Un fs ex H H h h':=
 ⟨λb ob q _ _ _=>k b ob q,λb ob q _ _ _=>⟨ob.slots,k b ob q⟩,λ_ _ _ n _=>n,λb ob q _=>⟨ob,k b ob q⟩,λ_ _ q=>q,λ_ _ _ q=>q,λ_ ps q=>⟨#[],by rw[q]; simp⟩⟩
def Un.refl:Un fs ex H H h h:=Un.kept λ_ _ q=>q
def Un.laid (k:∀b u,h.get? b=some u->h'.get? b=some u)(hp:h.objs.size<=a)(hn:H a=none):Un fs ex H (upd H a o) h h' where
 keep:=λb u q _ _ _=>k b u q
 slot:=λb u q _ _ _=>⟨u.slots,k b u q⟩
 free:=λb u q n _=>by rw[z0o (Nat.ne_of_lt (Nat.lt_of_lt_of_le (Heap.lt_size q) hp))]; exact n
 there:=λb u q _=>⟨u,k b u q⟩
 tups:=λb xs q=>by rw[z0o (z0U q hn)]; exact q
 frzs:=λb u xs q=>by rw[z0o (z0U q hn)]; exact q
 tbls:=λb ps q=>⟨#[],by rw[z0o (z0U q hn),q]; simp⟩
def Un.write (mu:Mut (H x))(he:e=x\/H e=some (.own x))(k:∀b u,b≠e->h.get? b=some u->h'.get? b=some u)(heo:∃u,h'.get? e=some u):Un fs ex H (upd H x o) h h':=by
 have hx:∀b,H b=none->b≠x:=λb n z=>by subst z; rw[n] at mu; exact mu
 have hb:∀b,H b=none->b≠e:=λb n z=>by
  subst z
  rcases he with r | r
  ·exact hx b n r
  ·rw[n] at r; cases r
 have hm:∀b u,H b=some u->¬ Mut (some u)->b≠x:=λb u q nm z=>by subst z; rw[q] at mu; exact nm mu
 refine⟨λb u q n _ _=>k b u (hb b n) q,λb u q n _ _=>⟨u.slots,k b u (hb b n) q⟩,λb u q n _=>by rw[z0o (hx b n)]; exact n,λb u q _ =>?_,
  λb xs q=>by rw[z0o (hm b _ q λz=>z)]; exact q,λb u xs q=>by rw[z0o (hm b _ q λz=>z)]; exact q,λb ps q=>⟨#[],by rw[z0o (hm b _ q λz=>z),q]; simp⟩⟩
 by_cases hbe:b=e
 ·subst hbe; exact heo
 ·exact⟨u,k b u hbe q⟩
end
def trk (h:Heap)(H:Hp):List Addr:=(List.range h.objs.size).filter λa=>(H a).isSome
def hidT (h:Heap)(H:Hp):Heap:=PySem.W.hideAll h (trk h H)
def zeB (h:Heap)(H:Hp):(hidT h H).objs.size=h.objs.size:=PySem.W.hideAll_size _ _
def zge {h:Heap}{H:Hp}{b:Addr}{o:Obj}(e:h.get? b=some o)(n:H b=none):(hidT h H).get? b=some o:=
 PySem.W.hideAll_get _ e λhm=>by
  have q:(H b).isSome=true:=(List.mem_filter.mp hm).2;rw[n] at q; simp at q
def zie {h:Heap}{H:Hp}{b:Addr}{o:Obj}(e:(hidT h H).get? b=some o):h.get? b=some o/\H b=none:=by
 have e':h.get? b=some o:=PySem.W.of_hideAll (trk h H) e;refine⟨e',?_⟩
 cases q:H b with
 | none=>rfl
 | some x=>
  have hm:b∈trk h H:=List.mem_filter.mpr ⟨List.mem_range.mpr (Heap.lt_size e'),by simp[q]⟩;have z:(hidT h H).get? b=none:=PySem.W.hideAll_none (trk h H) hm;rw[z] at e; cases e
def ziI (g h:Heap)(L:Addr):List (Addr × Obj):=(List.range h.objs.size).filterMap λa=>if a=L\/(g.get? a).isSome=true then none else (h.get? a).map λo=>(a,o)
def rest (g h:Heap)(L d:Addr):List (Addr × Obj):=(ziI g h L).filter λp=>decide (p.1≠d)
structure Mod (K:W.Frag)(mg:Str->Option Value)(base:Heap):Prop where
 kin:K.In base
 glob:base.Ns mainGlobals mg
 blt:∃mb,base.Ns builtinsNs mb/\∀x:Str,x≠"__name__"->mb x=bootBuiltins x
 nolimit:base.NoLimit
structure Cx where
 prog:Program
 w:World
 K:W.Frag
 mg:Str->Option Value
 base:Heap
 A:Around
 N:List Str
 s₀:Shared
 H₀:Hp
 env:Env
 outer:List Env
 stack:List Env
 ex:List Addr
 fn:Str->Bool
 calm:Bool
 pn:List (Addr × Obj)
 xe:Value->Shared->Prop
def frs (l:List Env):List Addr:=l.filterMap (·.frame)
abbrev Cx.fs (X:Cx):List Addr:=frs X.outer
def Vis (sc:Scope)(x:Str):Prop:=sc.names.lookup x=some .local\/sc.names.lookup x=some .cell\/sc.names.lookup x=some .free
def Loc (sc:Scope)(x:Str):Prop:=sc.names.lookup x=some .local\/sc.names.lookup x=some .cell
def Look (env:Env)(h:Heap)(m:Str->Option Value)(x:Str)(u:Value):Prop:=
 (env.kindOf x=some .local/\m x=some u)\/((env.kindOf x=some .cell\/env.kindOf x=some .free)/\∃c,env.cells.lookup x=some c/\h.IsCell c (some u))
structure Cx.Ok (X:Cx):Prop where
 mod:Mod X.K X.mg X.base
 kind:X.env.scope.kind = .function
 glob:X.env.globals=mainGlobals
 blt:X.env.builtins=builtinsNs
 above:X.s₀.heap.objs.size<=X.env.locals
 inj:∀x y c,X.env.cells.lookup x=some c->X.env.cells.lookup y=some c->x=y
 has:∀x,(X.env.kindOf x=some .cell\/X.env.kindOf x=some .free)->∃c,X.env.cells.lookup x=some c
 cab:∀x c,X.fn x=true->X.env.cells.lookup x=some c->X.s₀.heap.objs.size<=c
 hd:X.calm=true->X.A.handled=none
 frames:X.A.frames=some X.stack
 stk:X.stack=X.outer\/(X.stack=X.env::X.outer/\X.env.frame=some X.env.locals)
 exf:∀b∈X.ex,b≠X.env.locals/\∀x c,X.env.cells.lookup x=some c->c≠b
 bs:∀b o,X.base.get? b=some o->X.s₀.heap.get? b=some o/\X.H₀ b=none
 bsz:X.base.objs.size<=X.s₀.heap.objs.size
 noex:∀b o,X.base.get? b=some o->b ∉ X.ex
 exfs:∀b∈X.ex,b ∉ X.fs
 funs:X.s₀.heap.FunFrames X.base X.outer
 frf:∀b∈X.fs,X.H₀ b=none
structure Inv (X:Cx)(pins:List (Addr × Obj))(σ:List (Option V))(H:Hp)(s:Shared):Prop where
 ok:X.Ok
 os:s.os=X.s₀.os
 bare:AllBare s.gens
 base:Un X.fs X.ex X.H₀ H X.s₀.heap s.heap
 loc:∃m,s.heap.Ns X.env.locals m/\∀(i:Nat) (x:Str) (v:V),X.N[i]? = some x->σ[i]? = some (some v)->Vis X.env.scope x->∃u,RelV v u/\Look X.env s.heap m x u
 cell:∀x c,X.env.cells.lookup x=some c->∃v,s.heap.IsCell c v
 free:H X.env.locals=none
 freeC:∀x c,X.env.cells.lookup x=some c->H c=none
 pin:∀p∈X.pn++pins,s.heap.get? p.1=some p.2/\H p.1=none/\p.1≠X.env.locals/\p.1 ∉ X.fs/\∀v,p.2.data ≠ .cell v
 hok:HOk X.prog X.w H s.heap
 len:σ.length=X.N.length
section
variable {X:Cx}{pins:List (Addr × Obj)}{σ:List (Option V)}{H H':Hp}{s:Shared}{h':Heap}
def Cx.Ok.nofr (ok:X.Ok){b:Addr}{o:Obj}(e:X.base.get? b=some o):b ∉ X.fs:=λhb=>by
 have:=(ok.funs.mem hb).1;rw[e] at this; cases this
def Inv.bs (I:Inv X pins σ H s):∀b o,X.base.get? b=some o->s.heap.get? b=some o/\H b=none:=λb o e=>
 ⟨I.base.keep b o (I.ok.bs b o e).1 (I.ok.bs b o e).2 (I.ok.nofr e) (I.ok.noex b o e),I.base.free b o (I.ok.bs b o e).1 (I.ok.bs b o e).2 (I.ok.noex b o e)⟩
def Inv.bk (I:Inv X pins σ H s):∀b o,X.base.get? b=some o->s.heap.get? b=some o:=λb o e=>(I.bs b o e).1
def Inv.mod (I:Inv X pins σ H s):Mod X.K X.mg X.base:=I.ok.mod
def Inv.kIn (I:Inv X pins σ H s):X.K.In s.heap:=I.ok.mod.kin.keeps I.bk
def Inv.lt (I:Inv X pins σ H s):X.env.locals<s.heap.objs.size:=let ⟨_,hn,_⟩:=I.loc; hn.lt
def Inv.sz (I:Inv X pins σ H s):X.s₀.heap.objs.size<=s.heap.objs.size:=Nat.le_trans I.ok.above (Nat.le_of_lt I.lt)
def Inv.nofs (I:Inv X pins σ H s){a:Addr}(h:s.heap.objs.size<=a):a ∉ X.fs:=λhb=>by
 obtain⟨_,o,ho,_⟩:=I.ok.funs.mem hb;exact absurd (Nat.lt_of_lt_of_le (Heap.lt_size ho) (Nat.le_trans I.sz h)) (Nat.lt_irrefl _)
def Inv.cne (I:Inv X pins σ H s):∀x c,X.env.cells.lookup x=some c->c≠X.env.locals:=λx c e z=>by
 obtain⟨v,o,ho,hd⟩:=I.cell x c e;obtain⟨m,⟨o',es,ep,ho',hd',_⟩,_⟩:=I.loc;rw[z,ho'] at ho; cases ho; rw[hd'] at hd; cases hd
def Inv.funs (I:Inv X pins σ H s):s.heap.FunFrames X.base X.outer:=by
 have all:∀(l:List Env),(∀b∈frs l,b∈X.fs)->X.s₀.heap.FunFrames X.base l->s.heap.FunFrames X.base l:=by
  intro l
  induction l with
  | nil=>intro _ _; trivial
  | cons env r ih=>
   intro hs hl;obtain⟨hk,⟨L,o,hf,hn,ho,hd⟩,hr⟩:=hl;have hL:L∈X.fs:=hs L (by unfold frs; rw[List.filterMap_cons,hf]; exact List.mem_cons_self);obtain⟨sl,e⟩:=I.base.slot L o ho (I.ok.frf L hL) hL λz=>I.ok.exfs L z hL;exact⟨hk,⟨L,_,hf,hn,e,hd⟩,ih (λb hb=>hs b (by unfold frs; rw[List.filterMap_cons,hf]; exact List.mem_cons_of_mem _ hb)) hr⟩
 exact all X.outer (λ_ hb=>hb) I.ok.funs
def Inv.stack (I:Inv X pins σ H s):s.heap.FunFrames X.base X.stack:=by
 rcases I.ok.stk with e | ⟨e,hf⟩
 ·rw[e]; exact I.funs
 ·rw[e];obtain⟨m,hn,_⟩:=I.loc;refine .cons (by rw[I.ok.kind]; decide) hf hn ?_ I.funs;exact Heap.get?_none_of_le (Nat.le_trans I.ok.bsz I.ok.above)
def Inv.stkSub (I:Inv X pins σ H s):∀b∈frs X.stack,b∈X.env.locals::X.fs:=λb hb=>by
 rcases I.ok.stk with e | ⟨e,hf⟩
 ·rw[e] at hb; exact List.mem_cons_of_mem _ hb
 ·rw[e] at hb;unfold frs at hb;rw[List.filterMap_cons,hf] at hb;exact hb
def Inv.stkFree (I:Inv X pins σ H s):∀b∈frs X.stack,H b=none:=λb hb=>by
 rcases List.mem_cons.mp (I.stkSub b hb) with e | hb
 ·rw[e]; exact I.free
 ·obtain⟨_,o,ho,_⟩:=I.ok.funs.mem hb;exact I.base.free b o ho (I.ok.frf b hb) λz=>I.ok.exfs b z hb
def Inv.step {g':Array GenState}{t':Nat}{d':Drawn}{ch:List Addr}(I:Inv X pins σ H s)
  (hch:∀b∈ch,(b∈X.ex\/X.s₀.heap.objs.size<=b)/\b≠X.env.locals/\(∀x c,X.env.cells.lookup x=some c->c≠b)/\∀p∈X.pn++pins,p.1≠b)
  (keep:∀b o,b≠X.env.locals->b ∉ X.fs->b ∉ ch->s.heap.get? b=some o->H b=none->h'.get? b=some o)
  (slot:∀b o,b≠X.env.locals->b∈X.fs->b ∉ ch->s.heap.get? b=some o->H b=none->∃sl,h'.get? b=some { o with slots:=sl }) (free:∀b o,b ∉ ch->s.heap.get? b=some o->H b=none->H' b=none)
  (there:∀b o,b ∉ ch->s.heap.get? b=some o->∃o',h'.get? b=some o')
  (tups:∀b xs,H b=some (.tup xs)->H' b=some (.tup xs)) (frzs:∀b o u,H b=some (.frz o u)->H' b=some (.frz o u)) (tbls:∀b ps,H b=some (.tbl ps)->∃more,H' b=some (.tbl (ps++more)))
  (ns:∀m,s.heap.Ns X.env.locals m->h'.Ns X.env.locals m) (hok:HOk X.prog X.w H' h') (hg:AllBare g'):
  Inv X pins σ H' { s with heap:=h',gens:=g',drawn:=d',toks:=t' }:=by
 have neL:∀b o,X.s₀.heap.get? b=some o->b≠X.env.locals:=λb o e=>Nat.ne_of_lt (Nat.lt_of_lt_of_le (Heap.lt_size e) I.ok.above);have neC:∀b o,X.s₀.heap.get? b=some o->b ∉ X.ex->b ∉ ch:=λb o e hx hb=>by
  rcases(hch b hb).1 with z | z
  ·exact hx z
  ·exact absurd (Nat.lt_of_lt_of_le (Heap.lt_size e) z) (Nat.lt_irrefl _)
 have cellK:∀x c,X.env.cells.lookup x=some c->∀v,s.heap.IsCell c v->h'.IsCell c v:=λx c e v ⟨o,ho,hd⟩=>by
  have nch:c ∉ ch:=λz=>(hch c z).2.2.1 x c e rfl
  by_cases hc:c∈X.fs
  ·obtain⟨sl,q⟩:=slot c o (I.cne x c e) hc nch ho (I.freeC x c e);exact⟨_,q,hd⟩
  ·exact⟨o,keep c o (I.cne x c e) hc nch ho (I.freeC x c e),hd⟩
 refine⟨I.ok,I.os,hg,⟨λb o e n hb hx =>?_,λb o e n hb hx =>?_,λb o e n hx =>?_,λb o e hx =>?_,λb xs e=>tups b xs (I.base.tups b xs e),λb o xs e=>frzs b o xs (I.base.frzs b o xs e),λb ps e =>?_⟩,?_,λx c e =>?_,?_,λx c e =>?_,λp hp =>?_,hok,I.len⟩
 ·exact keep b o (neL b o e) hb (neC b o e hx) (I.base.keep b o e n hb hx) (I.base.free b o e n hx)
 ·obtain⟨sl,e1⟩:=I.base.slot b o e n hb hx;obtain⟨sl',e2⟩:=slot b _ (neL b o e) hb (neC b o e hx) e1 (I.base.free b o e n hx);exact⟨sl',e2⟩
 ·obtain⟨o',e1⟩:=I.base.there b o e hx;exact free b o' (neC b o e hx) e1 (I.base.free b o e n hx)
 ·obtain⟨o',e1⟩:=I.base.there b o e hx;exact there b o' (neC b o e hx) e1
 ·obtain⟨m1,e1⟩:=I.base.tbls b ps e;obtain⟨m2,e2⟩:=tbls b _ e1;exact⟨m1++m2,by rw[e2,Array.append_assoc]⟩
 ·obtain⟨m,hn,hl⟩:=I.loc;refine⟨m,ns m hn,λi x v e1 e2 e3 =>?_⟩;obtain⟨u,r,l⟩:=hl i x v e1 e2 e3;refine⟨u,r,?_⟩
  rcases l with l | ⟨k,c,e,z⟩
  ·exact .inl l
  ·exact .inr ⟨k,c,e,cellK x c e _ z⟩
 ·obtain⟨v,z⟩:=I.cell x c e;exact⟨v,cellK x c e v z⟩
 ·obtain⟨m,⟨o,_,_,ho,_⟩,_⟩:=I.loc;exact free _ o (λz=>(hch _ z).2.1 rfl) ho I.free
 ·obtain⟨v,o,ho,hd⟩:=I.cell x c e;exact free c o (λz=>(hch c z).2.2.1 x c e rfl) ho (I.freeC x c e)
 ·obtain⟨e,n,ne,nf,d⟩:=I.pin p hp;have nch:p.1 ∉ ch:=λz=>(hch p.1 z).2.2.2 p hp rfl;exact⟨keep p.1 p.2 ne nf nch e n,free p.1 p.2 nch e n,ne,nf,d⟩
def Inv.un {t':Nat}(I:Inv X pins σ H s)(u:Un X.fs [] H H' s.heap h')(hok:HOk X.prog X.w H' h'):Inv X pins σ H' { s with heap:=h',toks:=t' }:=by
 obtain⟨m,⟨o,es,ep,ho,r⟩,_⟩:=id I.loc;obtain⟨sl,hL⟩:=u.any ho I.free (by simp);exact I.step (g':=s.gens) (d':=s.drawn) (ch:=[]) (λ_ z=>nomatch z) (λb o _ hb _ e n=>u.keep b o e n hb (by simp)) (λb o _ hb _ e n=>u.slot b o e n hb (by simp)) (λb o _ e n=>u.free b o e n (by simp)) (λb o _ e=>u.there b o e (by simp)) u.tups u.frzs u.tbls (λm' hm=>by
  obtain⟨o',es',ep',ho',r'⟩:=hm;rw[ho] at ho'; cases ho';exact⟨_,es',ep',hL,r'⟩) hok I.bare
def Inv.call {g':Array GenState}{t':Nat}{d':Drawn}{ch:List Addr}(I:Inv X pins σ H s)(u:Un (frs X.stack) ch H H' s.heap h')(hok:HOk X.prog X.w H' h')(hg:AllBare g')
  (hch:∀b∈ch,(b∈X.ex\/X.s₀.heap.objs.size<=b)/\b≠X.env.locals/\(∀x c,X.env.cells.lookup x=some c->c≠b)/\∀p∈X.pn++pins,p.1≠b):
  Inv X pins σ H' { s with heap:=h',gens:=g',drawn:=d',toks:=t' }:=by
 obtain⟨m,⟨o,es,ep,ho,r⟩,_⟩:=id I.loc;obtain⟨sl,hL⟩:=u.any ho I.free λz=>(hch _ z).2.1 rfl;exact I.step (ch:=ch) hch (λb o hL hb hc e n=>u.keep b o e n (λz=>(List.mem_cons.mp (I.stkSub b z)).elim hL hb) hc) (λb o _ _ hc e n=>u.any e n hc) (λb o hc e n=>u.free b o e n hc) (λb o hc e=>u.there b o e hc) u.tups u.frzs u.tbls (λm' hm=>by
  obtain⟨o',es',ep',ho',r'⟩:=hm;rw[ho] at ho'; cases ho';exact⟨_,es',ep',hL,r'⟩) hok hg
def Inv.turned {t':Nat}{it:Addr}(I:Inv X pins σ H s)(k:∀b o,b≠it->s.heap.get? b=some o->h'.get? b=some o)(hn:H it=none)(hL:it≠X.env.locals)
  (h1:it∈X.ex\/X.s₀.heap.objs.size<=it) (h2:∀x c,X.env.cells.lookup x=some c->c≠it) (h3:∀p∈X.pn++pins,p.1≠it):Inv X pins σ H { s with heap:=h',toks:=t' }:=by
 have nit:∀b u,H b=some u->b≠it:=λb u e z=>by rw[z,hn] at e; cases e
 refine I.step (g':=s.gens) (d':=s.drawn) (ch:=[it]) (λb hb =>?_) (λb o _ _ hc e _=>k b o (λz=>hc (by simp[z])) e) (λb o _ _ hc e _=>⟨o.slots,k b o (λz=>hc (by simp[z])) e⟩) (λ_ _ _ _ n=>n)
  (λb o hc e=>⟨o,k b o (λz=>hc (by simp[z])) e⟩) (λ_ _ e=>e) (λ_ _ _ e=>e) (λb ps e=>⟨#[],by rw[e]; simp⟩) (λm hm =>?_) (λb u e =>?_) I.bare
 ·have e:b=it:=by simpa using hb
  subst e;exact⟨h1,hL,h2,h3⟩
 ·obtain⟨o,es,ep,ho,r⟩:=hm;exact⟨o,es,ep,k _ o (Ne.symm hL) ho,r⟩
 ·refine(I.hok b u e).stay (λc v hc q=>k c v ?_ q) (λ_ q=>q) λ_ _ q=>q
  rcases hc with z | z
  ·rw[z]; exact nit b u e
  ·exact nit c _ z
def Inv.tok (I:Inv X pins σ H s)(t:Nat):Inv X pins σ H { s with toks:=t }:=I.un (h':=s.heap) (t':=t) Un.refl I.hok
def Inv.kept {t':Nat}(I:Inv X pins σ H s)(k:∀b u,s.heap.get? b=some u->h'.get? b=some u):Inv X pins σ H { s with heap:=h',toks:=t' }:=I.un (Un.kept k) (I.hok.kept k)
def Inv.laid {a:Addr}{o:HO}{t':Nat}(I:Inv X pins σ H s)(k:∀b u,s.heap.get? b=some u->h'.get? b=some u)(hp:s.heap.objs.size<=a)(new:z3C X.prog X.w (upd H a o) h' a o):
  Inv X pins σ (upd H a o) { s with heap:=h',toks:=t' }:=I.un (Un.laid k hp (I.hok.fresh hp)) (I.hok.laid k hp new)
def Inv.write {x e:Addr}{o:HO}{t':Nat}(I:Inv X pins σ H s)(mu:Mut (H x))(he:e=x\/H e=some (.own x))(k:∀b u,b≠e->s.heap.get? b=some u->h'.get? b=some u)(heo:∃u,h'.get? e=some u)
  (new:z3C X.prog X.w (upd H x o) h' x o):Inv X pins σ (upd H x o) { s with heap:=h',toks:=t' }:=I.un (Un.write mu he k heo) (I.hok.write mu he k heo new)
def Inv.pins_of {pins':List (Addr × Obj)}(I:Inv X pins σ H s)(h:∀p∈pins',s.heap.get? p.1=some p.2/\H p.1=none/\p.1≠X.env.locals/\p.1 ∉ X.fs/\∀v,p.2.data ≠ .cell v):Inv X pins' σ H s:=
 ⟨I.ok,I.os,I.bare,I.base,I.loc,I.cell,I.free,I.freeC,λp hp=>(List.mem_append.mp hp).elim (λz=>I.pin p (List.mem_append_left _ z)) (h p),I.hok,I.len⟩
def zca {N:List Str}(hN:N.Nodup){i j:Nat}{x:Str}(a:N[i]? = some x)(b:N[j]? = some x):i=j:=by
 obtain⟨h1,e1⟩:=List.getElem?_eq_some_iff.mp a;obtain⟨h2,e2⟩:=List.getElem?_eq_some_iff.mp b;exact(List.getElem_inj hN).mp (e1.trans e2.symm)
def za9 {M:Model}{A:Around}{E:Value->Shared->Prop}{i:Nat}{x:Str}{v:V}{u:Value}{Q:Unit->Shared->Prop}(I:Inv X pins σ H s)(hN:X.N.Nodup)(hi:X.N[i]? = some x)(hx:Loc X.env.scope x)(r:RelV v u)
  (h:∀s',Inv X pins (σ.set i (some v)) H s'->(∃a,Heap.SameBut a s.heap s'.heap/\(a=X.env.locals\/X.env.cells.lookup x=some a))->Q () s') (hf:X.fn x=true\/X.env.scope.names.lookup x=some .local:=by first | exact .inl rfl | exact .inr rfl | assumption):wpAny M A (storeName X.env x u) Q E s:=by
 obtain⟨m,hn,hl⟩:=id I.loc;have hcls:(X.env.scope.kind == .class || (X.env.scope.kind == .module && X.env.locals != X.env.globals))=false:=by rw[I.ok.kind]; rfl
 have hiσ:i < σ.length:=by rw[I.len]; exact(List.getElem?_eq_some_iff.mp hi).1
 have cne:=I.cne;have tracked:∀{a:Addr}{h':Heap},(∃o,s.heap.get? a=some o/\H a=none)->Heap.SameBut a s.heap h'->HOk X.prog X.w H h':=λ{a h'} ha hs b ob e=>by
  obtain⟨_,_,hfree⟩:=ha;refine(I.hok b ob e).stay (λc w' hc q=>(hs.2 c ?_).trans q) (λ_ q=>q) λ_ _ q=>q;rintro rfl
  rcases hc with rfl | hc
  ·rw[hfree] at e; cases e
  ·rw[hfree] at hc; cases hc
 rcases hx with hk | hk
 ·refine wpAny_storeName_local hk hn (λh' hn' hs =>?_) hcls;obtain⟨oL,_,_,hoL,_⟩:=id hn;refine h _ ⟨I.ok,I.os,I.bare,⟨λb o e n hb hx =>?_,λb o e n hb hx =>?_,I.base.free,λb o e hx =>?_,I.base.tups,I.base.frzs,I.base.tbls⟩,⟨_,hn',λj y v' e1 e2 e3 =>?_⟩,λy c e =>?_,I.free,I.freeC,λp hp =>?_,tracked ⟨oL,hoL,I.free⟩ hs,by simpa using I.len⟩ ⟨_,hs,.inl rfl⟩
  ·exact(hs.2 b (Nat.ne_of_lt (Nat.lt_of_lt_of_le (Heap.lt_size e) I.ok.above))).trans (I.base.keep b o e n hb hx)
  ·obtain⟨sl,e1⟩:=I.base.slot b o e n hb hx;exact⟨sl,(hs.2 b (Nat.ne_of_lt (Nat.lt_of_lt_of_le (Heap.lt_size e) I.ok.above))).trans e1⟩
  ·obtain⟨o',e1⟩:=I.base.there b o e hx;exact⟨o',(hs.2 b (Nat.ne_of_lt (Nat.lt_of_lt_of_le (Heap.lt_size e) I.ok.above))).trans e1⟩
  ·by_cases hj:j=i
   ·subst hj;rw[hi] at e1; cases e1;rw[List.getElem?_set_self hiσ] at e2
    cases e2
    exact⟨u,r,.inl ⟨hk,by simp⟩⟩
   ·rw[List.getElem?_set_ne (Ne.symm hj)] at e2;obtain⟨u',r',q⟩:=hl j y v' e1 e2 e3;refine⟨u',r',?_⟩
    rcases q with ⟨k,e⟩ | ⟨k,c,e,z⟩
    ·refine .inl ⟨k,?_⟩;have:y≠x:=λe=>hj (zca hN e1 (e ▸ hi));simp[this,e]
    ·exact .inr ⟨k,c,e,z.sameBut hs (cne y c e)⟩
  ·obtain⟨w',z⟩:=I.cell y c e;exact⟨w',z.sameBut hs (cne y c e)⟩
  ·obtain⟨e,n,ne,nf,d⟩:=I.pin p hp;exact⟨(hs.2 p.1 ne).trans e,n,ne,nf,d⟩
 ·have hfn:X.fn x=true:=by
   rcases hf with z | z
   ·exact z
   ·rw[z] at hk; cases hk
  obtain⟨c,hc⟩:=I.ok.has x (.inl hk);obtain⟨w',z⟩:=I.cell x c hc;refine wpAny_storeName_cell I.ok.kind hk hc z (λh' hc' hs =>?_);obtain⟨oc,hoc,hocd⟩:=id z;refine h { s with heap:=h' } ⟨I.ok,I.os,I.bare,⟨λb o e n hb hx =>?_,λb o e n hb hx =>?_,I.base.free,λb o e hx =>?_,I.base.tups,I.base.frzs,I.base.tbls⟩,⟨m,hn.sameBut hs (Ne.symm (cne x c hc)),λj y v' e1 e2 e3 =>?_⟩,λy c' e =>?_,I.free,I.freeC,λp hp =>?_,tracked ⟨oc,hoc,I.freeC x c hc⟩ hs,by simpa using I.len⟩ ⟨c,hs,.inr hc⟩
  ·exact(hs.2 b (Nat.ne_of_lt (Nat.lt_of_lt_of_le (Heap.lt_size e) (I.ok.cab x c hfn hc)))).trans (I.base.keep b o e n hb hx)
  ·obtain⟨sl,e1⟩:=I.base.slot b o e n hb hx;exact⟨sl,(hs.2 b (Nat.ne_of_lt (Nat.lt_of_lt_of_le (Heap.lt_size e) (I.ok.cab x c hfn hc)))).trans e1⟩
  ·obtain⟨o',e1⟩:=I.base.there b o e hx;exact⟨o',(hs.2 b (Nat.ne_of_lt (Nat.lt_of_lt_of_le (Heap.lt_size e) (I.ok.cab x c hfn hc)))).trans e1⟩
  ·by_cases hj:j=i
   ·subst hj;rw[hi] at e1; cases e1;rw[List.getElem?_set_self hiσ] at e2
    cases e2
    exact⟨u,r,.inr ⟨.inl hk,c,hc,hc'⟩⟩
   ·rw[List.getElem?_set_ne (Ne.symm hj)] at e2;obtain⟨u',r',q⟩:=hl j y v' e1 e2 e3;refine⟨u',r',?_⟩
    rcases q with q | ⟨k,c',e,z'⟩
    ·exact .inl q
    ·refine .inr ⟨k,c',e,z'.sameBut hs ?_⟩;rintro rfl;exact hj (zca hN e1 (I.ok.inj _ _ _ e hc ▸ hi))
  ·by_cases hcc:c'=c
   ·subst hcc; exact⟨_,hc'⟩
   ·obtain⟨w2,z2⟩:=I.cell y c' e;exact⟨w2,z2.sameBut hs hcc⟩
  ·obtain⟨e,n,ne,nf,d⟩:=I.pin p hp;refine⟨(hs.2 p.1 ?_).trans e,n,ne,nf,d⟩;intro q;rw[q,hoc] at e;have q':oc=p.2:=Option.some.inj e;exact d w' (by rw[<- q']; exact hocd)
def z7s {M:Model}{A:Around}{E:Value->Shared->Prop}{i:Nat}{x:Str}{v:V}{u:Value}{Q:Unit->Shared->Prop}(I:Inv X pins σ H s)(hN:X.N.Nodup)(hi:X.N[i]? = some x)(hx:Loc X.env.scope x)(r:RelV v u)
  (h:∀s',Inv X pins (σ.set i (some v)) H s'->Q () s') (hf:X.fn x=true\/X.env.scope.names.lookup x=some .local:=by first | exact .inl rfl | exact .inr rfl | assumption):wpAny M A (storeName X.env x u) Q E s:=
 za9 I hN hi hx r (λs' I' _=>h s' I') hf
def Inv.call' {s':Shared}{ch:List Addr}(I:Inv X pins σ H s)(ho:s'.os=s.os)(u:Un (frs X.stack) ch H H' s.heap s'.heap)(hok:HOk X.prog X.w H' s'.heap)(hg:AllBare s'.gens)
  (hch:∀b∈ch,(b∈X.ex\/X.s₀.heap.objs.size<=b)/\b≠X.env.locals/\(∀x c,X.env.cells.lookup x=some c->c≠b)/\∀p∈X.pn++pins,p.1≠b):Inv X pins σ H' s':=by
 obtain⟨h',g',d',t',o'⟩:=s';have e:o'=s.os:=ho;subst e;exact I.call (g':=g') (t':=t') (d':=d') u hok hg hch
end
abbrev XK:=Value->Option Addr->Hp->Prop
abbrev St:=List (Option V)
abbrev VK:=V->Hp->Prop
abbrev TE:=St->Hp->VK->Prop
abbrev TT:=St->Hp->(Bool->Hp->Prop)->Prop
abbrev TA:=St->Hp->(List V->Hp->Prop)->Prop
structure Ends where
 nx:St->Hp->Prop
 rt:VK
 bk:St->Hp->Prop:=λ_ _=>False
 ct:St->Hp->Prop:=λ_ _=>False
abbrev TS:=Ends->St->Hp->Prop
def EP (X:Cx)(pins:List (Addr × Obj))(σ:St)(Q:VK)(u:Value)(s':Shared):Prop:=∃v H',Inv X pins σ H' s'/\RelV v u/\Q v H'
def TP (X:Cx)(pins:List (Addr × Obj))(σ:St)(Q:Bool->Hp->Prop)(b:Bool)(s':Shared):Prop:=∃H',Inv X pins σ H' s'/\Q b H'
def AP (X:Cx)(pins:List (Addr × Obj))(σ:St)(Q:List V->Hp->Prop)(us:List Value)(s':Shared):Prop:=∃vs H',Inv X pins σ H' s'/\Vals vs us/\Q vs H'
def SP (X:Cx)(pins:List (Addr × Obj))(D:Ends)(f:Flow)(s':Shared):Prop:=
 match f with
 | .next=>∃σ' H',Inv X pins σ' H' s'/\D.nx σ' H'
 | .brk=>∃σ' H',Inv X pins σ' H' s'/\D.bk σ' H'
 | .cont=>∃σ' H',Inv X pins σ' H' s'/\D.ct σ' H'
 | .ret u=>∃v σ' H',Inv X pins σ' H' s'/\RelV v u/\D.rt v H'
def PE (X:Cx)(e:Expr)(t:TE):Prop:=
 ∀(pins:List (Addr × Obj)) (s:Shared) (σ:St) (H:Hp) (Q:VK),Inv X pins σ H s->t σ H Q->wpAny (model X.prog X.w) X.A (eval e X.env) (EP X pins σ Q) X.xe s
def PT (X:Cx)(e:Expr)(t:TT):Prop:=
 ∀(pins:List (Addr × Obj)) (s:Shared) (σ:St) (H:Hp) (Q:Bool->Hp->Prop),Inv X pins σ H s->t σ H Q->wpAny (model X.prog X.w) X.A (isTrue e X.env (eval e X.env)) (TP X pins σ Q) X.xe s
def PW (X:Cx)(e:Expr)(t:TT):Prop:=
 ∀(whole:Sem Value) (pins:List (Addr × Obj)) (s:Shared) (σ:St) (H:Hp) (Q:Bool->Hp->Prop),Inv X pins σ H s->t σ H Q->wpAny (model X.prog X.w) X.A (isTrue e X.env whole) (TP X pins σ Q) X.xe s
def PW.pt {X:Cx}{e:Expr}{t:TT}(h:PW X e t):PT X e t:=h _
def PA (X:Cx)(es:List Expr)(t:TA):Prop:=
 ∀(pos:Pos) (pins:List (Addr × Obj)) (s:Shared) (σ:St) (H:Hp) (Q:List V->Hp->Prop),Inv X pins σ H s->t σ H Q->wpAny (model X.prog X.w) X.A (spliced (backTo pos (starEach es X.env))) (AP X pins σ Q) X.xe s
def PS (X:Cx)(st:Stmt)(t:TS):Prop:=
 ∀(pins:List (Addr × Obj)) (s:Shared) (σ:St) (H:Hp) (D:Ends),Inv X pins σ H s->t D σ H->wpAny (model X.prog X.w) X.A (exec st X.env) (SP X pins D) X.xe s
def PSs (X:Cx)(st:List Stmt)(t:TS):Prop:=
 ∀(pins:List (Addr × Obj)) (s:Shared) (σ:St) (H:Hp) (D:Ends),Inv X pins σ H s->t D σ H->wpAny (model X.prog X.w) X.A (execs st X.env) (SP X pins D) X.xe s
def thn {α:Type}{t:Sem α}{Q Q':α->Shared->Prop}{M:Model}{A:Around}{E:Value->Shared->Prop}{s:Shared}(h:wpAny M A t Q E s)(hQ:∀a s,Q a s->Q' a s):wpAny M A t Q' E s:=wpAny_mono h hQ λ_ _ x=>x
section
variable {X:Cx}
def tVar (i:Nat):TE:=λσ H Q=>∃v,σ[i]? = some (some v)/\Q v H
def tC (v:V):TE:=λ_ H Q=>Q v H
def zgX {i:Nat}{x:Str}{pos:Pos}(hN:X.N[i]? = some x)(hv:Vis X.env.scope x)(hd:(x == ("__debug__":Str))=false:=by decide)(hcd:(x == ("__classdict__":Str))=false:=by decide):PE X (.Name x pos) (tVar i):=by
 intro pins s σ H Q I h;obtain⟨v,e,h⟩:=h;obtain⟨m,hn,hl⟩:=I.loc;obtain⟨u,r,l⟩:=hl i x v hN e hv;have fin:EP X pins σ Q u s:=⟨v,H,I,r,h⟩
 rcases l with ⟨hk,hm⟩ | ⟨hk,c,hc,hcell⟩
 ·exact wpAny_Name (wpAny_loadName_local I.ok.kind hk hn hm fin) hd
 ·rcases hk with hk | hk
  ·exact wpAny_Name (wpAny_loadName_cell I.ok.kind hk hc hcell fin) hd
  ·exact wpAny_Name (wpAny_loadName_free I.ok.kind hk hc hcell fin hcd) hd
def zka {i j pos}:PE X (.Constant (.int i) j pos) (tC (.int i)):=λ_ _ _ H _ I h=>wpAny_Constant_int ⟨.int i,H,I.tok _,⟨_,rfl⟩,h⟩
def zlP {b j pos}:PE X (.Constant (.bool b) j pos) (tC (.bl b)):=λ_ _ _ H _ I h=>Constant_bool ⟨.bl b,H,I,rfl,h⟩
def zk7 {j pos}:PE X (.Constant .none j pos) (tC .non):=λ_ _ _ H _ I h=>Constant_none ⟨.non,H,I,rfl,h⟩
def zk5 {x j pos}:PE X (.Constant (.str x) j pos) (tC (.str x)):=λ_ _ _ H _ I h=>Calls.Constant_str ⟨.str x,H,I.tok _,⟨_,rfl⟩,h⟩
def Gl (X:Cx)(x:Str):Prop:=X.env.kindOf x=some .globalImplicit
def zew {E:Value->Shared->Prop}{pins:List (Addr × Obj)}{s:Shared}{σ:St}{H:Hp}{x:Str}{u:Value}{pos:Pos}{Q:Value->Shared->Prop}(I:Inv X pins σ H s)(hg:Gl X x)(hm:X.mg x=some u)(h:Q u s)
  (hd:(x == ("__debug__":Str))=false:=by decide):wpAny (model X.prog X.w) X.A (eval (.Name x pos) X.env) Q E s:=
 Calls.Name_function_global I.ok.kind hg (Calls.loadGlobal_global (by rw[I.ok.glob]; exact I.mod.glob.keeps I.bk) hm h) hd
def zcb {E:Value->Shared->Prop}{pins:List (Addr × Obj)}{s:Shared}{σ:St}{H:Hp}{x:Str}{u:Value}{pos:Pos}{Q:Value->Shared->Prop}(I:Inv X pins σ H s)(hg:Gl X x)(hm:X.mg x=none)(hv:bootBuiltins x=some u)(h:Q u s)
  (hn:x≠"__name__":=by decide) (hd:(x == ("__debug__":Str))=false:=by decide):wpAny (model X.prog X.w) X.A (eval (.Name x pos) X.env) Q E s:=by
 obtain⟨mb,h1,h2⟩:=I.mod.blt;exact Calls.Name_function_global I.ok.kind hg (Calls.loadGlobal_builtin (by rw[I.ok.glob]; exact I.mod.glob.keeps I.bk) hm (by rw[I.ok.blt]; exact h1.keeps I.bk) ((h2 x hn).trans hv) h) hd
def ze8 {x:Str}{v:V}{u:Value}{pos:Pos}(hg:Gl X x)(hm:X.mg x=some u)(r:RelV v u)(hd:(x == ("__debug__":Str))=false:=by decide):PE X (.Name x pos) (tC v):=
 λ_ _ _ H _ I h=>zew I hg hm ⟨v,H,I,r,h⟩ hd
variable {a b:Expr}{ta tb:TE}{pos:Pos}
def tB (t:TE):TT:=λσ H Q=>t σ H λx H1=>∃c,x = .bl c/\Q c H1
def zjS {e:Expr}{t:TE}(h:PE X e t)(he:∀whole,isTrue e X.env whole=(do let v <- whole; standAt e.pos; holding [v] (truthy v)):=by intro _; rfl):PT X e (tB t):=by
 intro pins s σ H Q I hw;refine isTrue_plain (thn (h pins s σ H _ I hw) λv s1 ⟨x,H1,I1,r1,q1⟩ =>?_) (he _);obtain⟨d,rfl,q⟩:=q1
 cases r1
 exact wpAny_truthy_bool ⟨H1,I1,q⟩
variable {tA tB':TT}{rest:List Expr}
def tAnd (t u:TT):TT:=λσ H Q=>t σ H λc H1=>if c=true then u σ H1 Q else Q false H1
def tOr (t u:TT):TT:=λσ H Q=>t σ H λc H1=>if c=true then Q true H1 else u σ H1 Q
def tNot (t:TT):TT:=λσ H Q=>t σ H λc H1=>Q (!c) H1
def zhP (ha:PT X a tA):PW X (.BoolOp .And [a] pos) tA:=by
 intro wh pins s σ H Q I h;refine isTrue_and (thn (ha pins s σ H Q I h) λc s1 e =>?_)
 cases c with
 | true=>exact isTrue_and_nil e
 | false=>exact e
def zjQ (ha:PT X a tA):PW X (.BoolOp .Or [a] pos) tA:=by
 intro wh pins s σ H Q I h;refine isTrue_or (thn (ha pins s σ H Q I h) λc s1 e =>?_)
 cases c with
 | false=>exact isTrue_or_nil e
 | true=>exact e
def zjR (ha:PT X a tA)(hb:PW X (.BoolOp .And (b::rest) pos) tB'):PW X (.BoolOp .And (a::b::rest) pos) (tAnd tA tB'):=by
 intro wh pins s σ H Q I h;refine isTrue_and (thn (ha pins s σ H _ I h) λc s1 ⟨H1,I1,q1⟩ =>?_)
 cases c with
 | true=>exact hb wh pins s1 σ H1 Q I1 q1
 | false=>exact⟨H1,I1,q1⟩
def zlI (ha:PT X a tA)(hb:PW X (.BoolOp .Or (b::rest) pos) tB'):PW X (.BoolOp .Or (a::b::rest) pos) (tOr tA tB'):=by
 intro wh pins s σ H Q I h;refine isTrue_or (thn (ha pins s σ H _ I h) λc s1 ⟨H1,I1,q1⟩ =>?_)
 cases c with
 | true=>exact⟨H1,I1,q1⟩
 | false=>exact hb wh pins s1 σ H1 Q I1 q1
def zjT (ha:PT X a tA):PT X (.UnaryOp .Not a pos) (tNot tA):=by
 intro pins s σ H Q I h;exact isTrue_not (ha pins s σ H (λc H1=>Q (!c) H1) I h)
def zj7 (ta tb:TE):TE:=λσ H Q=>ta σ H λx H1=>∃c,x = .bl c/\if c=true then tb σ H1 Q else Q (.bl false) H1
def zk6 {op}{t:TE}(h:PE X a t):PE X (.BoolOp op [a] pos) t:=λpins s σ H Q I hw=>BoolOp_one (h pins s σ H Q I hw)
def zkc (ha:PE X a ta)(hb:PE X (.BoolOp .And (b::rest) pos) tb):PE X (.BoolOp .And (a::b::rest) pos) (zj7 ta tb):=by
 intro pins s σ H Q I h;refine BoolOp_and (thn (ha pins s σ H _ I h) λv s1 ⟨x,H1,I1,r1,q1⟩ =>?_);obtain⟨c,rfl,q1⟩:=q1
 cases r1
 refine wpAny_truthy_bool ?_
 cases c with
 | true=>exact hb pins s1 σ H1 Q I1 q1
 | false=>exact⟨.bl false,H1,I1,rfl,q1⟩
end
def SqL (K:W.Frag)(H:Hp)(a:Addr)(xs:List V):Prop:=
 Rd H a (.lst xs)\/
  ∃(o:Obj) (its:Array Value) (n:Nat),K.lookup a=some o/\o.cls = .type "list"/\o.dict=none/\o.data = .seq its n/\its.size<=sizeLine/\Vals xs its.toList
def SqT (K:W.Frag)(H:Hp)(a:Addr)(xs:List V):Prop:=
 Rd H a (.tup xs)\/
  ∃(o:Obj) (its:Array Value) (n:Nat),K.lookup a=some o/\o.cls = .type "tuple"/\o.data = .seq its n/\its.size<=sizeLine/\Vals xs its.toList/\o.dict=none
def absV:Value->Option V
 | .none=>some .non
 | .bool b=>some (.bl b)
 | .int i _=>some (.int i)
 | .str x _=>some (.str x)
 | .bytes b _=>some (.byt b)
 | .float b _=>some (.flt b)
 | .ref a=>some (.ref a)
 | .type n=>some (.ty n)
 | _=>none
def RelV.abs {x:V}{u:Value}(r:RelV x u):absV u=some x:=by
 cases x with
 | non=>cases r; rfl
 | bl _=>cases r; rfl
 | int _=>obtain⟨t,rfl⟩:=r; rfl
 | str _=>obtain⟨t,rfl⟩:=r; rfl
 | byt _=>obtain⟨t,rfl⟩:=r; rfl
 | flt _=>obtain⟨t,rfl⟩:=r; rfl
 | ref _=>cases r; rfl
 | ty _=>cases r; rfl
def RelV.inj {x y:V}{u:Value}(r:RelV x u)(q:RelV y u):x=y:=Option.some.inj (r.abs.symm.trans q.abs)
def Vals.inj:∀{xs ys:List V}{us:List Value},Vals xs us->Vals ys us->xs=ys
 | _,_,_,.nil,.nil=>rfl
 | _,_,_,.cons r t,.cons r' t'=>by rw[r.inj r',Vals.inj t t']
section
variable {X:Cx}{pins:List (Addr × Obj)}{σ:St}{H:Hp}{s:Shared}{a:Addr}{xs ys:List V}
def SqL.of {K:W.Frag}(h:H a=some (.lst xs)):SqL K H a xs :=.inl (.inl h)
def SqT.of {K:W.Frag}(h:H a=some (.tup xs)):SqT K H a xs :=.inl (.inl h)
def Inv.list (I:Inv X pins σ H s)(h:SqL X.K H a xs):∃its:List Value,Vals xs its/\PlainL s.heap a its.toArray/\xs.length<=sizeLine:=by
 rcases h with h | ⟨o,its,n,hk,hc,hd,hs,hz,r⟩
 ·obtain⟨z,its,n,r,e⟩:=h.ok I.hok;exact⟨its,r,⟨_,n,e,rfl,rfl,rfl⟩,z⟩
 ·refine⟨its.toList,r,⟨o,n,I.kIn a o hk,hc,hd,by simpa using hs⟩,?_⟩;have e:=r.length;simp only[Array.length_toList] at e;omega
def Inv.tuple (I:Inv X pins σ H s)(h:SqT X.K H a xs):∃its:List Value,Vals xs its/\IsTup s.heap a its.toArray/\xs.length<=sizeLine:=by
 rcases h with h | ⟨o,its,n,hk,hc,hs,hz,r,_⟩
 ·obtain⟨z,its,r,p,_⟩:=h.ok I.hok;exact⟨its,r,p,z⟩
 ·refine⟨its.toList,r,⟨o,I.kIn a o hk,hc,n,by simpa using hs⟩,?_⟩;have e:=r.length;simp only[Array.length_toList] at e;omega
def Inv.tupNoD (I:Inv X pins σ H s)(h:SqT X.K H a xs):NoD s.heap a:=by
 rcases h with h | ⟨o,its,n,hk,hc,hs,hz,r,hd⟩
 ·exact(h.ok I.hok).2.choose_spec.2.2
 ·exact⟨o,I.kIn a o hk,hd⟩
def Inv.list_inj (I:Inv X pins σ H s)(h:SqL X.K H a xs)(h':SqL X.K H a ys):xs=ys:=by
 obtain⟨its,r,⟨o,n,e,_,_,d⟩,_⟩:=I.list h;obtain⟨its',r',⟨o',n',e',_,_,d'⟩,_⟩:=I.list h';rw[e] at e'; cases e';rw[d] at d'
 injection d' with d1 _
 have:its=its':=by simpa using congrArg Array.toList d1
 subst this;exact r.inj r'
def Inv.tuple_inj (I:Inv X pins σ H s)(h:SqT X.K H a xs)(h':SqT X.K H a ys):xs=ys:=by
 obtain⟨its,r,⟨o,e,_,n,d⟩,_⟩:=I.tuple h;obtain⟨its',r',⟨o',e',_,n',d'⟩,_⟩:=I.tuple h';rw[e] at e'; cases e';rw[d] at d'
 injection d' with d1 _
 have:its=its':=by simpa using congrArg Array.toList d1
 subst this;exact r.inj r'
end
abbrev Cx.wish (X:Cx)(E:Value->Shared->Prop):Cx:={ X with xe:=E }
abbrev Cx.nox (X:Cx):Cx:=X.wish λ_ _=>False
def Cx.Ok.wish {X:Cx}(ok:X.Ok)(E:Value->Shared->Prop):(X.wish E).Ok:=
 ⟨ok.mod,ok.kind,ok.glob,ok.blt,ok.above,ok.inj,ok.has,ok.cab,ok.hd,ok.frames,ok.stk,ok.exf,ok.bs,ok.bsz,ok.noex,ok.exfs,ok.funs,ok.frf⟩
def Cx.Ok.unwish {X:Cx}{E:Value->Shared->Prop}(ok:(X.wish E).Ok):X.Ok:=
 ⟨ok.mod,ok.kind,ok.glob,ok.blt,ok.above,ok.inj,ok.has,ok.cab,ok.hd,ok.frames,ok.stk,ok.exf,ok.bs,ok.bsz,ok.noex,ok.exfs,ok.funs,ok.frf⟩
section
variable {X:Cx}{pins:List (Addr × Obj)}{σ:St}{H:Hp}{s:Shared}{E:Value->Shared->Prop}
def Inv.wish (I:Inv X pins σ H s)(E:Value->Shared->Prop):Inv (X.wish E) pins σ H s:=⟨I.ok.wish E,I.os,I.bare,I.base,I.loc,I.cell,I.free,I.freeC,I.pin,I.hok,I.len⟩
def Inv.unwish (I:Inv (X.wish E) pins σ H s):Inv X pins σ H s:=⟨I.ok.unwish,I.os,I.bare,I.base,I.loc,I.cell,I.free,I.freeC,I.pin,I.hok,I.len⟩
def SP.unwish {D:Ends}{f:Flow}{s':Shared}(h:SP (X.wish E) pins D f s'):SP X pins D f s':=by
 cases f with
 | next=>obtain⟨σ',H',I,q⟩:=h; exact⟨σ',H',I.unwish,q⟩
 | brk=>obtain⟨σ',H',I,q⟩:=h; exact⟨σ',H',I.unwish,q⟩
 | cont=>obtain⟨σ',H',I,q⟩:=h; exact⟨σ',H',I.unwish,q⟩
 | ret u=>obtain⟨v,σ',H',I,r,q⟩:=h; exact⟨v,σ',H',I.unwish,r,q⟩
def PSs.nox {st:List Stmt}{t:TS}(h:PSs X.nox st t):PSs X st t:=λpins s σ H D I hw=>
 wpAny_mono (h pins s σ H D (I.wish _) hw) (λ_ _ q=>q.unwish) λ_ _ z=>False.elim z
end
section
variable {X:Cx}{st:Stmt}{rest:List Stmt}{t u:TS}{e:Expr}{te:TE}{pos:Pos}
def zj3:TS:=λD σ H=>D.nx σ H
def tSeq (t u:TS):TS:=λD σ H=>t { D with nx:=u D } σ H
def zhS:PSs X [] zj3:=λ_ _ σ H _ I h=>wpAny_execs_nil ⟨σ,H,I,h⟩
def zfJ (h1:PS X st t)(h2:PSs X rest u):PSs X (st::rest) (tSeq t u):=by
 intro pins s σ H D I h;refine wpAny_execs_cons (thn (h1 pins s σ H { D with nx:=u D } I h) λf s1 q =>?_)
 cases f with
 | next=>
  obtain⟨σ',H',I',q⟩:=q;exact h2 pins s1 σ' H' D I' q
 | ret v=>exact q
 | brk=>exact q
 | cont=>exact q
def zhR (h1:PS X st t):PSs X [st] t:=by
 intro pins s σ H D I h;refine wpAny_execs_cons (thn (h1 pins s σ H D I h) λf s1 q =>?_)
 cases f with
 | next=>exact wpAny_execs_nil q
 | ret v=>exact q
 | brk=>exact q
 | cont=>exact q
def Inv.quiet {pins:List (Addr × Obj)}{σ:St}{H:Hp}{s:Shared}(I:Inv X pins σ H s):interactive X.env=false:=by simp[interactive,I.ok.kind]
def zj4 (te:TE):TS:=λD σ H=>te σ H λ_ H1=>D.nx σ H1
def zhT (he:PE X e te)(hs:swapsWith e none pos.line X.env=pure false:=by rfl):PS X (.Expr e pos) (zj4 te):=by
 intro pins s σ H D I h;exact wpAny_Expr_any (thn (he pins s σ H _ I h) λv s1 ⟨x,H1,I1,r1,q1⟩=>⟨σ,H1,I1,q1⟩) I.quiet hs
def tRet (te:TE):TS:=λD σ H=>te σ H D.rt
def zjV (he:PE X e te):PS X (.Return (some e) pos) (tRet te):=by
 intro pins s σ H D I h;exact wpAny_Return_some (thn (he pins s σ H _ I h) λv s1 ⟨x,H1,I1,r1,q1⟩=>⟨x,σ,H1,I1,r1,q1⟩)
def tIfS (c:TT)(t u:TS):TS:=λD σ H=>c σ H λb H1=>if b=true then t D σ H1 else u D σ H1
def zlJ {c:Expr}{a b:List Stmt}{tc:TT}(hc:PT X c tc)(ha:PSs X a t)(hb:PSs X b u):PS X (.If c a b pos) (tIfS tc t u):=by
 intro pins s σ H D I h;refine wpAny_If (thn (hc pins s σ H _ I h) λd s1 ⟨H1,I1,q1⟩ =>?_)
 cases d with
 | true=>exact ha pins s1 σ H1 D I1 q1
 | false=>exact hb pins s1 σ H1 D I1 q1
def zgD:TS:=λ_ _ _=>False
def zfL:PS X st zgD:=λ_ _ _ _ _ _ h=>h.elim
end
abbrev TG:=V->St->Hp->(St->Hp->Prop)->Prop
abbrev TGs:=List V->St->Hp->(St->Hp->Prop)->Prop
def PG (X:Cx)(target:Expr)(t:TG):Prop:=
 ∀(pins:List (Addr × Obj)) (s:Shared) (σ:St) (H:Hp) (v:V) (u:Value) (Q:St->Hp->Prop),Inv X pins σ H s->RelV v u->t v σ H Q->
  wpAny (model X.prog X.w) X.A (assign target X.env u) (λ_ s'=>∃σ' H',Inv X pins σ' H' s'/\Q σ' H') X.xe s
def PGs (X:Cx)(ts:List Expr)(t:TGs):Prop:=
 ∀(pins:List (Addr × Obj)) (s:Shared) (σ:St) (H:Hp) (vs:List V) (us:List Value) (Q:St->Hp->Prop),Inv X pins σ H s->Vals vs us->t vs σ H Q->
  wpAny (model X.prog X.w) X.A (assignInOrder ((assignEach ts X.env).map (·.2)) us) (λ_ s'=>∃σ' H',Inv X pins σ' H' s'/\Q σ' H') X.xe s
abbrev TSet:=V->V->V->Hp->(Hp->Prop)->Prop
def PSet (X:Cx)(t:TSet):Prop:=
 ∀(pins:List (Addr × Obj)) (s:Shared) (σ:St) (H:Hp) (o i v:V) (ov iv u:Value) (Q:Hp->Prop),Inv X pins σ H s->RelV o ov->RelV i iv->RelV v u->t o i v H Q->
  wpAny (model X.prog X.w) X.A (setItem ov iv u) (λ_ s'=>∃H',Inv X pins σ H' s'/\Q H') X.xe s
section
variable {X:Cx}{pos:Pos}
def z5l (i:Nat):TG:=λv σ H Q=>Q (σ.set i (some v)) H
def ze5 {i:Nat}{x:Str}(hN:X.N.Nodup)(hi:X.N[i]? = some x)(hx:Loc X.env.scope x)(hf:X.fn x=true\/X.env.scope.names.lookup x=some .local:=by first | exact .inl rfl | exact .inr rfl | assumption):PG X (.Name x pos) (z5l i):=by
 intro pins s σ H v u Q I r h;exact wpAny_assign_Name (z7s I hN hi hx r (λs' I'=>⟨_,H,I',h⟩) hf)
def gNil:TGs:=λvs σ H Q=>vs=[]/\Q σ H
def zd2 (t:TG)(u:TGs):TGs:=λvs σ H Q=>∃v r,vs=v::r/\t v σ H λσ' H'=>u r σ' H' Q
def zhY:PGs X [] gNil:=by
 intro pins s σ H vs us Q I r h;obtain⟨e,h⟩:=h;subst e
 cases r
 exact assignInOrder_nil ⟨σ,H,I,h⟩
def zfO {e:Expr}{es:List Expr}{t:TG}{u:TGs}(h1:PG X e t)(h2:PGs X es u)
  (hs:(assignEach (e::es) X.env).map (·.2)=assign e X.env::(assignEach es X.env).map (·.2):=by rfl):PGs X (e::es) (zd2 t u):=by
 intro pins s σ H vs us Q I r h;obtain⟨v,vr,e1,h⟩:=h;subst e1
 cases r with
 | cons r rr=>
  rw[hs];refine assignInOrder_cons (thn (h1 pins s σ H _ _ _ I r h) λ_ s1 ⟨σ1,H1,I1,q1⟩ =>?_);exact h2 pins s1 σ1 H1 _ _ Q I1 rr q1
def gTup (K:W.Frag)(n:Nat)(t:TGs):TG:=λv σ H Q=>∃a xs,v = .ref a/\SqT K H a xs/\xs.length=n/\t xs σ H Q
def zgW {es:List Expr}{k:Nat}{t:TGs}{n:Nat}(hc:X.calm=true)(h:PGs X es t)
  (hn:(assignEach es X.env).length=n:=by rfl) (hst:(assignEach es X.env).findIdx? (·.1)=none:=by rfl):PG X (.Tuple es k pos) (gTup X.K n t):=by
 intro pins s σ H v u Q I r hw;obtain⟨a,xs,e1,hq,hl,hw⟩:=hw;subst e1
 cases r
 obtain⟨its,rv,ht,hz⟩:=I.tuple hq;refine assign_Tuple_tuple (I.ok.hd hc) ht (by simp[hn, <- hl,rv.length]) hst λh' hx =>?_;have I1:Inv X pins σ H { s with heap:=h' }:=I.kept (t':=s.toks) λb o e=>hx b o (Nat.ne_of_lt (Heap.lt_size e)) e;exact h pins _ σ H xs _ Q I1 (by simpa using rv) hw
def gSub (to ti:TE)(t:TSet):TG:=λv σ H Q=>to σ H λo H1=>ti σ H1 λi H2=>t o i v H2 λH3=>Q σ H3
def zk2 {o i:Expr}{to ti:TE}{t:TSet}(ho:PE X o to)(hi:PE X i ti)(hs:PSet X t)
  (ha:∀v,assign (.Subscript o i pos) X.env v=(do
   let ov <- holding [v] (eval o X.env)
   let iv <- holding [v,ov] (eval i X.env)
   standAt pos
   holding [v,ov,iv] (setItem ov iv v)
   release [v,ov,iv] []):=by intro _; rfl):PG X (.Subscript o i pos) (gSub to ti t):=by
 intro pins s σ H v u Q I r h;rw[ha];refine wpAny_bind (wpAny_holding (thn (ho pins s σ H _ I h) λov s1 ⟨x,H1,I1,r1,q1⟩ =>?_));refine wpAny_bind (wpAny_holding (thn (hi pins s1 σ H1 _ I1 q1) λiv s2 ⟨y,H2,I2,r2,q2⟩ =>?_));refine wpAny_bind (wpAny_standAt (wpAny_bind (wpAny_holding (thn (hs pins s2 σ H2 x y v ov iv u _ I2 r1 r2 r q2) λ_ s3 ⟨H3,I3,q3⟩ =>?_))));exact wpAny_release ⟨σ,H3,I3,q3⟩
def tAsg (te:TE)(g:TG):TS:=λD σ H=>te σ H λx H1=>g x σ H1 D.nx
def zjZ {tg e:Expr}{te:TE}{g:TG}(he:PE X e te)(hg:PG X tg g)(hs:swapsWithSole [tg] e pos.line X.env=pure false:=by rfl)(hw:swappedStores [tg] e X.env=pure none:=by rfl)
  (h1:(assignEach [tg] X.env).map (·.2)=[assign tg X.env]:=by rfl):PS X (.Assign [tg] e pos) (tAsg te g):=by
 intro pins s σ H D I h;refine wpAny_Assign_stores (thn (he pins s σ H _ I h) λv s1 ⟨x,H1,I1,r1,q1⟩ =>?_) hs hw;rw[h1];exact thn (hg pins s1 σ H1 x v _ I1 r1 q1) λ_ s2 q=>q
def zjU {i:Nat}{x:Str}{e:Expr}{te:TE}{pos':Pos}(hN:X.N.Nodup)(hi:X.N[i]? = some x)(hx:Loc X.env.scope x)(he:PE X e te)(hs:swapsWith e (some (.Name x pos')) pos.line X.env=pure false:=by rfl)(hf:X.fn x=true\/X.env.scope.names.lookup x=some .local:=by first | exact .inl rfl | exact .inr rfl | assumption):
  PS X (.Assign [.Name x pos'] e pos) (tAsg te (z5l i)):=by
 intro pins s σ H D I h;refine wpAny_Assign_Name (thn (he pins s σ H _ I h) λv s1 ⟨y,H1,I1,r1,q1⟩ =>?_) hs;exact z7s I1 hN hi hx r1 (λs2 I2=>⟨_,H1,I2,q1⟩) hf
def tPar (i j:Nat)(ta:TA):TS:=λD σ H=>ta σ H λvs H1=>∃v w,vs=[v,w]/\D.nx ((σ.set i (some v)).set j (some w)) H1
def zjW {i j:Nat}{x y:Str}{a b:Expr}{ta:TA}{px py pt:Pos}{kt k2 pt2}(hc:X.calm=true)(hN:X.N.Nodup)(hi:X.N[i]? = some x)(hj:X.N[j]? = some y)(hij:i≠j)
  (hx:X.env.scope.names.lookup x=some .local) (hy:X.env.scope.names.lookup y=some .local) (ha:PA X [a,b] ta)
  (hw:swappedStores [.Tuple [.Name x px,.Name y py] kt pt] (.Tuple [a,b] k2 pt2) X.env=pure (some [x,y]))
  (hs:swapsWithSole [.Tuple [.Name x px,.Name y py] kt pt] (.Tuple [a,b] k2 pt2) pos.line X.env=pure false:=by rfl):
  PS X (.Assign [.Tuple [.Name x px,.Name y py] kt pt] (.Tuple [a,b] k2 pt2) pos) (tPar i j ta):=by
 intro pins s σ H D I h;rw[exec_Assign_arm];refine wpAny_bind (wpAny_standAt ?_);rw[hs];refine wpAny_bind (wpAny_pure ?_);rw[if_neg (by decide)];refine wpAny_bind (Tuple_ (thn (ha _ pins s σ H _ I h) λus s1 ⟨vs,H1,I1,r1,q1⟩ =>?_));obtain⟨v,w,e1,q1⟩:=q1;subst e1;obtain⟨u1,u2,rfl,rv,rw'⟩:∃u1 u2,us=[u1,u2]/\RelV v u1/\RelV w u2:=by
  cases r1 with
  | cons p q=>
   cases q with
   | cons p' q'=>
    cases q'
    exact⟨_,_,rfl,p,p'⟩
 refine wpAny_newObj_type ?_ (by show 2<=sizeLine; decide);have I2:Inv X pins σ H1 { s1 with heap:=s1.heap.push { cls :=.type "tuple",data :=.seq [u1,u2].toArray } }:=I1.kept (t':=s1.toks) λb o e=>Heap.get?_push_of_some _ e;rw[hw];refine wpAny_bind (wpAny_pure ?_);show wpAny (model X.prog X.w) X.A (do rule "assign.swapped-stores"; let items <- unpackItems (.ref s1.heap.objs.size) 2 none; assignInOrder [λv=>bindName X.env y v,λv=>bindName X.env x v] items.reverse; pure Flow.next) _ _ _;refine wpAny_bind (wpAny_rule (wpAny_bind (unpackItems_tuple (items := #[u1,u2]) (I.ok.hd hc) (IsTup.new s1.heap _) λh' hx' =>?_)));have I3:=I2.kept (h':=h') (t':=s1.toks) λb o e=>hx' b o (Nat.ne_of_lt (Heap.lt_size e)) e;show wpAny _ _ (assignInOrder [λv=>bindName X.env y v,λv=>bindName X.env x v] [u2,u1] >>= λ_=>pure Flow.next) _ _ _;refine wpAny_bind (assignInOrder_cons (wpAny_bindName (z7s I3 hN hj (.inl hy) rw' (λs2 I4 =>?_) (.inr hy))));refine assignInOrder_cons (wpAny_bindName (z7s I4 hN hi (.inl hx) rv (λs3 I5=>assignInOrder_nil (wpAny_pure ?_)) (.inr hx)));rw[List.set_comm _ _ (Ne.symm hij)] at I5;exact⟨_,H1,I5,q1⟩
end
section
variable {X:Cx}{pos:Pos}
def zgC (c:TT)(tb:TS):TS:=λD σ H=>∃W:Nat->St->Hp->Prop,(∃m,W m σ H)/\∀m σ H,W m σ H->
 c σ H λb H1=>if b=true then ∃N:St->Hp->Prop,(∀σ' H',N σ' H'->∃m',m'<m/\W m' σ' H')/\tb { D with nx:=N,ct:=N,bk:=D.nx } σ H1 else D.nx σ H1
def zfK {c:Expr}{body:List Stmt}{tc:TT}{tb:TS}(hp:PassesOwn (model X.prog X.w) X.A X.env X.xe)(hc:PT X c tc)(hb:PSs X body tb):PS X (.While c body [] pos) (zgC tc tb):=by
 intro pins s σ H D I h;obtain⟨W,⟨m0,w0⟩,turn⟩:=h;refine wpAny_While (codeAny_whileLoop (λn s'=>∃σ' H',Inv X pins σ' H' s'/\W n σ' H') ?_ m0 ⟨σ,H,I,w0⟩);rintro n s1 ⟨σ1,H1,I1,w1⟩;refine wpAny_passesOwn hp (thn (hc pins s1 σ1 H1 _ I1 (turn n σ1 H1 w1)) λb s2 ⟨H2,I2,q2⟩ =>?_)
 cases b with
 | true=>
  obtain⟨N,hN,q2⟩:=q2;rw[if_pos rfl];refine wpAny_passesOwn hp (thn (hb pins s2 σ1 H2 _ I2 q2) λf s3 q3 =>?_)
  cases f with
  | next=>
   obtain⟨σ3,H3,I3,n3⟩:=q3;obtain⟨m',hm,w3⟩:=hN σ3 H3 n3;exact⟨m',hm,σ3,H3,I3,w3⟩
  | cont=>
   obtain⟨σ3,H3,I3,n3⟩:=q3;obtain⟨m',hm,w3⟩:=hN σ3 H3 n3;exact⟨m',hm,σ3,H3,I3,w3⟩
  | brk=>exact q3
  | ret v=>exact q3
 | false=>
  rw[if_neg Bool.false_ne_true];exact wpAny_execs_nil ⟨σ1,H2,I2,q2⟩
end
structure It where
 go:Nat->Hp->Prop
 yld:Nat->Hp->V->Hp->Prop
 stop:Nat->Hp->Prop
def FpOk (X:Cx)(pins:List (Addr × Obj))(H:Hp)(b:Addr):Prop:=
 H b=none/\b≠X.env.locals/\b ∉ X.fs/\(b∈X.ex\/X.s₀.heap.objs.size<=b)/\(∀x c,X.env.cells.lookup x=some c->c≠b)/\∀p∈X.pn++pins,p.1≠b
def Inv.fpOk {X:Cx}{pins:List (Addr × Obj)}{σ:St}{H H':Hp}{s:Shared}{b:Addr}(I:Inv X pins σ H s)(hb:s.heap.objs.size<=b)(hn:H' b=none):FpOk X pins H' b:=by
 refine⟨hn,Nat.ne_of_gt (Nat.lt_of_lt_of_le I.lt hb),I.nofs hb,.inr (Nat.le_trans I.sz hb),λx c e z =>?_,λp hp z =>?_⟩
 ·obtain⟨v,q⟩:=I.cell x c e;exact absurd (Nat.lt_of_lt_of_le q.lt (by rw[z]; exact hb)) (Nat.lt_irrefl _)
 ·exact absurd (Nat.lt_of_lt_of_le (Heap.lt_size (I.pin p hp).1) (by rw[z]; exact hb)) (Nat.lt_irrefl _)
structure Turn (P:Program)(w:World)(K:W.Frag)(tg:Expr)(J:It)(fp:List Addr)(it:Addr)(tn:Nat->Heap->Prop):Prop where
 mem:it∈fp
 obj:∀i h,tn i h->∀b∈fp,∃o,h.get? b=some o/\∀v,o.data ≠ .cell v
 keep:∀i h h',tn i h->(∀b∈fp,∀o,h.get? b=some o->h'.get? b=some o)->tn i h'
 item:∀(X:Cx),X.prog=P->X.w=w->X.K=K->X.calm=true->∀(i:Nat) (pins:List (Addr × Obj)) (s:Shared) (σ:St) (H:Hp) (E:Value->Shared->Prop),Inv X pins σ H s->(∀b∈fp,FpOk X pins H b)->tn i s.heap->J.go i H->
  wpAny (model P w) X.A (pyNext (.ref it)) (λr s1=>∃u,r=some u/\
   wpAny (model P w) X.A (letOwnedTupleGo tg (.ref it) u) (λ_ s2=>∃x H',Inv X pins σ H' s2/\RelV x u/\J.yld i H x H'/\tn (i+1) s2.heap/\∀b∈fp,H' b=none) E s1) E s
 done:∀(X:Cx),X.prog=P->X.w=w->X.K=K->X.calm=true->∀(i:Nat) (pins:List (Addr × Obj)) (s:Shared) (σ:St) (H:Hp) (E:Value->Shared->Prop),Inv X pins σ H s->(∀b∈fp,FpOk X pins H b)->tn i s.heap->J.stop i H->
  wpAny (model P w) X.A (pyNext (.ref it)) (λr s1=>r=none/\Inv X pins σ H s1) E s
 self:∀(A:Around) (i:Nat) (s:Shared) (Q:Value->Shared->Prop) (E:Value->Shared->Prop),tn i s.heap->Q (.ref it) s->wpAny (model P w) A (pyIter (.ref it)) Q E s
abbrev TI:=St->Hp->(It->Hp->Prop)->Prop
def PIE (X:Cx)(pins:List (Addr × Obj))(σ:St)(tg:Expr)(R:It->Hp->Prop)(itv:Value)(s2:Shared):Prop:=
 ∃(it:Addr) (fp:List Addr) (tn:Nat->Heap->Prop) (J:It) (H':Hp),itv = .ref it/\Inv X pins σ H' s2/\Turn X.prog X.w X.K tg J fp it tn/\tn 0 s2.heap/\(∀b∈fp,FpOk X pins H' b)/\R J H'
def PI (X:Cx)(tg iter:Expr)(wi:TI):Prop:=
 ∀(pins:List (Addr × Obj)) (s:Shared) (σ:St) (H:Hp) (R:It->Hp->Prop),Inv X pins σ H s->wi σ H R->
  wpAny (model X.prog X.w) X.A (eval iter X.env) (λv s1=>wpAny (model X.prog X.w) X.A (pyIter v) (PIE X pins σ tg R) X.xe s1) X.xe s
def zgf {M:Model}{A:Around}{E:Value->Shared->Prop}{s:Shared}{tg:Expr}{it:Addr}{u:Value}{o:Obj}{n:String}{vs:Array Value}{Q:Unit->Shared->Prop}(ho:s.heap.get? it=some o)(hc:o.cls = .type n)(hd:o.data = .fields vs)
  (hn:["enumerate","zip","dict_itemiterator","dict_reverseitemiterator","odict_iterator","itertools.zip_longest","itertools.pairwise"].contains n=false) (hQ:Q () s):wpAny M A (letOwnedTupleGo tg (.ref it) u) Q E s:=by
 unfold letOwnedTupleGo
 cases tg <;> first
  | exact wpAny_pure hQ
  | (cases u <;> first
    | exact wpAny_pure hQ
    | (refine wpAny_bind (wpAny_load ho ?_)
       rw[hc,hd];show wpAny M A (if (["enumerate","zip","dict_itemiterator","dict_reverseitemiterator","odict_iterator","itertools.zip_longest","itertools.pairwise"].contains n && vs[0]? == some (rawInt _))=true then _ else _) Q E s;rw[if_neg (by intro h; rw[hn,Bool.false_and] at h; cases h)];exact wpAny_pure hQ))
def Itl (K:W.Frag)(a:Addr):It:=
 ⟨λi H=>∃xs x,SqL K H a xs/\xs[i]? = some x,λi H x H'=>H'=H/\∀xs,SqL K H a xs->xs[i]? = some x,λi H=>∃xs,SqL K H a xs/\xs.length<=i⟩
def Itt (K:W.Frag)(a:Addr):It:=
 ⟨λi H=>∃xs x,SqT K H a xs/\xs[i]? = some x,λi H x H'=>H'=H/\∀xs,SqT K H a xs->xs[i]? = some x,λi H=>∃xs,SqT K H a xs/\xs.length<=i⟩
def Itr (lo:Int)(n:Nat):It:=⟨λi _=>i<n,λi H x H'=>H'=H/\x = .int (lo+i),λi _=>n<=i⟩
def zdo {P:Program}{w:World}{K:W.Frag}{tg:Expr}(a it:Addr):Turn P w K tg (Itl K a) [it] it (λi h=>h.IsListIter it a i) where
 mem:=by simp
 obj:=λi h st b hb=>by
  have e:b=it:=by simpa using hb
  subst e;obtain⟨o,e,c,d⟩:=st;exact⟨o,e,λv z=>by rw[d] at z; cases z⟩
 keep:=λi h h' st k=>st.at λo e=>k it (by simp) o e
 item:=by
  intro X hP hw hK hc i pins s σ H E I hf st hg;subst hP hw hK;obtain⟨xs,x,hq,hx⟩:=hg;obtain⟨its,rv,p,hz⟩:=I.list hq;obtain⟨u,hu,ru⟩:=rv.get hx;obtain⟨f0,f1,f2,f3,f4,f5⟩:=hf it (by simp);refine wpAny_pyNext_list_item st p.isList (x:=u) (by simpa using hu) λh' st' sb =>?_;have I1:Inv X pins σ H { s with heap:=h' }:=I.turned (t':=s.toks) (λb o hb e=>(sb.2 b hb).trans e) f0 f1 f3 f4 f5;obtain⟨o,e,c,d⟩:=id st';exact⟨u,rfl,zgf (s:={ s with heap:=h' }) e c d (by decide) ⟨x,H,I1,ru,⟨rfl,λys hy=>by rw[I.list_inj hy hq]; exact hx⟩,st',λb hb=>(hf b hb).1⟩⟩
 done:=by
  intro X hP hw hK hc i pins s σ H E I hf st hg;subst hP hw hK;obtain⟨xs,hq,hx⟩:=hg;obtain⟨its,rv,p,hz⟩:=I.list hq;obtain⟨f0,f1,f2,f3,f4,f5⟩:=hf it (by simp);have hl:=rv.length;exact wpAny_pyNext_list_end (I.ok.hd hc) st p.isList (by simp; omega) λh' eb=>⟨rfl,I.turned (t':=s.toks) (λb o hb e=>eb b o hb e) f0 f1 f3 f4 f5⟩
 self:=λ_ _ _ _ _ st h=>wpAny_pyIter_listiter st h
def zcx {P:Program}{w:World}{K:W.Frag}{tg:Expr}(a it:Addr):Turn P w K tg (Itt K a) [it] it (λi h=>h.IsTupleIter it a i) where
 mem:=by simp
 obj:=λi h st b hb=>by
  have e:b=it:=by simpa using hb
  subst e;obtain⟨o,e,c,d⟩:=st;exact⟨o,e,λv z=>by rw[d] at z; cases z⟩
 keep:=λi h h' st k=>st.at λo e=>k it (by simp) o e
 item:=by
  intro X hP hw hK hc i pins s σ H E I hf st hg;subst hP hw hK;obtain⟨xs,x,hq,hx⟩:=hg;obtain⟨its,rv,p,hz⟩:=I.tuple hq;obtain⟨u,hu,ru⟩:=rv.get hx;obtain⟨f0,f1,f2,f3,f4,f5⟩:=hf it (by simp);refine wpAny_pyNext_tuple_item st (show s.heap.IsTuple a its.toArray from p) (x:=u) (by simpa using hu) λh' st' sb =>?_;have I1:Inv X pins σ H { s with heap:=h' }:=I.turned (t':=s.toks) (λb o hb e=>(sb.2 b hb).trans e) f0 f1 f3 f4 f5;obtain⟨o,e,c,d⟩:=id st';exact⟨u,rfl,zgf (s:={ s with heap:=h' }) e c d (by decide) ⟨x,H,I1,ru,⟨rfl,λys hy=>by rw[I.tuple_inj hy hq]; exact hx⟩,st',λb hb=>(hf b hb).1⟩⟩
 done:=by
  intro X hP hw hK hc i pins s σ H E I hf st hg;subst hP hw hK;obtain⟨xs,hq,hx⟩:=hg;obtain⟨its,rv,p,hz⟩:=I.tuple hq;obtain⟨f0,f1,f2,f3,f4,f5⟩:=hf it (by simp);have hl:=rv.length;exact wpAny_pyNext_tuple_end (I.ok.hd hc) st (show s.heap.IsTuple a its.toArray from p) (by simp; omega) λh' eb=>⟨rfl,I.turned (t':=s.toks) (λb o hb e=>eb b o hb e) f0 f1 f3 f4 f5⟩
 self:=λ_ _ _ _ _ st h=>wpAny_pyIter_tupleiter st h
def zcy {P:Program}{w:World}{K:W.Frag}{tg:Expr}(it:Addr)(lo:Int)(n:Nat):Turn P w K tg (Itr lo n) [it] it (λi h=>IsRangeIter h it (lo+(i:Nat)*1) ((n:Int) - (i:Nat)) 1) where
 mem:=by simp
 obj:=λi h st b hb=>by
  have e:b=it:=by simpa using hb
  subst e;exact⟨_,st,λv z=>by
   have z':Data.fields _=Data.cell v:=z
   cases z'⟩
 keep:=λi h h' st k=>k it (by simp) _ st
 item:=by
  intro X hP hw hK hc i pins s σ H E I hf st hg;subst hP hw hK;obtain⟨f0,f1,f2,f3,f4,f5⟩:=hf it (by simp);have W:=Walks.range (prog:=X.prog) (w:=X.w) (I.ok.hd hc) it lo 1 n;refine W.item i s _ _ hg st λv h' tk hv st' kk =>?_;obtain⟨t,rfl⟩:=hv;have I1:Inv X pins σ H { s with heap:=h',toks:=tk }:=I.turned (λb o hb e=>kk b o (by simpa using hb) e) f0 f1 f3 f4 f5;refine⟨_,rfl,zgf (s:={ s with heap:=h',toks:=tk }) (n:="range_iterator") st' rfl rfl (by decide) ⟨.int (lo+i),H,I1,⟨t,?_⟩,⟨rfl,rfl⟩,st',λb hb=>(hf b hb).1⟩⟩;rw[Int.mul_one]
 done:=by
  intro X hP hw hK hc i pins s σ H E I hf st hg;subst hP hw hK;obtain⟨f0,f1,f2,f3,f4,f5⟩:=hf it (by simp);exact wpAny_pyNext_range_end (I.ok.hd hc) st (by have:n<=i:=hg; omega) λh' eb=>⟨rfl,I.turned (t':=s.toks) (λb o hb e=>eb b o hb e) f0 f1 f3 f4 f5⟩
 self:=λ_ _ _ _ _ st h=>wpAny_pyIter_rangeiter st h
section
variable {X:Cx}{tg:Expr}
def zfB {pins:List (Addr × Obj)}{σ:St}{H:Hp}{s:Shared}{R:It->Hp->Prop}{E:Value->Shared->Prop}{lo hi:Int}{t u v:Tok}{tk:Nat}(I:Inv X pins σ H s)(h1 : -(2 ^ 62)<=lo)(h2:lo<2 ^ 62)(h3 : -(2 ^ 62)<=hi)(h4:hi<2 ^ 62)
  (q:R (Itr lo (hi - lo).toNat) H):wpAny (model X.prog X.w) X.A (pyIter (.ref s.heap.objs.size)) (PIE X pins σ tg R) E { s with heap:=s.heap.push { cls :=.type "range",data :=.fields #[.int lo t,.int hi u,.int 1 v] },toks:=tk }:=by
 refine wpAny_pyIter_range (IsRange.new ..) (small_one h1 h2 h3 h4) ?_;have I1:Inv X pins σ H { s with heap:=s.heap.push { cls :=.type "range",data :=.fields #[.int lo t,.int hi u,.int 1 v] },toks:=tk }:=I.kept λb o e=>Heap.get?_push_of_some _ e;refine⟨(s.heap.push { cls :=.type "range",data :=.fields #[.int lo t,.int hi u,.int 1 v] }).objs.size,[(s.heap.push { cls :=.type "range",data :=.fields #[.int lo t,.int hi u,.int 1 v] }).objs.size],_,_,H,rfl,
  I1.kept (t':=tk) λb o e=>Heap.get?_push_of_some _ e,zcy _ lo (hi - lo).toNat,?_,λb hb =>?_,q⟩
 ·have e1:lo+((0:Nat):Int)*1=lo:=by simp
  have e2:(((hi - lo).toNat:Nat):Int) - ((0:Nat):Int)=Builtin.Range.rangeSize lo hi 1:=by rw[rangeSize_one]; split <;> omega
  show IsRangeIter _ _ (lo+((0:Nat):Int)*1) ((((hi - lo).toNat:Nat):Int) - ((0:Nat):Int)) 1;rw[e1,e2];exact Heap.get?_push_size _ rfl
 ·have e:b=(s.heap.push { cls :=.type "range",data :=.fields #[.int lo t,.int hi u,.int 1 v] }).objs.size:=by simpa using hb
  subst e;exact I1.fpOk (Nat.le_refl _) (I1.hok.fresh (Nat.le_refl _))
def zkZ (ta:TA):TI:=λσ H R=>ta σ H λvs H1=>∃j:Int,vs=[.int j] /\ -(2 ^ 62)<=j/\j<2 ^ 62/\R (Itr 0 j.toNat) H1
def ze4 {a:Expr}{ta:TA}{p pos:Pos}(hg:Gl X "range")(hm:X.mg "range"=none)(ha:PA X [a] ta)(hs:starEach [a] X.env=[(false,eval a X.env)]:=by rfl):PI X tg (.Call (.Name "range" p) [a] [] pos) (zkZ ta):=by
 intro pins s σ H R I h;refine Call_ (zcb I hg hm boot_range (PyProof.Rows.callWith_type1 (thn (ha pos pins s σ H _ I h) λus s1 ⟨vs,H1,I1,r1,q1⟩ =>?_) hs rfl));obtain⟨j,e,q1,q2,q⟩:=q1;subst e
 cases r1 with
 | cons r rr=>
  cases rr
  obtain⟨t,rfl⟩:=r;exact call_range_1 (zfB I1 (by omega) (by omega) q1 q2 (by simpa using q))
def tFor (wi:TI)(g:TG)(tb:TS):TS:=λD σ H=>wi σ H λJ H1=>∃W:Nat->Nat->St->Hp->Prop,(∃m,W 0 m σ H1)/\∀i m σ H,W i m σ H->
 (J.stop i H/\D.nx σ H)\/(J.go i H/\∃N:St->Hp->Prop,(∀σ' H',N σ' H'->∃m',m'<m/\W (i+1) m' σ' H')/\∀x H',J.yld i H x H'->g x σ H' λσ2 H2=>tb { D with nx:=N,ct:=N,bk:=D.nx } σ2 H2)
def z7e (fp:List Addr)(h:Heap):List (Addr × Obj):=fp.filterMap λb=>(h.get? b).map λo=>(b,o)
def z3D {fp:List Addr}{h:Heap}{b:Addr}{o:Obj}(hb:b∈fp)(e:h.get? b=some o):(b,o)∈z7e fp h:=List.mem_filterMap.mpr ⟨b,hb,by rw[e]; rfl⟩
def zei {fp:List Addr}{h:Heap}{p:Addr × Obj}(hp:p∈z7e fp h):p.1∈fp/\h.get? p.1=some p.2:=by
 obtain⟨b,hb,e⟩:=List.mem_filterMap.mp hp
 cases q:h.get? b with
 | none=>rw[q] at e; cases e
 | some o=>
  rw[q] at e;have e':(b,o)=p:=Option.some.inj e;subst e';exact⟨hb,q⟩
def Inv.pinned {pins:List (Addr × Obj)}{σ:St}{H:Hp}{s:Shared}{fp:List Addr}(I:Inv X pins σ H s)(hf:∀b∈fp,FpOk X pins H b)(ho:∀b∈fp,∃o,s.heap.get? b=some o/\∀v,o.data ≠ .cell v):Inv X (pins++z7e fp s.heap) σ H s:=
 I.pins_of λp hp=>(List.mem_append.mp hp).elim (λz=>I.pin p (List.mem_append_right _ z)) λz=>by
  obtain⟨hb,e⟩:=zei z;obtain⟨f0,f1,f2,_⟩:=hf p.1 hb;obtain⟨o,e',d⟩:=ho p.1 hb;rw[e] at e'; cases e';exact⟨e,f0,f1,f2,d⟩
def Inv.unpinned {pins pl:List (Addr × Obj)}{σ:St}{H:Hp}{s:Shared}(I:Inv X (pins++pl) σ H s):Inv X pins σ H s:=I.pins_of λp hp=>I.pin p (List.mem_append_right _ (List.mem_append_left _ hp))
def zjY {iter:Expr}{body:List Stmt}{wi:TI}{g:TG}{tb:TS}{pos:Pos}(hp:PassesOwn (model X.prog X.w) X.A X.env X.xe)(hc:X.calm=true)(hi:PI X tg iter wi)(hg:PG X tg g)(hb:PSs X body tb)
  (hs:∀x,foldedSetIterable iter X.env x=pure x:=by intro _; rfl):PS X (.For tg iter body [] pos) (tFor wi g tb):=by
 intro pins s σ H D I h;refine wpAny_For (thn (hi pins s σ H _ I h) λv s1 h1=>thn h1 λitv s2 h2 =>?_) hs;obtain⟨it,fp,tn,J,H2,e,I2,T,st2,f2,W,⟨m0,w0⟩,turn⟩:=h2;subst e;have stat:∀{H':Hp},(∀b∈fp,H' b=none)->∀b∈fp,FpOk X pins H' b:=λhn b hb=>⟨hn b hb,(f2 b hb).2⟩
 refine codeAny_forLoop_any (λn s'=>∃i σ' H',Inv X pins σ' H' s'/\tn i s'.heap/\(∀b∈fp,H' b=none)/\W i n σ' H') ?_ m0 ⟨0,σ,H2,I2,st2,λb hb=>(f2 b hb).1,w0⟩;rintro n s3 ⟨i,σ3,H3,I3,st3,fr3,w3⟩
 rcases turn i n σ3 H3 w3 with ⟨stop,qn⟩ | ⟨go,N,hN,step⟩
 ·refine wpAny_passesOwn hp (thn (T.done X rfl rfl rfl hc i pins s3 σ3 H3 X.xe I3 (stat fr3) st3 stop) λr s4 ⟨hr,I4⟩ =>?_);subst hr;exact wpAny_execs_nil ⟨σ3,H3,I4,qn⟩
 ·refine wpAny_passesOwn hp (thn (T.item X rfl rfl rfl hc i pins s3 σ3 H3 X.xe I3 (stat fr3) st3 go) λr s4 ⟨u,hr,h4⟩ =>?_);subst hr;refine wpAny_passesOwn hp (thn h4 λ_ s5 ⟨x,H5,I5,r5,y5,st5,fr5⟩ =>?_);have I5':=I5.pinned (stat fr5) (T.obj _ _ st5);refine wpAny_passesOwn hp (thn (hg _ s5 σ3 H5 x u _ I5' r5 (step x H5 y5)) λ_ s6 ⟨σ6,H6,I6,q6⟩ =>?_);refine wpAny_passesOwn hp (thn (hb _ s6 σ6 H6 _ I6 q6) λf s7 q7 =>?_);have again:∀{σ7:St}{H7:Hp},Inv X (pins++z7e fp s5.heap) σ7 H7 s7->N σ7 H7->∃m,m<n/\∃i σ' H',Inv X pins σ' H' s7/\tn i s7.heap/\(∀b∈fp,H' b=none)/\W i m σ' H':=λ{σ7 H7} I7 n7=>by
   obtain⟨m',hm,w7⟩:=hN σ7 H7 n7;refine⟨m',hm,i+1,σ7,H7,I7.unpinned,T.keep _ _ _ st5 λb hb o e=>(I7.pin (b,o) (List.mem_append_right _ (List.mem_append_right _ (z3D hb e)))).1,λb hb =>?_,w7⟩;obtain⟨o,e,d⟩:=T.obj _ _ st5 b hb;exact(I7.pin (b,o) (List.mem_append_right _ (List.mem_append_right _ (z3D hb e)))).2.1
  cases f with
  | next=>obtain⟨σ7,H7,I7,n7⟩:=q7; exact again I7 n7
  | cont=>obtain⟨σ7,H7,I7,n7⟩:=q7; exact again I7 n7
  | brk=>obtain⟨σ7,H7,I7,q7⟩:=q7; exact⟨σ7,H7,I7.unpinned,q7⟩
  | ret v=>obtain⟨x7,σ7,H7,I7,r7,q7⟩:=q7; exact⟨x7,σ7,H7,I7.unpinned,r7,q7⟩
end
abbrev R2:=V->V->Hp->VK->Prop
def OpR (X:Cx)(f:Value->Value->Sem Value)(r:R2):Prop:=
 ∀(pins:List (Addr × Obj)) (s:Shared) (σ:St) (H:Hp) (x y:V) (v u:Value) (Q:VK),Inv X pins σ H s->RelV x v->RelV y u->r x y H Q->
  wpAny (model X.prog X.w) X.A (f v u) (EP X pins σ Q) X.xe s
def UnR (X:Cx)(f:Value->Sem Value)(r:V->Hp->VK->Prop):Prop:=
 ∀(pins:List (Addr × Obj)) (s:Shared) (σ:St) (H:Hp) (x:V) (v:Value) (Q:VK),Inv X pins σ H s->RelV x v->r x H Q->
  wpAny (model X.prog X.w) X.A (f v) (EP X pins σ Q) X.xe s
def z19 (X:Cx)(f:Value)(r:List V->Hp->VK->Prop):Prop:=
 ∀(pins:List (Addr × Obj)) (s:Shared) (σ:St) (H:Hp) (xs:List V) (us:List Value) (Q:VK),Inv X pins σ H s->Vals xs us->r xs H Q->
  wpAny (model X.prog X.w) X.A (call f us) (EP X pins σ Q) X.xe s
def tOp (r:R2)(ta tb:TE):TE:=λσ H Q=>ta σ H λx H1=>tb σ H1 λy H2=>r x y H2 Q
def tUn (r:V->Hp->VK->Prop)(ta:TE):TE:=λσ H Q=>ta σ H λx H1=>r x H1 Q
def rI (C:Int->Int->Prop)(g:Int->Int->V):R2:=λx y H Q=>∃i j,x = .int i/\y = .int j/\C i j/\Q (g i j) H
def rI0 (g:Int->Int->V):R2:=λx y H Q=>∃i j,x = .int i/\y = .int j/\Q (g i j) H
def rU (g:Int->V):V->Hp->VK->Prop:=λx H Q=>∃i,x = .int i/\Q (g i) H
section
variable {X:Cx}{a b c:Expr}{ta tb tc:TE}{pos:Pos}
def binT (ha:PE X a ta)(hb:PE X b tb){pins:List (Addr × Obj)}{s:Shared}{σ:St}{H:Hp}{R:V->V->Hp->Prop}(I:Inv X pins σ H s)
  (h:ta σ H λx H1=>tb σ H1 λy H2=>R x y H2) {Q:Value->Shared->Prop}{f:Value->Value->Sem Value}
  (hf:∀v u s2 x y H2,Inv X pins σ H2 s2->RelV x v->RelV y u->R x y H2->wpAny (model X.prog X.w) X.A (f v u) Q X.xe s2):
  wpAny (model X.prog X.w) X.A (eval a X.env) (λv s₁=>wpAny (model X.prog X.w) X.A (eval b X.env) (λu s₂=>wpAny (model X.prog X.w) X.A (f v u) Q X.xe s₂) X.xe s₁) X.xe s:=by
 refine thn (ha pins s σ H _ I h) λv s1 ⟨x,H1,I1,r1,q1⟩ =>?_;refine thn (hb pins s1 σ H1 _ I1 q1) λu s2 ⟨y,H2,I2,r2,q2⟩ =>?_;exact hf v u s2 x y H2 I2 r1 r2 q2
def zlL {op:Operator}{r:R2}(ho:OpR X (binaryOp op) r)(ha:PE X a ta)(hb:PE X b tb):PE X (.BinOp a op b pos) (tOp r ta tb):=by
 intro pins s σ H Q I h;exact wpAny_BinOp (binT ha hb I h λv u s2 x y H2 I2 rx ry q=>ho pins s2 σ H2 x y v u Q I2 rx ry q)
def zlK {op:UnaryOp}{r:V->Hp->VK->Prop}(ho:UnR X (unaryOp op) r)(ha:PE X a ta):PE X (.UnaryOp op a pos) (tUn r ta):=by
 intro pins s σ H Q I h;exact UnaryOp_ (thn (ha pins s σ H _ I h) λv s1 ⟨x,H1,I1,r1,q1⟩=>ho pins s1 σ H1 x v Q I1 r1 q1)
def opI {f:Value->Value->Sem Value}{C:Int->Int->Prop}{g:Int->Int->Int}
  (rule:∀(i j:Int) (t u:Tok) (s:Shared) (Q:Value->Shared->Prop) (E:Value->Shared->Prop),C i j->Q (.int (g i j) s.toks) { s with toks:=s.toks+1 }->wpAny (model X.prog X.w) X.A (f (.int i t) (.int j u)) Q E s):
  OpR X f (rI C λi j =>.int (g i j)):=by
 intro pins s σ H x y v u Q I rx ry h;obtain⟨i,j,rfl,rfl,hc,q⟩:=h;obtain⟨t,rfl⟩:=rx;obtain⟨t',rfl⟩:=ry;exact rule i j t t' s _ _ hc ⟨.int (g i j),H,I.tok _,⟨_,rfl⟩,q⟩
def opI0 {f:Value->Value->Sem Value}{g:Int->Int->Int}
  (rule:∀(i j:Int) (t u:Tok) (s:Shared) (Q:Value->Shared->Prop) (E:Value->Shared->Prop),Q (.int (g i j) s.toks) { s with toks:=s.toks+1 }->wpAny (model X.prog X.w) X.A (f (.int i t) (.int j u)) Q E s):
  OpR X f (rI0 λi j =>.int (g i j)):=by
 intro pins s σ H x y v u Q I rx ry h;obtain⟨i,j,rfl,rfl,q⟩:=h;obtain⟨t,rfl⟩:=rx;obtain⟨t',rfl⟩:=ry;exact rule i j t t' s _ _ ⟨.int (g i j),H,I.tok _,⟨_,rfl⟩,q⟩
def opB0 {f:Value->Value->Sem Value}{g:Int->Int->Bool}
  (rule:∀(i j:Int) (t u:Tok) (s:Shared) (Q:Value->Shared->Prop) (E:Value->Shared->Prop),Q (.bool (g i j)) s->wpAny (model X.prog X.w) X.A (f (.int i t) (.int j u)) Q E s):
  OpR X f (rI0 λi j =>.bl (g i j)):=by
 intro pins s σ H x y v u Q I rx ry h;obtain⟨i,j,rfl,rfl,q⟩:=h;obtain⟨t,rfl⟩:=rx;obtain⟨t',rfl⟩:=ry;exact rule i j t t' s _ _ ⟨.bl (g i j),H,I,rfl,q⟩
def CPow (i j:Int):Prop:=0<=j/\j<=1000000/\i.natAbs<2 ^ 64
def zkn:OpR X (binaryOp .Add) (rI0 λi j =>.int (i+j)):=opI0 λ_ _ _ _ _ _ _ q=>add_int q
def zkj:OpR X (binaryOp .Sub) (rI0 λi j =>.int (i - j)):=opI0 λ_ _ _ _ _ _ _ q=>sub_int q
def zib:OpR X (binaryOp .Mod) (rI (λ_ j=>j≠0) λi j =>.int (i.fmod j)):=opI λ_ _ _ _ _ _ _ hc q=>mod_int' hc q
def zkk:OpR X (binaryOp .Pow) (rI CPow λi j =>.int (i ^ j.toNat)):=opI λ_ _ _ _ _ _ _ hc q=>pow_int_small hc.1 hc.2.1 hc.2.2 q
def unI {f:Value->Sem Value}{g:Int->Int}
  (rule:∀(i:Int) (t:Tok) (s:Shared) (Q:Value->Shared->Prop) (E:Value->Shared->Prop),Q (.int (g i) s.toks) { s with toks:=s.toks+1 }->wpAny (model X.prog X.w) X.A (f (.int i t)) Q E s):
  UnR X f (rU λi =>.int (g i)):=by
 intro pins s σ H x v Q I rx h;obtain⟨i,rfl,q⟩:=h;obtain⟨t,rfl⟩:=rx;exact rule i t s _ _ ⟨.int (g i),H,I.tok _,⟨_,rfl⟩,q⟩
def ziR:UnR X (unaryOp .USub) (rU λi =>.int (-i)):=unI λ_ _ _ _ _ q=>neg_int q
end
def scal:V->V->Bool
 | .non,.non=>true | .non,.int _=>true | .int _,.non=>true | .non,.bl _=>true | .bl _,.non=>true | .non,.str _=>true | .str _,.non=>true
 | .int _,.int _=>true | .bl _,.bl _=>true | .str _,.str _=>true | .byt _,.byt _=>true
 | .int _,.str _=>true | .str _,.int _=>true | .bl _,.str _=>true | .str _,.bl _=>true
 | _,_=>false
def rEq:R2:=λx y H Q=>scal x y=true/\Q (.bl (decide (x=y))) H
def rNe:R2:=λx y H Q=>scal x y=true/\Q (.bl (!decide (x=y))) H
def zeS {i j:Int}:decide (V.int i=V.int j)=(i == j):=by
 rw[Bool.eq_iff_iff];simp
def zhd {i j:Bool}:decide (V.bl i=V.bl j)=(i == j):=by
 rw[Bool.eq_iff_iff];simp
def zeR {i j:Str}:decide (V.str i=V.str j)=(i == j):=by
 rw[Bool.eq_iff_iff];simp
def zeT {i j:Array UInt8}:decide (V.byt i=V.byt j)=(i.toList == j.toList):=by
 rw[Bool.eq_iff_iff]
 cases i
 cases j
 simp
section
variable {X:Cx}{a b c:Expr}{ta tb tc:TE}{pos:Pos}
def z17 {pins:List (Addr × Obj)}{σ:St}{H:Hp}{s:Shared}{Q:VK}{k k':Bool}(I:Inv X pins σ H s)(q:Q (.bl k) H)(e:k=k'):EP X pins σ Q (.bool k') s:=by
 subst e;exact⟨.bl k,H,I,rfl,q⟩
def zlV:OpR X (compareOp .Eq) rEq:=by
 intro pins s σ H x y v u Q I rx ry h;obtain⟨hs,q⟩:=h
 cases x with
 | non=>
  cases rx
  cases y with
  | non=>cases ry; exact PySem.EqNone.eq_none_none (z17 I q (by simp))
  | bl j=>cases ry; exact PySem.EqNone.eq_none_bool (z17 I q (by simp))
  | int j=>obtain⟨t',rfl⟩:=ry; exact PySem.EqNone.eq_none_int (z17 I q (by simp))
  | str j=>obtain⟨t',rfl⟩:=ry; exact PySem.EqNone.eq_none_str (z17 I q (by simp))
  | _=>exact absurd (show false=true from hs) Bool.false_ne_true
 | bl i=>
  cases rx
  cases y with
  | non=>cases ry; exact PySem.EqNone.eq_bool_none (z17 I q (by simp))
  | bl j=>cases ry; exact eq_bool (z17 I q zhd)
  | str j=>obtain⟨t',rfl⟩:=ry; exact PySem.EqMixed.eq_bool_str (z17 I q (by simp))
  | _=>exact absurd (show false=true from hs) Bool.false_ne_true
 | int i=>
  obtain⟨t,rfl⟩:=rx
  cases y with
  | non=>cases ry; exact PySem.EqNone.eq_int_none (z17 I q (by simp))
  | int j=>obtain⟨t',rfl⟩:=ry; exact eq_int (z17 I q zeS)
  | str j=>obtain⟨t',rfl⟩:=ry; exact PySem.EqMixed.eq_int_str (z17 I q (by simp))
  | _=>exact absurd (show false=true from hs) Bool.false_ne_true
 | str i=>
  obtain⟨t,rfl⟩:=rx
  cases y with
  | non=>cases ry; exact PySem.EqNone.eq_str_none (z17 I q (by simp))
  | bl j=>cases ry; exact PySem.EqMixed.eq_str_bool (z17 I q (by simp))
  | int j=>obtain⟨t',rfl⟩:=ry; exact PySem.EqMixed.eq_str_int (z17 I q (by simp))
  | str j=>obtain⟨t',rfl⟩:=ry; exact eq_str (z17 I q zeR)
  | _=>exact absurd (show false=true from hs) Bool.false_ne_true
 | byt i=>
  obtain⟨t,rfl⟩:=rx
  cases y with
  | byt j=>obtain⟨t',rfl⟩:=ry; exact PySem.W.eq_bytes (z17 I q zeT)
  | _=>exact absurd (show false=true from hs) Bool.false_ne_true
 | _=>cases y <;> exact absurd (show false=true from hs) Bool.false_ne_true
def zlQ:OpR X (compareOp .NotEq) rNe:=by
 intro pins s σ H x y v u Q I rx ry h;obtain⟨hs,q⟩:=h
 cases x with
 | non=>
  cases rx
  cases y with
  | non=>cases ry; exact PySem.EqNone.ne_none_none (z17 I q (by simp))
  | bl j=>cases ry; exact PySem.EqNone.ne_none_bool (z17 I q (by simp))
  | int j=>obtain⟨t',rfl⟩:=ry; exact PySem.EqNone.ne_none_int (z17 I q (by simp))
  | str j=>obtain⟨t',rfl⟩:=ry; exact PySem.EqNone.ne_none_str (z17 I q (by simp))
  | _=>exact absurd (show false=true from hs) Bool.false_ne_true
 | bl i=>
  cases rx
  cases y with
  | non=>cases ry; exact PySem.EqNone.ne_bool_none (z17 I q (by simp))
  | bl j=>cases ry; exact ne_bool (z17 I q (congrArg not zhd))
  | str j=>obtain⟨t',rfl⟩:=ry; exact PySem.EqMixed.ne_bool_str (z17 I q (by simp))
  | _=>exact absurd (show false=true from hs) Bool.false_ne_true
 | int i=>
  obtain⟨t,rfl⟩:=rx
  cases y with
  | non=>cases ry; exact PySem.EqNone.ne_int_none (z17 I q (by simp))
  | int j=>obtain⟨t',rfl⟩:=ry; exact ne_int (z17 I q (congrArg not zeS))
  | str j=>obtain⟨t',rfl⟩:=ry; exact PySem.EqMixed.ne_int_str (z17 I q (by simp))
  | _=>exact absurd (show false=true from hs) Bool.false_ne_true
 | str i=>
  obtain⟨t,rfl⟩:=rx
  cases y with
  | non=>cases ry; exact PySem.EqNone.ne_str_none (z17 I q (by simp))
  | bl j=>cases ry; exact PySem.EqMixed.ne_str_bool (z17 I q (by simp))
  | int j=>obtain⟨t',rfl⟩:=ry; exact PySem.EqMixed.ne_str_int (z17 I q (by simp))
  | str j=>obtain⟨t',rfl⟩:=ry; exact ne_str (z17 I q (congrArg not zeR))
  | _=>exact absurd (show false=true from hs) Bool.false_ne_true
 | byt i=>
  obtain⟨t,rfl⟩:=rx
  cases y with
  | byt j=>obtain⟨t',rfl⟩:=ry; exact PySem.W.ne_bytes (z17 I q (congrArg not zeT))
  | _=>exact absurd (show false=true from hs) Bool.false_ne_true
 | _=>cases y <;> exact absurd (show false=true from hs) Bool.false_ne_true
def zlR:OpR X (compareOp .Lt) (rI0 λi j =>.bl (decide (i<j))):=opB0 λ_ _ _ _ _ _ _ q=>lt_int q
def zlS:OpR X (compareOp .LtE) (rI0 λi j =>.bl (decide (i<=j))):=opB0 λ_ _ _ _ _ _ _ q=>le_int q
def zlT:OpR X (compareOp .Gt) (rI0 λi j =>.bl (decide (j<i))):=opB0 λ_ _ _ _ _ _ _ q=>gt_int q
def zlU:OpR X (compareOp .GtE) (rI0 λi j =>.bl (decide (j<=i))):=opB0 λ_ _ _ _ _ _ _ q=>ge_int q
def zi8:OpR X (compareOp .IsNot) (λx y H Q=>y = .non/\Q (.bl (!decide (x = .non))) H):=by
 intro pins s σ H x y v u Q I rx ry h;obtain⟨rfl,q⟩:=h
 cases ry
 refine isnot_none_gen (z17 I q ?_)
 cases x <;> first
  | (cases rx; rfl)
  | (obtain⟨t,rfl⟩:=rx; rfl)
def z0n (b:Expr){op:CmpOp}(h:op ≠ .In:=by decide)(h2:op ≠ .NotIn:=by decide):behindInMarks op b=false:=by
 have e1:(op == CmpOp.In)=false:=by cases op <;> first | rfl | exact absurd rfl h
 have e2:(op == CmpOp.NotIn)=false:=by cases op <;> first | rfl | exact absurd rfl h2
 cases b <;> simp[behindInMarks,e1,e2]
def zhZ {op:CmpOp}{r:R2}(ho:OpR X (compareOp op) r)(ha:PE X a ta)(hb:PE X b tb)(hm:behindInMarks op b=false):PE X (.Compare a [op] [b] pos) (tOp r ta tb):=by
 intro pins s σ H Q I h;exact wpAny_Compare1 (binT ha hb I h λv u s2 x y H2 I2 rx ry q=>ho pins s2 σ H2 x y v u Q I2 rx ry q) hm
def zhn (t:TE):TT:=λσ H Q=>t σ H λx H'=>∃k,x = .bl k/\Q k H'
def zhQ {op:CmpOp}{r:R2}(ho:OpR X (compareOp op) r)(ha:PE X a ta)(hb:PE X b tb)(hm:behindInMarks op b=false):PT X (.Compare a [op] [b] pos) (zhn (tOp r ta tb)):=by
 intro pins s σ H Q I h;refine wpAny_isTrue_Compare1 (thn (ha pins s σ H _ I h) λv s1 ⟨x,H1,I1,r1,q1⟩=>thn (hb pins s1 σ H1 _ I1 q1) λu s2 ⟨y,H2,I2,r2,q2⟩=>
  thn (ho pins s2 σ H2 x y v u _ I2 r1 r2 q2) λc s3 ⟨z,H3,I3,r3,k,e,q3⟩ =>?_) hm
 subst e
 cases r3
 exact wpAny_truthy_bool ⟨H3,I3,q3⟩
def z7W:(sizeLine:Nat)<2 ^ 63:=by rw[sizeLine_eq]; decide
def zcN:OpR X (binaryOp .Add) (λx y H Q=>∃i j,x = .str i/\y = .str j/\i.length+j.length<=sizeLine/\Q (.str (i++j)) H):=by
 intro pins s σ H x y v u Q I rx ry h;obtain⟨i,j,rfl,rfl,hz,q⟩:=h;obtain⟨t,rfl⟩:=rx;obtain⟨t',rfl⟩:=ry;exact add_str (λt' tk=>⟨.str (i++j),H,I.tok _,⟨_,rfl⟩,q⟩) hz
def z4V {x:V}{us:List Value}(r:Vals [x] us):∃u,us=[u]/\RelV x u:=by
 cases r with
 | cons r1 r2=>cases r2; exact⟨_,rfl,r1⟩
def ziQ {x y:V}{us:List Value}(r:Vals [x,y] us):∃u w',us=[u,w']/\RelV x u/\RelV y w':=by
 cases r with
 | cons r1 r2=>
  cases r2 with
  | cons r3 r4=>cases r4; exact⟨_,_,rfl,r1,r3⟩
def zgt:z19 X (.builtin "abs") (λxs H Q=>∃i,xs=[.int i]/\Q (.int (if i<0 then -i else i)) H):=by
 intro pins s σ H xs us Q I r h;obtain⟨i,rfl,q⟩:=h;obtain⟨u,rfl,t,rfl⟩:=z4V r;exact call_abs_int λu tk=>⟨.int (if i<0 then -i else i),H,I.tok _,⟨_,rfl⟩,q⟩
def zf4 (hc:X.calm=true):z19 X (.builtin "max") (λxs H Q=>∃i j,xs=[.int i,.int j]/\Q (.int (if j > i then j else i)) H):=by
 intro pins s σ H xs us Q I r h;obtain⟨i,j,rfl,q⟩:=h;obtain⟨u,w',rfl,⟨t,rfl⟩,⟨t',rfl⟩⟩:=ziQ r;refine max_two_ints (I.ok.hd hc) λh' tk k=>⟨_,H,I.kept k,?_,q⟩
 by_cases hj:j > i
 ·rw[if_pos hj,if_pos hj]; exact⟨_,rfl⟩
 ·rw[if_neg hj,if_neg hj]; exact⟨_,rfl⟩
def zf2 (hc:X.calm=true):z19 X (.builtin "min") (λxs H Q=>∃i j,xs=[.int i,.int j]/\Q (.int (if j<i then j else i)) H):=by
 intro pins s σ H xs us Q I r h;obtain⟨i,j,rfl,q⟩:=h;obtain⟨u,w',rfl,⟨t,rfl⟩,⟨t',rfl⟩⟩:=ziQ r;refine min_two_ints (I.ok.hd hc) λh' tk k=>⟨_,H,I.kept k,?_,q⟩
 by_cases hj:j<i
 ·rw[if_pos hj,if_pos hj]; exact⟨_,rfl⟩
 ·rw[if_neg hj,if_neg hj]; exact⟨_,rfl⟩
def zf6:z19 X (.type "int") (λxs H Q=>(∃i,xs=[.int i]/\Q (.int i) H)\/∃k,xs=[.bl k]/\Q (.int (if k then 1 else 0)) H):=by
 intro pins s σ H xs us Q I r h
 rcases h with ⟨i,rfl,q⟩ | ⟨k,rfl,q⟩
 ·obtain⟨u,rfl,t,rfl⟩:=z4V r;exact call_int_int ⟨.int i,H,I,⟨_,rfl⟩,q⟩
 ·obtain⟨u,rfl,r1⟩:=z4V r
  cases r1
  exact call_int_bool ⟨.int (if k then 1 else 0),H,I.tok _,⟨_,rfl⟩,q⟩
end
structure Room (k:Nat)(A:Around):Prop where
 hd:A.handled=none
 dp:A.depth+3*k+5<recursionLimit
 un:A.units+16*k+200<cLine
def Room.mono {j k:Nat}{A:Around}(r:Room k A)(h:j<=k):Room j A:=⟨r.hd,by have:=r.dp; omega,by have:=r.un; omega⟩
def Room.deeper {k:Nat}{A:Around}(r:Room (k+1) A)(env:Env):Room k (A.deeper env):=
 ⟨r.hd,by have:=r.dp; show A.depth+1+3*k+5<_; omega,by have:=r.un; show A.units+3+16*k+200<_; omega⟩
def Room.depth {k:Nat}{A:Around}(r:Room k A):A.depth<recursionLimit:=by have:=r.dp; omega
def Room.units {k:Nat}{A:Around}(r:Room k A):A.units+64<cLine:=by have:=r.un; omega
def tNil:TA:=λ_ H Q=>Q [] H
def zj5 (ta:TE)(tr:TA):TA:=λσ H Q=>ta σ H λx H1=>tr σ H1 λxs H2=>Q (x::xs) H2
section
variable {X:Cx}{e:Expr}{es:List Expr}{te:TE}{t:TA}{pos:Pos}
def zkd:PA X [] tNil:=λ_ _ _ _ H Q I h=>Calls.spliced_nil ⟨[],H,I,.nil,h⟩
def zi2 (ha:PE X e te)(hr:PA X es t)(hs:starEach (e::es) X.env=(false,eval e X.env)::starEach es X.env:=by rfl):PA X (e::es) (zj5 te t):=by
 intro pos pins s σ H Q I h;rw[hs];show wpAny _ _ (spliced ((false,eval e X.env)::backTo pos (starEach es X.env))) _ _ s;refine Calls.spliced_cons (thn (ha pins s σ H _ I h) λu s1 ⟨x,H1,I1,r1,q1⟩ =>?_);exact thn (hr pos pins s1 σ H1 _ I1 q1) λus s2 ⟨xs,H2,I2,r2,q2⟩=>⟨x::xs,H2,I2,.cons r1 r2,q2⟩
def tTup (t:TA):TE:=λσ H Q=>t σ H λxs H1=>xs.length<=sizeLine/\∀p,H1 p=none->Q (.ref p) (upd H1 p (.tup xs))
def tLst (t:TA):TE:=λσ H Q=>t σ H λxs H1=>xs.length<=sizeLine/\∀p,H1 p=none->Q (.ref p) (upd H1 p (.lst xs))
def zk4 {x1}(h:PA X es t):PE X (.Tuple es x1 pos) (tTup t):=by
 intro pins s σ H Q I hq;refine wpAny_Tuple_spliced (thn (h pos pins s σ H _ I hq) λus s1 ⟨xs,H1,I1,r,z,q⟩=>⟨by rw[<- r.length]; exact z,?_⟩);have hf:H1 s1.heap.objs.size=none:=I1.hok.fresh (Nat.le_refl _);refine⟨.ref s1.heap.objs.size,upd H1 s1.heap.objs.size (.tup xs),I1.laid (t':=s1.toks) (λb u e=>Heap.get?_push_of_some _ e) (Nat.le_refl _) ?_,rfl,q _ hf⟩;exact⟨z,us,r,⟨_,Heap.get?_push_size _ rfl,rfl,_,rfl⟩,_,Heap.get?_push_size _ rfl,rfl⟩
def zk8 (h:PA X es t):PE X (.List es pos) (tLst t):=by
 intro pins s σ H Q I hq;refine wpAny_List_spliced (thn (h pos pins s σ H _ I hq) λus s1 ⟨xs,H1,I1,r,z,q⟩=>⟨by rw[<- r.length]; exact z,?_⟩);have hf:H1 s1.heap.objs.size=none:=I1.hok.fresh (Nat.le_refl _);refine⟨.ref s1.heap.objs.size,upd H1 s1.heap.objs.size (.lst xs),I1.laid (t':=s1.toks) (λb u e=>Heap.get?_push_of_some _ e) (Nat.le_refl _) ?_,rfl,q _ hf⟩;exact⟨z,us,0,r,Heap.get?_push_size _ rfl⟩
end
abbrev Sp:=List V->Hp->VK->XK->Prop
abbrev CXT:=List Env->Hp->Shared->XK->Value->Shared->Prop
structure Env0 (P:Program)(w:World)(K:W.Frag)(mg:Str->Option Value)(base:Heap)(A:Around)(outer:List Env)(s:Shared)(H:Hp):Prop where
 frames:A.frames=some outer
 mod:Mod K mg base
 bs:∀b o,base.get? b=some o->s.heap.get? b=some o/\H b=none
 bsz:base.objs.size<=s.heap.objs.size
 funs:s.heap.FunFrames base outer
 frf:∀b∈frs outer,H b=none
 hok:HOk P w H s.heap
 bare:AllBare s.gens
def CE (outer:List Env)(P:Program)(w:World)(H:Hp)(s:Shared)(Q:VK)(u:Value)(s':Shared):Prop:=
 ∃v H',s'.os=s.os/\AllBare s'.gens/\Un (frs outer) [] H H' s.heap s'.heap/\HOk P w H' s'.heap/\RelV v u/\Q v H'
def CR (CX:CXT)(outer:List Env)(P:Program)(w:World)(H:Hp)(s:Shared)(Q:VK)(E:XK)(r:Result)(s':Shared):Prop:=
 match r with
 | .ok (.ret u)=>CE outer P w H s Q u s'
 | .ok _=>False
 | .error e=>CX outer H s E e s'
structure FnOk (P:Program)(w:World)(K:W.Frag)(mg:Str->Option Value)(base:Heap)(CX:CXT)(k:Nat)(f:Addr)(fd:FuncData)(ps:List Str)(sp:Sp):Prop where
 len:∀vs H Q E,sp vs H Q E->vs.length=ps.length
 run:∀(A:Around) (outer:List Env) (s:Shared) (H:Hp) (args:Args) (us:List Value) (vs:List V) (Q:VK) (E:XK),Room k A->Env0 P w K mg base A outer s H->BindsTo s fd args (ps.zip us)->Vals vs us->sp vs H Q E->
  codeAny (model P w) A (.call (.ref f) args) (CR CX outer P w H s Q E) s
def FnOk.imp {P:Program}{w:World}{K:W.Frag}{mg:Str->Option Value}{base:Heap}{CX:CXT}{k:Nat}{f:Addr}{fd:FuncData}{ps:List Str}{sp sp':Sp}(F:FnOk P w K mg base CX k f fd ps sp)
  (h:∀vs H Q E,sp' vs H Q E->sp vs H Q E):FnOk P w K mg base CX k f fd ps sp':=
 ⟨λvs H Q E q=>F.len vs H Q E (h _ _ _ _ q),λA outer s H args us vs Q E hr he hb hv hs=>F.run A outer s H args us vs Q E hr he hb hv (h _ _ _ _ hs)⟩
section
variable {X:Cx}{pins:List (Addr × Obj)}{σ:St}{H:Hp}{s s':Shared}
def Inv.env0 (I:Inv X pins σ H s):Env0 X.prog X.w X.K X.mg X.base X.A X.stack s H:=
 ⟨I.ok.frames,I.ok.mod,I.bs,Nat.le_trans I.ok.bsz I.sz,I.stack,I.stkFree,I.hok,I.bare⟩
def Inv.after {Q:VK}{u:Value}(I:Inv X pins σ H s)(h:CE X.stack X.prog X.w H s Q u s'):EP X pins σ Q u s':=by
 obtain⟨v,H',os,bare,un,hok,r,q⟩:=h;obtain⟨hh,g,d,t,os'⟩:=s';obtain rfl:os'=s.os:=os;exact⟨v,H',I.call (h':=hh) (g':=g) (d':=d) (t':=t) (ch:=[]) un hok bare (λb z=>absurd z (by simp)),r,q⟩
end
def zho (sp:Sp)(dvs:List V)(E:XK)(t:TA):TE:=λσ H Q=>t σ H λvs H1=>sp (vs++dvs) H1 Q E
def z8U (K:W.Frag)(fd:FuncData)(ps:List Str)(ds:List Value):Prop:=
 ∀(s:Shared) (us:List Value),K.In s.heap->(us++ds).length=ps.length->BindsTo s fd ⟨us,[]⟩ (ps.zip (us++ds))
def z8U.all {K:W.Frag}{fd:FuncData}{ps:List Str}(h:∀us:List Value,us.length=ps.length->bindArgs fd ⟨us,[]⟩=pure (ps.zip us)):z8U K fd ps []:=λs us _ hl=>by
 rw[List.append_nil] at hl ⊢;exact .of_eq (h us hl)
def z7n (CX:CXT)(X:Cx)(E:XK):Prop:=∀(pins:List (Addr × Obj)) (σ:St) (H:Hp) (s:Shared) (e:Value) (s':Shared),Inv X pins σ H s->CX X.stack H s E e s'->X.xe e s'
section
variable {X:Cx}{CX:CXT}{k:Nat}{f C:Addr}{fd:FuncData}{ps:List Str}{sp:Sp}{dvs:List V}{ds:List Value}{E:XK}{x m:Str}{p pos apos:Pos}{e o:Expr}{es:List Expr}{ta:TE}{t:TA}
def zgK {pins:List (Addr × Obj)}{σ:St}{H:Hp}{s:Shared}{Q:VK}{us:List Value}{vs:List V}(F:FnOk X.prog X.w X.K X.mg X.base CX k f fd ps sp)(hr:Room k X.A)(hb:z8U X.K fd ps ds)(hd:Vals dvs ds)(hx:z7n CX X E)
  (I:Inv X pins σ H s) (r:Vals vs us) (h:sp (vs++dvs) H Q E):wpAny (model X.prog X.w) X.A (call (.ref f) us) (EP X pins σ Q) X.xe s:=by
 have r2:Vals (vs++dvs) (us++ds):=r.append hd;have hl:(us++ds).length=ps.length:=by rw[<- r2.length]; exact F.len _ _ _ _ h
 refine wpAny_call (codeAny_mono (F.run X.A X.stack s H ⟨us,[]⟩ (us++ds) (vs++dvs) Q E hr I.env0 (hb s us I.kIn hl) r2 h) λr s' hq =>?_)
 cases r with
 | error e=>exact hx pins σ H s e s' I hq
 | ok fl=>
  cases fl with
  | ret u=>exact I.after hq
  | next=>exact False.elim hq
  | brk=>exact False.elim hq
  | cont=>exact False.elim hq
def zi0 (F:FnOk X.prog X.w X.K X.mg X.base CX k f fd ps sp)(hr:Room k X.A)(hg:Gl X x)(hm:X.mg x=some (.ref f))(hk:PySem.W.keepIn X.K (.ref f)=true)(hb:z8U X.K fd ps ds)(hd:Vals dvs ds)(hx:z7n CX X E)
  (ha:PA X (e::es) t) (hdb:(x == ("__debug__":Str))=false:=by decide) (he:starEach (e::es) X.env=(false,eval e X.env)::starEach es X.env:=by rfl) (hpl:(backTo pos (starEach es X.env)).any (·.1)=false:=by rfl):
  PE X (.Call (.Name x p) (e::es) [] pos) (zho sp dvs E t):=by
 intro pins s σ H Q I h;refine wpAny_Call_Name_kw (zew I hg hm ?_ hdb);refine PySem.W.callWith_K (h₀:=X.base) I.ok.mod.kin hk (thn (ha pos pins s σ H _ I h) λus s1 ⟨vs,H1,I1,r,q⟩=>⟨I1.kIn,?_⟩) he hpl;exact zgK F hr hb hd hx I1 r q
end
structure z0c (N P:List Str)(sc:Scope):Prop where
 kind:sc.kind = .function
 co:sc.isCoroutine=false
 gen:sc.isGenerator=false
 nd:N.Nodup
 pre:N.take P.length=P
 par:∀x∈P,sc.names.lookup x=some .local\/sc.names.lookup x=some .cell
 nofree:∀y∈sc.names,y.2 ≠ .free
def zaR {kindOf:Str->Option NameKind}{x:Str}:∀{binds:List (Str × Value)}{m:Str->Option Value},(∀v,(x,v) ∉ binds)->bindL kindOf binds m x=m x
 | [],_,_=>rfl
 | (n,v)::r,m,h=>by
  unfold bindL;rw[zaR λw hw=>h w (List.mem_cons_of_mem _ hw)]
  split
  ·have:x≠n:=by rintro rfl; exact h v List.mem_cons_self
   simp[this]
  ·rfl
def zaT {kindOf:Str->Option NameKind}{x:Str}:∀{binds:List (Str × Value)}{m:Str->Option Value},(∀v,(x,v) ∉ binds)->bindC kindOf binds m x=m x
 | [],_,_=>rfl
 | (n,v)::r,m,h=>by
  unfold bindC;rw[zaT λw hw=>h w (List.mem_cons_of_mem _ hw)]
  split
  ·rfl
  ·have:x≠n:=by rintro rfl; exact h v List.mem_cons_self
   simp[this]
def zaS {kindOf:Str->Option NameKind}{x:Str}{v:Value}:∀{P:List Str}{vs:List Value}{i:Nat}{m:Str->Option Value},P.Nodup->P[i]? = some x->vs[i]? = some v->kindOf x=some .local->
  bindL kindOf (P.zip vs) m x=some v
 | [],_,_,_,_,h,_,_=>by simp at h
 | _::_,[],_,_,_,_,h,_=>by simp at h
 | p::P,w::vs,0,m,nd,h1,h2,hk=>by
  simp at h1 h2; subst h1; subst h2;show bindL kindOf ((p,w)::P.zip vs) m p=_;unfold bindL;rw[zaR λv hv=>(List.nodup_cons.mp nd).1 (List.of_mem_zip hv).1,if_pos hk];simp
 | p::P,w::vs,i+1,m,nd,h1,h2,hk=>by
  show bindL kindOf ((p,w)::P.zip vs) m x=_;unfold bindL;exact zaS (i:=i) (List.nodup_cons.mp nd).2 (by simpa using h1) (by simpa using h2) hk
def zaU {kindOf:Str->Option NameKind}{x:Str}{v:Value}:∀{P:List Str}{vs:List Value}{i:Nat}{m:Str->Option Value},P.Nodup->P[i]? = some x->vs[i]? = some v->kindOf x≠some .local->
  bindC kindOf (P.zip vs) m x=some v
 | [],_,_,_,_,h,_,_=>by simp at h
 | _::_,[],_,_,_,_,h,_=>by simp at h
 | p::P,w::vs,0,m,nd,h1,h2,hk=>by
  simp at h1 h2; subst h1; subst h2;show bindC kindOf ((p,w)::P.zip vs) m p=_;unfold bindC;rw[zaT λv hv=>(List.nodup_cons.mp nd).1 (List.of_mem_zip hv).1,if_neg hk];simp
 | p::P,w::vs,i+1,m,nd,h1,h2,hk=>by
  show bindC kindOf ((p,w)::P.zip vs) m x=_;unfold bindC;exact zaU (i:=i) (List.nodup_cons.mp nd).2 (by simpa using h1) (by simpa using h2) hk
def z3r (N:List Str)(vs:List V):St:=vs.map some++List.replicate (N.length - vs.length) none
def cxOf (CX:CXT)(P:Program)(w:World)(K:W.Frag)(mg:Str->Option Value)(base:Heap)(N:List Str)(qual:Str)(scope:Scope)(f:Addr)(cd:Value)(A:Around)(outer:List Env)(s:Shared)(H:Hp)(E:XK):Cx where
 prog:=P
 w:=w
 K:=K
 mg:=mg
 base:=base
 A:=A.deeper (envOfC qual scope s.heap.objs.size f cd)
 N:=N
 s₀:=s
 H₀:=H
 env:=envOfC qual scope s.heap.objs.size f cd
 outer:=outer
 stack:=envOfC qual scope s.heap.objs.size f cd::outer
 ex:=[]
 calm:=true
 fn:=λ_=>true
 pn:=[]
 xe:=λe s'=>wpAny (model P w) (A.deeper (envOfC qual scope s.heap.objs.size f cd)) (leaving (envOfC qual scope s.heap.objs.size f cd) e) (λ_ s''=>CX outer H s E e s'') (λe' s''=>CX outer H s E e' s'') s'
def zcs {sc:Scope}{n:Nat}{x:Str}(h:sc.names.lookup x=some .cell):∃c,(cellsFrom n sc.names []).lookup x=some c:=by
 have q:=PySem.W.cellsFrom_some sc.names n [] (.inl h);exact Option.isSome_iff_exists.mp q
def zeA {CX:CXT}{P:Program}{w:World}{K:W.Frag}{mg:Str->Option Value}{base:Heap}{N ps:List Str}{qual:Str}{scope:Scope}{f:Addr}{cd:Value}{A:Around}{outer:List Env}{s s1:Shared}{H:Hp}{E:XK}{us:List Value}{vs:List V}
  (S:z0c N ps scope) (hd:A.handled=none) (e0:Env0 P w K mg base A outer s H) (hl:vs.length=ps.length) (r:Vals vs us)
  (x:InCallC s s.heap.objs.size (bindL (envOfC qual scope s.heap.objs.size f cd).kindOf (ps.zip us) λ_=>none) (cellsFrom (s.heap.objs.size+1) scope.names []) (bindC (envOfC qual scope s.heap.objs.size f cd).kindOf (ps.zip us) λ_=>none) s1):
  Inv (cxOf CX P w K mg base N qual scope f cd A outer s H E) [] (z3r N vs) H s1:=by
 have hpl:ps.length<=N.length:=by have:=congrArg List.length S.pre; rw[List.length_take] at this; omega
 obtain⟨h1,tk,rfl,hk⟩:=x.done;have noA:∀b:Addr,b ∉ (cxOf CX P w K mg base N qual scope f cd A outer s H E).ex:=λb z=>absurd (show b∈([]:List Addr) from z) (by simp);refine⟨⟨e0.mod,S.kind,rfl,rfl,Nat.le_refl _,λy z c h1 h2 =>?_,λy hy =>?_,λy c _ h =>?_,λ_=>hd,Around.frames_deeper e0.frames,.inr ⟨rfl,rfl⟩,λb z=>absurd z (noA b),e0.bs,e0.bsz,λb _ _=>noA b,λb z=>absurd z (noA b),e0.funs,e0.frf⟩,
  rfl,e0.bare,Un.kept hk,⟨_,x.toInCall.ns,λi y v h1 h2 h3 =>?_⟩,λy c h=>⟨_,x.cell y c h⟩,e0.hok.fresh (Nat.le_refl _),λy c h =>?_,λp hp=>absurd (show p∈([]:List (Addr × Obj)) from hp) (by simp),e0.hok.kept hk,?_⟩
 ·exact name_of_addr x.apart (PySem.mem_of_lookup h1) (PySem.mem_of_lookup h2)
 ·have hy:scope.names.lookup y=some .cell\/scope.names.lookup y=some .free:=hy
  rcases hy with hy | hy
  ·exact zcs hy
  ·exact absurd rfl (S.nofree _ (PySem.mem_of_lookup hy))
 ·exact Nat.le_of_lt (x.above y c (PySem.mem_of_lookup h))
 ·have hi:i<vs.length:=by
   unfold z3r at h2
   by_cases hi:i<vs.length
   ·exact hi
   ·rw[List.getElem?_append_right (by simpa using hi)] at h2;rw[List.getElem?_replicate] at h2
    split at h2 <;> cases h2
  have ha:vs[i]? = some v:=by
   unfold z3r at h2;rw[List.getElem?_append_left (by simpa using hi),List.getElem?_map] at h2
   cases e:vs[i]? with
   | none=>rw[e] at h2; cases h2
   | some a=>rw[e] at h2; cases h2; rfl
  obtain⟨u,hu,rv⟩:=r.get ha;have hp:ps[i]? = some y:=by
   rw[<- S.pre,List.getElem?_take_of_lt (by omega)]; exact h1
  have ndP:ps.Nodup:=by rw[<- S.pre]; exact S.nd.sublist (List.take_sublist _ _)
  refine⟨u,rv,?_⟩
  rcases S.par y (List.mem_of_getElem? hp) with k | k
  ·exact .inl ⟨k,zaS ndP hp hu k⟩
  ·obtain⟨c,e⟩:=zcs (n:=s.heap.objs.size+1) k;refine .inr ⟨.inl k,c,e,?_⟩;have q:=x.cell y c e;rw[zaU ndP hp hu (by show scope.names.lookup y≠_; rw[k]; decide)] at q;exact q
 ·exact e0.hok.fresh (Nat.le_of_lt (x.above y c (PySem.mem_of_lookup h)))
 ·unfold z3r;show _=N.length;rw[List.length_append,List.length_map,List.length_replicate];omega
def zmc {CX:CXT}{P:Program}{w:World}{K:W.Frag}{mg:Str->Option Value}{base:Heap}{k:Nat}{f:Addr}{name qual:Str}{params:Arguments}{body:List Stmt}{scope:Scope}{dV kV doc pm cdv ct oc:Value}{an od:Option Addr}
  {osl:Array (Option Value)}{N ps:List Str}{sp:Sp}(lk:K.lookup f=some ⟨oc,od,.func (PySem.W.fnOf name qual params body scope dV kV doc pm an cdv ct),osl⟩) (hcd:PySem.W.codeIn K cdv qual=true) (S:z0c N ps scope)
  (len:∀vs H Q E,sp vs H Q E->vs.length=ps.length)
  (hbody:∀(A:Around) (outer:List Env) (s:Shared) (H:Hp) (vs:List V) (Q:VK) (E:XK),Room k (A.deeper (envOfC qual scope s.heap.objs.size f cdv))->sp vs H Q E->
   ∃t,PSs (cxOf CX P w K mg base N qual scope f cdv A outer s H E) body t/\t { nx:=λ_ H'=>Q .non H',rt:=Q } (z3r N vs) H):
  FnOk P w K mg base CX (k+1) f (PySem.W.fnOf name qual params body scope dV kV doc pm an cdv ct) ps sp:=by
 refine⟨len,λA outer s H args us vs Q E hr e0 hb r hsp =>?_⟩;have hl:=len _ _ _ _ hsp;have KX:K.In s.heap:=e0.mod.kin.keeps λb o e=>(e0.bs b o e).1;have lim:s.heap.NoLimit:=e0.mod.nolimit.keeps λb o e=>(e0.bs b o e).1;have hkind:∀y∈ps.zip us,scope.names.lookup y.1=some .local\/(scope.names.lookup y.1=some .cell/\((cellsFrom (s.heap.objs.size+1) scope.names []).lookup y.1).isSome=true):=λ⟨n,v⟩ hy=>by
  rcases S.par n (List.of_mem_zip hy).1 with q | q
  ·exact .inl q
  ·exact .inr ⟨q,PySem.W.cellsFrom_some _ _ _ (.inl q)⟩
 refine codeAny_call_function hr.depth (KX _ _ lk) rfl S.co S.gen rfl (PySem.W.codeRec_of KX hcd) (hb _ _ _ _ ?_);refine wpAny_newFunctionEnv_cells S.kind hkind λenv he s1 x =>?_;subst he;refine⟨lim.keeps x.toInCall.keep,codeAny_func ?_⟩;obtain⟨t,ht,hq⟩:=hbody A outer s H vs Q E (hr.deeper _) hsp;have I:Inv (cxOf CX P w K mg base N qual scope f cdv A outer s H E) [] (z3r N vs) H s1:=zeA S hr.hd e0 hl r x;refine wpAny_mono (ht [] s1 (z3r N vs) H _ I hq) (λfl s' hs =>?_) λe s' hs=>hs;have fin:∀{σ':St}{H':Hp}{v:V}{u:Value},Inv (cxOf CX P w K mg base N qual scope f cdv A outer s H E) [] σ' H' s'->RelV v u->Q v H'->CE outer P w H s Q u s':=
  λ{σ' H' v u} J rv q=>⟨v,H',J.os,J.bare,J.base,J.hok,rv,q⟩
 cases fl with
 | ret u=>
  obtain⟨v,σ',H',J,rv,q⟩:=hs;exact fin J rv q
 | next=>
  obtain⟨σ',H',J,q⟩:=hs;exact fin (v:=V.non) (u:=Value.none) J rfl q
 | brk=>
  obtain⟨_,_,_,q⟩:=hs;exact False.elim q
 | cont=>
  obtain⟨_,_,_,q⟩:=hs;exact False.elim q
section
variable {X:Cx}{x:Str}{p pos:Pos}{e:Expr}{es:List Expr}{t:TA}{id T:String}{r:List V->Hp->VK->Prop}
def tCB (r:List V->Hp->VK->Prop)(t:TA):TE:=λσ H Q=>t σ H λvs H1=>r vs H1 Q
def zfR (hc:z19 X (.builtin id) r)(hg:Gl X x)(hm:X.mg x=none)(hv:bootBuiltins x=some (.builtin id))(ha:PA X (e::es) t)(hn:x≠"__name__":=by decide)(hdb:(x == ("__debug__":Str))=false:=by decide)
  (he:starEach (e::es) X.env=(false,eval e X.env)::starEach es X.env:=by rfl) (hpl:(backTo pos (starEach es X.env)).any (·.1)=false:=by rfl):PE X (.Call (.Name x p) (e::es) [] pos) (tCB r t):=by
 intro pins s σ H Q I h;refine wpAny_Call_Name_kw (zcb I hg hm hv ?_ hn hdb);exact PyProof.Rows.callWith_builtin1 (thn (ha pos pins s σ H _ I h) λus s1 ⟨vs,H1,I1,r1,q1⟩=>hc pins s1 σ H1 vs us Q I1 r1 q1) he hpl
def ze9 (hc:z19 X (.type T) r)(hg:Gl X x)(hm:X.mg x=none)(hv:bootBuiltins x=some (.type T))(ha:PA X (e::es) t)(hn:x≠"__name__":=by decide)(hdb:(x == ("__debug__":Str))=false:=by decide)
  (he:starEach (e::es) X.env=(false,eval e X.env)::starEach es X.env:=by rfl) (hpl:(backTo pos (starEach es X.env)).any (·.1)=false:=by rfl):PE X (.Call (.Name x p) (e::es) [] pos) (tCB r t):=by
 intro pins s σ H Q I h;refine wpAny_Call_Name_kw (zcb I hg hm hv ?_ hn hdb);exact PyProof.Rows.callWith_type1 (thn (ha pos pins s σ H _ I h) λus s1 ⟨vs,H1,I1,r1,q1⟩=>hc pins s1 σ H1 vs us Q I1 r1 q1) he hpl
end
end L2
namespace HT
open PySem PyProof.Rows
def z3e:List Int->List Int->Bool
 | [],[]=>false
 | [],_::_=>true
 | _::_,[]=>false
 | x::xs,y::ys=>if x=y then z3e xs ys else decide (x<y)
def z2Z (x y:Int)(xs ys:List Int):z3e (x::xs) (y::ys)=if x=y then z3e xs ys else decide (x<y):=rfl
def z9J:z3e [] []=false:=rfl
section
variable {prog:Program}{w:World}{A:Around}{E:Value->Shared->Prop}{s:Shared}
def ziG {t b:Addr}{vs ws:List Value}{Q:Value->Shared->Prop}(ht:IsTup s.heap t vs.toArray)(hb:IsTup s.heap b ws.toArray)(hv:vs≠[])
  (h1:ws=[]->Q (.ref t) s) (h2:ws≠[]->Q (.ref s.heap.objs.size) { s with heap:=s.heap.push { cls :=.type "tuple",data :=.seq (vs++ws).toArray } })
  (hsz:vs.length+ws.length<=sizeLine):wpAny (model prog w) A (binaryOp .Add (.ref t) (.ref b)) Q E s:=by
 obtain⟨⟨cls,dd,data,sl⟩,ho,hc,n,hd⟩:=id ht;obtain⟨⟨cls2,dd2,data2,sl2⟩,ho2,hc2,n2,hd2⟩:=id hb;simp only at hc hd hc2 hd2;subst hc hd hc2 hd2;have e:vs.toArray++ws.toArray=(vs++ws).toArray:=by simp
 by_cases hw:ws=[]
 ·exact concat_meets ⟨_,ho,rfl⟩ ⟨_,ho2,rfl⟩ noFill_tuple_add seq_tuple_add PySem.F.slot_tuple_add PySem.F.entry_tuple_add (PySem.F.args_tuple_add_2 _ _)
   (tuple_addW1 t b vs.toArray ws.toArray n n2 dd dd2 sl sl2 (by simpa using hv) (by simp[hw])) ⟨ho,ho2,h1 hw⟩
 ·refine concat_meets ⟨_,ho,rfl⟩ ⟨_,ho2,rfl⟩ noFill_tuple_add seq_tuple_add PySem.F.slot_tuple_add PySem.F.entry_tuple_add (PySem.F.args_tuple_add_2 _ _)
   (tuple_addW2 t b vs.toArray ws.toArray n n2 dd dd2 sl sl2 (by simpa using hv) (by simpa using hw) (by rw[List.size_toArray,List.size_toArray]; exact hsz)) ⟨ho,ho2,?_⟩
  rw[e];exact h2 hw
def sIx (n d:Nat):Option Int->Nat
 | none=>d
 | some v=>if v<0 then (v+(n:Int)).toNat else min v.toNat n
def zjp (n d:Nat)(hd:d<=n)(o:Option Int):sIx n d o<=n:=by
 cases o with
 | none=>exact hd
 | some v=>
  show (if v<0 then (v+(n:Int)).toNat else min v.toNat n)<=n
  by_cases hv:v<0
  ·rw[if_pos hv]; omega
  ·rw[if_neg hv]; exact Nat.min_le_right _ _
def zeW (v:Int)(n d:Nat):(if v<0 then max (v+(n:Int)) 0 else min v (n:Int))=((sIx n d (some v):Nat):Int):=by
 show (if v<0 then max (v+(n:Int)) 0 else min v (n:Int))=(((if v<0 then (v+(n:Int)).toNat else min v.toNat n):Nat):Int)
 by_cases hv:v<0
 ·simp only[if_pos hv]; omega
 ·simp only[if_neg hv]; omega
def zdd (lo hi:Option Int)(n:Nat):Builtin.Slice.sliceAdjust lo hi 1 (n:Int)=(((sIx n 0 lo:Nat):Int),((sIx n n hi:Nat):Int)):=by
 have h1:¬ ((1:Int)<0):=by omega
 unfold Builtin.Slice.sliceAdjust;simp only[h1,if_false];refine Prod.ext ?_ ?_
 ·cases lo with
  | none=>rfl
  | some v=>exact zeW v n 0
 ·cases hi with
  | none=>rfl
  | some v=>exact zeW v n n
def zcK (i j:Nat):Builtin.Slice.slicePlaces (i:Int) (j:Int) 1=j - i:=by
 unfold Builtin.Slice.slicePlaces;have h1:(1:Int) > 0:=by omega
 simp only[h1,if_true,Int.ediv_one]
 split <;> omega
def z8X {v:Value}{o:Option Int}{Q:Option Int->Shared->Prop}(p:IsPart v o)(h:Q o s):wpAny (model prog w) A (Builtin.Slice.slicePartIndex v) Q E s:=by
 cases p with
 | none=>exact slicePart_none h
 | int i t=>exact slicePart_int h
def z4M {sl:Addr}{vl vu:Value}{lo hi:Option Int}{n:Nat}{Q:Int × Int × Nat->Shared->Prop}(hs:s.heap.IsSliceOf sl vl vu .none)(pl:IsPart vl lo)(pu:IsPart vu hi)
  (h:Q (((sIx n 0 lo:Nat):Int),1,sIx n n hi - sIx n 0 lo) s):wpAny (model prog w) A (Builtin.Slice.sliceApplied (.ref sl) (pure (n:Int))) Q E s:=by
 obtain⟨os,hos,hcs,hds⟩:=id hs;unfold Builtin.Slice.sliceApplied Builtin.Slice.sliceFields;refine wpAny_bind (wpAny_bind (wpAny_field hos hds (x:=vl) rfl (wpAny_bind (wpAny_field hos hds (x:=vu) rfl (wpAny_bind (wpAny_field hos hds (x :=.none) rfl (wpAny_pure ?_)))))));refine wpAny_bind (slicePart_none ?_);show wpAny _ _ (if ((1:Int) == 0)=true then _ else _) _ _ s;rw[if_neg (by decide)];refine wpAny_bind (z8X pl (wpAny_bind (z8X pu (wpAny_bind (wpAny_pure ?_)))));show wpAny _ _ (match Builtin.Slice.sliceAdjust lo hi 1 (n:Int) with | (lo,hi)=>pure (lo,(1:Int),Builtin.Slice.slicePlaces lo hi 1)) _ _ s;rw[zdd lo hi n];show wpAny _ _ (pure (((sIx n 0 lo:Nat):Int),(1:Int),Builtin.Slice.slicePlaces ((sIx n 0 lo:Nat):Int) ((sIx n n hi:Nat):Int) 1)) _ _ s;rw[zcK];exact wpAny_pure h
def zfN (xs:Array Value)(i k:Nat):((List.range k).filterMap λ(m:Nat)=>xs[((i:Int)+(m:Int)*1).toNat]?).toArray=((xs.toList.drop i).take k).toArray:=by
 have e:(λ(m:Nat)=>xs[((i:Int)+(m:Int)*1).toNat]?)=λm=>xs[i+m]? := by
  funext m
  have:((i:Int)+(m:Int)*1).toNat=i+m:=by omega
  rw[this]
 rw[e];have:=pick_run xs i k;rw[List.filterMap_map] at this;have e2:((λx=>xs[x]?) ∘ λx=>i+x)=λm=>xs[i+m]? := rfl;rw[e2] at this;rw[this]
def z77 {t sl:Addr}{items:Array Value}{vl vu:Value}{lo hi:Option Int}{Q:Value->Shared->Prop}(ht:IsTup s.heap t items)(hs:s.heap.IsSliceOf sl vl vu .none)(pl:IsPart vl lo)(pu:IsPart vu hi)
  (hw:¬ (sIx items.size 0 lo=0/\sIx items.size items.size hi=items.size))
  (h:Q (.ref s.heap.objs.size) { s with heap:=s.heap.push { cls :=.type "tuple",data :=.seq ((items.toList.drop (sIx items.size 0 lo)).take (sIx items.size items.size hi - sIx items.size 0 lo)).toArray } })
  (hsz:items.size<=sizeLine):wpAny (model prog w) A (getItem (.ref t) (.ref sl)) Q E s:=by
 have htake:sizeOk (.seq ((items.toList.drop (sIx items.size 0 lo)).take (sIx items.size items.size hi - sIx items.size 0 lo)).toArray):=by
  show ((items.toList.drop (sIx items.size 0 lo)).take (sIx items.size items.size hi - sIx items.size 0 lo)).toArray.size<=sizeLine;rw[List.size_toArray,List.length_take,List.length_drop,Array.length_toList];omega
 have hj:sIx items.size items.size hi<=items.size:=zjp _ _ (Nat.le_refl _) hi;obtain⟨os,hos,hcs,hds⟩:=id hs;have hTs:s.TypeIs (.ref sl) "slice":=⟨os,hos,hcs⟩
 unfold getItem
 try with_reducible refine wpAny_holding ?_
 first | refine wpAny_bind (wpAny_pure ?_) | skip
 refine wpAny_bind (wpAny_sequenceKey ht.typeIs (by decide) ?_);refine wpAny_bind (wpAny_callSpecial?_slot (name:=Str.ofString "__getitem__") ht.typeIs PyProof.Rows.slot_tuple_getitem
  (wpAny_call_entry PyProof.Rows.slot_tuple_getitem ht.typeIs entry_tuple_getitem ?_ (args_tuple_getitem _ _)))
 show wpAny _ _ (Builtin.Tuple.tupleItemsOf (.ref t) >>= _) _ _ s;refine wpAny_bind (tupleItemsOf_ ht ?_);refine wpAny_bind (wpAny_typeOf hTs ?_);rw[if_pos (by decide)];refine wpAny_bind (z4M hs pl pu ?_);have hno:¬ ((((sIx items.size 0 lo:Nat):Int) == 0 && (1:Int) == 1 && (sIx items.size items.size hi - sIx items.size 0 lo) == items.size)=true):=by
  intro q;rw[Bool.and_eq_true,Bool.and_eq_true] at q;have q1:((sIx items.size 0 lo:Nat):Int)=0:=eq_of_beq q.1.1;have q2:sIx items.size items.size hi - sIx items.size 0 lo=items.size:=eq_of_beq q.2;exact hw ⟨by omega,by omega⟩
 show wpAny _ _ (if (((sIx items.size 0 lo:Nat):Int) == 0 && (1:Int) == 1 && (sIx items.size items.size hi - sIx items.size 0 lo) == items.size)=true then _ else _) _ _ s;rw[if_neg hno,zfN]
 first
  | exact wpAny_bind (m:=Builtin.Tuple.tupleExact _) (wpAny_newObj_type (wpAny_pure ⟨_,rfl,wpAny_pure h⟩) htake)
  | exact wpAny_bind (m:=Builtin.Tuple.tupleExact _) (wpAny_newObj_type (wpAny_bind (wpAny_pure (wpAny_pure ⟨_,rfl,wpAny_pure h⟩))) htake)
  | exact wpAny_bind (wpAny_bind (m:=Builtin.Tuple.tupleExact _) (wpAny_newObj_type (wpAny_pure (wpAny_pure ⟨_,rfl,wpAny_pure h⟩)) htake))
  | exact wpAny_bind (wpAny_bind (m:=Builtin.Tuple.tupleExact _) (wpAny_newObj_type (wpAny_pure ⟨_,rfl,wpAny_pure h⟩) htake))
end
end HT
namespace L2
open PySem PySem.Spec PyProof.Rows
abbrev TO:=St->Hp->(Option Int->Hp->Prop)->Prop
def PO (X:Cx)(e:Option Expr)(t:TO):Prop:=
 ∀(pins:List (Addr × Obj)) (s:Shared) (σ:St) (H:Hp) (Q:Option Int->Hp->Prop),Inv X pins σ H s->t σ H Q->
  wpAny (model X.prog X.w) X.A (evalPart e X.env) (λu s'=>∃o H',Inv X pins σ H' s'/\IsPart u o/\Q o H') X.xe s
def zdt:TO:=λ_ H Q=>Q none H
def zj2 (t:TE):TO:=λσ H Q=>t σ H λx H1=>∃i,x = .int i/\Q (some i) H1
section
variable {X:Cx}{e:Expr}{te:TE}{lo hi:Option Expr}{tl th:TO}{pos p2:Pos}
def zhX:PO X none zdt:=by
 intro pins s σ H Q I h;rw[evalPart_none];exact wpAny_pure ⟨none,H,I,.none,h⟩
def zhW (h:PE X e te):PO X (some e) (zj2 te):=by
 intro pins s σ H Q I hw;rw[evalPart_some];refine thn (h pins s σ H _ I hw) λu s1 ⟨x,H1,I1,r1,q1⟩ =>?_;obtain⟨i,rfl,q⟩:=q1;obtain⟨t,rfl⟩:=r1;exact⟨some i,H1,I1,.int i t,q⟩
def SlR (X:Cx)(r:V->Option Int->Option Int->Hp->VK->Prop):Prop:=
 ∀(pins:List (Addr × Obj)) (s:Shared) (σ:St) (H:Hp) (x:V) (v vl vu:Value) (lo hi:Option Int) (sl:Addr) (Q:VK),Inv X pins σ H s->RelV x v->s.heap.IsSliceOf sl vl vu .none->IsPart vl lo->IsPart vu hi->r x lo hi H Q->
  ∃T id,typeLookup (.type T) "__getitem__"=pure (some (.builtin id))/\s.TypeIs v T/\wpAny (model X.prog X.w) X.A (getItem v (.ref sl)) (EP X pins σ Q) X.xe s
def SlR.or {r r':V->Option Int->Option Int->Hp->VK->Prop}(h:SlR X r)(h':SlR X r'):SlR X (λx lo hi H Q=>r x lo hi H Q\/r' x lo hi H Q):=by
 intro pins s σ H x v vl vu lo hi sl Q I rx hs pl pu q
 rcases q with q | q
 ·exact h pins s σ H x v vl vu lo hi sl Q I rx hs pl pu q
 ·exact h' pins s σ H x v vl vu lo hi sl Q I rx hs pl pu q
def tSl (r:V->Option Int->Option Int->Hp->VK->Prop)(te:TE)(tl th:TO):TE:=λσ H Q=>te σ H λx H1=>tl σ H1 λl H2=>th σ H2 λu H3=>r x l u H3 Q
def zfP {r:V->Option Int->Option Int->Hp->VK->Prop}(hr:SlR X r)(he:PE X e te)(hl:PO X lo tl)(hu:PO X hi th):PE X (.Subscript e (.Slice lo hi none p2) pos) (tSl r te tl th):=by
 intro pins s σ H Q I h;refine Subscript_ (thn (he pins s σ H _ I h) λv s1 ⟨x,H1,I1,r1,q1⟩ =>?_);refine wpAny_Slice (thn (hl pins s1 σ H1 _ I1 q1) λvl s2 ⟨l,H2,I2,pl,q2⟩=>thn (hu pins s2 σ H2 _ I2 q2) λvu s3 ⟨u,H3,I3,pu,q3⟩ =>?_);rw[evalPart_none];refine wpAny_pure ?_;have I4:Inv X pins σ H3 { s3 with heap:=s3.heap.push { cls :=.type "slice",data :=.fields #[vl,vu,.none] } }:=I3.kept (t':=s3.toks) λb ob q=>Heap.get?_push_of_some _ q;obtain⟨T,id,hT,ht,hg⟩:=hr pins { s3 with heap:=s3.heap.push { cls :=.type "slice",data :=.fields #[vl,vu,.none] } } σ H3 x v vl vu l u s3.heap.objs.size Q I4 r1 (Heap.IsSliceOf.new ..) pl pu q3;show wpAny (model X.prog X.w) X.A (subscriptTail e (.Slice lo hi none p2) v (.ref s3.heap.objs.size)) (EP X pins σ Q) X.xe { s3 with heap:=s3.heap.push { cls :=.type "slice",data :=.fields #[vl,vu,.none] } };exact tail_any (ops:=[.ref s3.heap.objs.size,v]) ht hT hg (by with_unfolding_all rfl)
def cutV (xs:List V)(lo hi:Option Int):List V:=(xs.drop (HT.sIx xs.length 0 lo)).take (HT.sIx xs.length xs.length hi - HT.sIx xs.length 0 lo)
def z8p (xs:List V)(lo hi:Option Int):(cutV xs lo hi).length<=xs.length:=by
 unfold cutV;rw[List.length_take,List.length_drop];omega
def rSlT (K:W.Frag):V->Option Int->Option Int->Hp->VK->Prop:=λx lo hi H Q=>∃a xs,x = .ref a/\SqT K H a xs/\
 ¬ (HT.sIx xs.length 0 lo=0/\HT.sIx xs.length xs.length hi=xs.length)/\∀p,H p=none->Q (.ref p) (upd H p (.tup (cutV xs lo hi)))
def zja:SlR X (rSlT X.K):=by
 intro pins s σ H x v vl vu lo hi sl Q I rx hs pl pu h;obtain⟨a,xs,rfl,hx,hw,q⟩:=h
 cases rx
 obtain⟨its,r,ht,hz⟩:=I.tuple hx;have hlen:its.toArray.size=xs.length:=by rw[List.size_toArray]; exact r.length.symm
 refine⟨"tuple",_,PyProof.Rows.slot_tuple_getitem.lookup,ht.typeIs,?_⟩;refine HT.z77 ht hs pl pu (by rw[hlen]; exact hw) ?_ (by rw[hlen]; exact hz);rw[hlen];refine⟨.ref s.heap.objs.size,_,I.laid (t':=s.toks) (o :=.tup (cutV xs lo hi)) (λb ob q=>Heap.get?_push_of_some _ q) (Nat.le_refl _) ?_,rfl,q _ (I.hok.fresh (Nat.le_refl _))⟩;exact⟨Nat.le_trans (z8p xs lo hi) hz,_,(r.drop (HT.sIx xs.length 0 lo)).take (HT.sIx xs.length xs.length hi - HT.sIx xs.length 0 lo),IsTup.new _ _,_,Heap.get?_push_size _ rfl,rfl⟩
def zlw (K:W.Frag):R2:=λx y H Q=>∃a b xs ys,x = .ref a/\y = .ref b/\SqT K H a xs/\SqT K H b ys/\xs≠[]/\xs.length+ys.length<=sizeLine/\
 (ys=[]->Q (.ref a) H)/\(ys≠[]->∀p,H p=none->Q (.ref p) (upd H p (.tup (xs++ys))))
def Vals.nil_iff {xs:List V}{us:List Value}(r:Vals xs us):us=[]↔xs=[]:=by
 cases r with
 | nil=>simp
 | cons _ _=>simp
def zic:OpR X (binaryOp .Add) (zlw X.K):=by
 intro pins s σ H x y v u Q I rx ry h;obtain⟨a,b,xs,ys,rfl,rfl,ha,hb,hx,hz,q1,q2⟩:=h
 cases rx
 cases ry
 obtain⟨its,r1,p1,_⟩:=I.tuple ha;obtain⟨its2,r2,p2,_⟩:=I.tuple hb;refine HT.ziG p1 p2 (λz=>hx (r1.nil_iff.mp z)) (λz=>⟨.ref a,H,I,rfl,q1 (r2.nil_iff.mp z)⟩) (λz =>?_) (by rw[<- r1.length, <- r2.length]; exact hz);refine⟨.ref s.heap.objs.size,_,I.laid (t':=s.toks) (o :=.tup (xs++ys)) (λb ob q=>Heap.get?_push_of_some _ q) (Nat.le_refl _) ?_,rfl,q2 (λw=>z (r2.nil_iff.mpr w)) _ (I.hok.fresh (Nat.le_refl _))⟩;exact⟨by rw[List.length_append]; exact hz,_,r1.append r2,IsTup.new _ _,_,Heap.get?_push_size _ rfl,rfl⟩
end
def ixN (n:Nat)(i:Int):Option Nat:=if 0<=i then (if i<n then some i.toNat else none) else if -(n:Int)<=i then some (i+n).toNat else none
def atI {α:Type}(xs:List α)(i:Int):Option α:=(ixN xs.length i).bind λj=>xs[j]?
def zex {n:Nat}{i:Int}{j:Nat}(h:ixN n i=some j):seqIndex? i n=some j/\j<n /\ -(n:Int)<=i/\i<n:=by
 unfold ixN at h
 by_cases h0:0<=i
 ·rw[if_pos h0] at h
  by_cases h1:i<n
  ·rw[if_pos h1] at h;have e:i.toNat=j:=Option.some.inj h;exact⟨by rw[seqIndex_of h0 h1,e],by omega,by omega,h1⟩
  ·rw[if_neg h1] at h; cases h
 ·rw[if_neg h0] at h
  by_cases h1 : -(n:Int)<=i
  ·rw[if_pos h1] at h;have e:(i+n).toNat=j:=Option.some.inj h;exact⟨by rw[seqIndex_neg (by omega) h1,e],by omega,h1,by omega⟩
  ·rw[if_neg h1] at h; cases h
def zbF {α:Type}{xs:List α}{i:Int}{v:α}(h:atI xs i=some v):∃j,seqIndex? i xs.length=some j/\xs[j]? = some v/\j<xs.length /\ -(xs.length:Int)<=i/\i<xs.length:=by
 unfold atI at h
 cases e:ixN xs.length i with
 | none=>rw[e] at h; cases h
 | some j=>
  rw[e] at h;obtain⟨h1,h2,h3,h4⟩:=zex e;exact⟨j,h1,h,h2,h3,h4⟩
def ziH {α:Type}{xs:List α}{j:Nat}{v:α}(h:xs[j]? = some v):atI xs (j:Int)=some v:=by
 have hj:j<xs.length:=(List.getElem?_eq_some_iff.mp h).1;have e:ixN xs.length (j:Int)=some j:=by
  unfold ixN;rw[if_pos (by omega),if_pos (by omega)]; simp
 unfold atI; rw[e]; exact h
def zbH (b:Expr):Prop:=∀o i,subscripted b false o i=operate [o,i] (getItem o i)
def IxR (X:Cx)(r:R2):Prop:=
 ∀(value slice:Expr) (pins:List (Addr × Obj)) (s:Shared) (σ:St) (H:Hp) (x y:V) (v u:Value) (Q:VK),Inv X pins σ H s->RelV x v->RelV y u->r x y H Q->
  subscripted slice false v u=operate [v,u] (getItem v u)->wpAny (model X.prog X.w) X.A (subscriptTail value slice v u) (EP X pins σ Q) X.xe s
def MtR (X:Cx)(id:String)(r:V->List V->Hp->VK->Prop):Prop:=
 ∀(pins:List (Addr × Obj)) (s:Shared) (σ:St) (H:Hp) (x:V) (xs:List V) (v:Value) (us:List Value) (Q:VK),Inv X pins σ H s->RelV x v->Vals xs us->r x xs H Q->
  wpAny (model X.prog X.w) X.A (call (.builtin id) (v::us)) (EP X pins σ Q) X.xe s
section
variable {X:Cx}{a b:Expr}{ta tb:TE}{pos:Pos}
def IxR.or {r r':R2}(h:IxR X r)(h':IxR X r'):IxR X (λx y H Q=>r x y H Q\/r' x y H Q):=by
 intro value slice pins s σ H x y v u Q I rx ry q hs
 rcases q with q | q
 ·exact h value slice pins s σ H x y v u Q I rx ry q hs
 ·exact h' value slice pins s σ H x y v u Q I rx ry q hs
def zlM {r:R2}(hr:IxR X r)(ha:PE X a ta)(hb:PE X b tb)(hs:zbH b):PE X (.Subscript a b pos) (tOp r ta tb):=by
 intro pins s σ H Q I h;exact Subscript_ (binT ha hb I h λv u s2 x y H2 I2 rx ry q=>hr a b pins s2 σ H2 x y v u Q I2 rx ry q (hs _ _))
def rIxL (K:W.Frag):R2:=λx y H Q=>∃p xs i v,x = .ref p/\y = .int i/\SqL K H p xs/\atI xs i=some v/\Q v H
def rIxT (K:W.Frag):R2:=λx y H Q=>∃p xs i v,x = .ref p/\y = .int i/\SqT K H p xs/\atI xs i=some v/\Q v H
def rIxS:R2:=λx y H Q=>∃z i c,x = .str z/\y = .int i/\z.length<=sizeLine/\atI z.cps.toList i=some c/\Q (.str ⟨#[c]⟩) H
def ziu:IxR X (rIxL X.K):=by
 intro value slice pins s σ H x y v u Q I rx ry h hs;obtain⟨p,xs,i,z,rfl,rfl,hq,he,q⟩:=h
 cases rx
 obtain⟨t,rfl⟩:=ry;obtain⟨its,r,pl,hz⟩:=I.list hq;obtain⟨j,h1,h2,h3,h4,h5⟩:=zbF he;obtain⟨w,ew,rw'⟩:=r.get h2;have hl:=r.length;have hn:=z7W;have fin:EP X pins σ Q w s:=⟨z,H,I,rw',q⟩
 by_cases h0:0<=i
 ·have hj:i.toNat=j:=by
   rw[seqIndex_of h0 h5] at h1;exact Option.some.inj h1
  exact item_listR pl.isList h0 (by omega) (by rw[hj]; simpa using ew) fin hs
 ·have hj:(i+(its.toArray.size:Int)).toNat=j:=by
   rw[seqIndex_neg (by omega) h4] at h1;rw[List.size_toArray, <- hl];exact Option.some.inj h1
  exact subscriptTail_builtinR (x:=w) pl.isList.typeIs slot_list_getitem.lookup
   (wpAny_getItem_list_neg (Q:=λr s'=>r=w/\EP X pins σ Q r s') pl.isList (by omega) (by rw[List.size_toArray] <;> omega) (by omega) (by rw[hj]; simpa using ew) ⟨rfl,fin⟩) hs
def zkU:IxR X (rIxT X.K):=by
 intro value slice pins s σ H x y v u Q I rx ry h hs;obtain⟨p,xs,i,z,rfl,rfl,hq,he,q⟩:=h
 cases rx
 obtain⟨t,rfl⟩:=ry;obtain⟨its,r,pl,hz⟩:=I.tuple hq;obtain⟨j,h1,h2,h3,h4,h5⟩:=zbF he;obtain⟨w,ew,rw'⟩:=r.get h2;have hl:=r.length;have hn:=z7W;have fin:EP X pins σ Q w s:=⟨z,H,I,rw',q⟩
 exact subscriptTail_builtinR (x:=w) pl.typeIs slot_tuple_getitem.lookup
  (getItem_tuple (j:=j) (Q:=λr s'=>r=w/\EP X pins σ Q r s') pl (by omega) (by omega) (by rw[List.size_toArray, <- hl]; exact h1) (by simpa using ew) ⟨rfl,fin⟩) hs
def zkV:IxR X rIxS:=by
 intro value slice pins s σ H x y v u Q I rx ry h hs;obtain⟨z,i,c,rfl,rfl,hz,he,q⟩:=h;obtain⟨t,rfl⟩:=rx;obtain⟨t',rfl⟩:=ry;obtain⟨j,h1,h2,h3,h4,h5⟩:=zbF he;have hl:z.cps.toList.length=z.length:=by simp[Str.length]
 rw[hl] at h1 h4 h5;have hn:=z7W;exact tail_any (typeIs_str s z t) slot_str_getitem.lookup (getItem_str (c:=c) (by
  have e1:decide (i < -(2 ^ 63:Int))=false:=decide_eq_false (by omega);have e2:decide (i>=2 ^ 63)=false:=decide_eq_false (by omega);rw[e1,e2,Bool.or_false]) (by rw[h1]; simpa using h2) ⟨.str ⟨#[c]⟩,H,I.tok _,⟨_,rfl⟩,q⟩) hs
def rIx (K:W.Frag):R2:=λx y H Q=>rIxL K x y H Q\/rIxT K x y H Q\/rIxS x y H Q
def zkW:IxR X (rIx X.K):=ziu.or (zkU.or zkV)
def zcT (its:List Value)(n j:Nat)(u:Value):Obj.mapSeq (·.setIfInBounds j u) { cls :=.type "list",data :=.seq its.toArray n }={ cls :=.type "list",data :=.seq (its.set j u).toArray n }:=by
 simp[Obj.mapSeq]
def Inv.lst {pins:List (Addr × Obj)}{σ:St}{H:Hp}{s:Shared}{p:Addr}{xs:List V}(I:Inv X pins σ H s)(h:H p=some (.lst xs)):
  ∃(its:List Value) (n:Nat),Vals xs its/\s.heap.get? p=some { cls :=.type "list",data :=.seq its.toArray n }/\xs.length<=sizeLine:=by
 obtain⟨z,its,n,r,e⟩:=I.hok p _ h;exact⟨its,n,r,e,z⟩
def Inv.lstUpd {pins:List (Addr × Obj)}{σ:St}{H:Hp}{s:Shared}{p:Addr}{xs ys:List V}{its its':List Value}{n n':Nat}{f:Obj->Obj}(I:Inv X pins σ H s)(h:H p=some (.lst xs))
  (ho:s.heap.get? p=some { cls :=.type "list",data :=.seq its.toArray n }) (hf:f { cls :=.type "list",data :=.seq its.toArray n }={ cls :=.type "list",data :=.seq its'.toArray n' }) (r:Vals ys its') (hz:ys.length<=sizeLine) (t:Nat):
  Inv X pins σ (upd H p (.lst ys)) { s with heap:=s.heap.update p f,toks:=t }:=by
 have e:(s.heap.update p f).get? p=some { cls :=.type "list",data :=.seq its'.toArray n' }:=by
  rw[Heap.get?_update_self f ho (by rw[hf] <;> rfl),hf]
 refine I.write (x:=p) (e:=p) (by rw[h]; trivial) (.inl rfl) (λb u hb q=>(Heap.get?_update_other _ _ (Ne.symm hb)).trans q) ⟨_,e⟩ ?_;exact⟨hz,its',n',r,e⟩
def zlq:V->V->V->Hp->(Hp->Prop)->Prop:=λo i v H Q=>∃p xs k j,o = .ref p/\i = .int k/\H p=some (.lst xs)/\ixN xs.length k=some j/\Q (upd H p (.lst (xs.set j v)))
def zfr:PSet X zlq:=by
 intro pins s σ H o i v ov iv u Q I ro ri rv h;obtain⟨p,xs,k,j,rfl,rfl,hp,hj,q⟩:=h
 cases ro
 obtain⟨t,rfl⟩:=ri;obtain⟨its,n,r,ho,hz⟩:=I.lst hp;obtain⟨h1,h2,h3,h4⟩:=zex hj;have hl:=r.length;have hn:=z7W;have I':Inv X pins σ (upd H p (.lst (xs.set j v))) { s with heap:=s.heap.update p (Obj.mapSeq (·.setIfInBounds j u)) }:=
  I.lstUpd hp ho (zcT its n j u) (r.set rv j) (by rw[List.length_set]; exact hz) s.toks
 by_cases h0:0<=k
 ·have hk:k.toNat=j:=by
   rw[seqIndex_of h0 h4] at h1;exact Option.some.inj h1
  exact PySem.W.ki_setAt ho h0 (by omega) (by rw[List.size_toArray, <- hl]; exact h4) (by rw[hk]; exact⟨_,I',q⟩)
 ·have hk:(k+(its.toArray.size:Int)).toNat=j:=by
   rw[seqIndex_neg (by omega) h3] at h1;rw[List.size_toArray, <- hl];exact Option.some.inj h1
  exact PySem.W.ki_setBack ho (by omega) (by rw[List.size_toArray, <- hl]; exact h3) (by omega) (by rw[hk]; exact⟨_,I',q⟩)
def zac (lo hi:Option Int)(n:Nat):(sliceBounds lo hi none n).1=((HT.sIx n 0 lo:Nat):Int)/\(sliceBounds lo hi none n).2.1=((HT.sIx n n hi:Nat):Int)/\(sliceBounds lo hi none n).2.2=1:=by
 refine⟨?_,?_,rfl⟩
 ·cases lo with
  | none=>simp[sliceBounds,HT.sIx]
  | some i=>
   simp only[sliceBounds,HT.sIx,Option.getD_none,show (1:Int) > 0 by decide,if_true]
   by_cases h:i<0
   ·simp only[h,if_true] <;> omega
   ·simp only[h,if_false] <;> omega
 ·cases hi with
  | none=>simp[sliceBounds,HT.sIx]
  | some i=>
   simp only[sliceBounds,HT.sIx,Option.getD_none,show (1:Int) > 0 by decide,if_true]
   by_cases h:i<0
   ·simp only[h,if_true] <;> omega
   ·simp only[h,if_false] <;> omega
def z9i (its:List Value)(lo hi:Option Int):slicePick its.toArray lo hi none=((its.drop (HT.sIx its.length 0 lo)).take (HT.sIx its.length its.length hi - HT.sIx its.length 0 lo)).toArray:=by
 obtain⟨h1,h2,h3⟩:=zac lo hi its.toArray.size;unfold slicePick;rw[h1,h2,h3];simp only[sliceRange_one,pick_run,List.size_toArray] <;> rfl
def rSlL (K:W.Frag):V->Option Int->Option Int->Hp->VK->Prop:=λx lo hi H Q=>∃a xs,x = .ref a/\SqL K H a xs/\∀p,H p=none->Q (.ref p) (upd H p (.lst (cutV xs lo hi)))
def zhq:SlR X (rSlL X.K):=by
 intro pins s σ H x v vl vu lo hi sl Q I rx hs pl pu h;obtain⟨a,xs,rfl,hx,q⟩:=h
 cases rx
 obtain⟨its,r,ht,hz⟩:=I.list hx;have hlen:=r.length;refine⟨"list",_,slot_list_getitem.lookup,ht.isList.typeIs,?_⟩;refine wpAny_getItem_list_slice ht.isList hs pl pu .none (by simp) ?_ (by rw[List.size_toArray] <;> omega);rw[z9i, <- hlen];refine⟨.ref s.heap.objs.size,_,I.laid (t':=s.toks) (o :=.lst (cutV xs lo hi)) (λb ob q=>Heap.get?_push_of_some _ q) (Nat.le_refl _) ?_,rfl,q _ (I.hok.fresh (Nat.le_refl _))⟩;exact⟨Nat.le_trans (z8p xs lo hi) hz,_,0,(r.drop (HT.sIx xs.length 0 lo)).take (HT.sIx xs.length xs.length hi - HT.sIx xs.length 0 lo),Heap.get?_push_size _ rfl⟩
def zaQ:z19 X (.builtin "len") (λxs H Q=>∃p ys,xs=[.ref p]/\(SqL X.K H p ys\/SqT X.K H p ys)/\Q (.int ys.length) H):=by
 intro pins s σ H xs us Q I r h;obtain⟨p,ys,rfl,hq,q⟩:=h;obtain⟨u,rfl,rx⟩:=z4V r
 cases rx
 have hn:=z7W
 rcases hq with hq | hq
 ·obtain⟨its,r',pl,hz⟩:=I.list hq;have hlen:=r'.length;exact Calls.call_len_list pl.isList (by simp only[List.size_toArray] <;> omega) ⟨.int ys.length,H,I.tok _,⟨s.toks+1,by rw[List.size_toArray,hlen]⟩,q⟩
 ·obtain⟨its,r',pl,hz⟩:=I.tuple hq;have hlen:=r'.length;exact len_tuple pl (by simp only[List.size_toArray] <;> omega) ⟨.int ys.length,H,I.tok _,⟨s.toks+1,by rw[List.size_toArray,hlen]⟩,q⟩
def zaP:z19 X (.builtin "len") (λxs H Q=>∃z,xs=[.str z]/\z.length<=sizeLine/\Q (.int z.length) H):=by
 intro pins s σ H xs us Q I r h;obtain⟨z,rfl,hz,q⟩:=h;obtain⟨u,rfl,t,rfl⟩:=z4V r;have hn:=z7W;exact len_str (by omega) ⟨.int z.length,H,I.tok _,⟨_,rfl⟩,q⟩
def z19.or {f:Value}{r r':List V->Hp->VK->Prop}(h:z19 X f r)(h':z19 X f r'):z19 X f (λxs H Q=>r xs H Q\/r' xs H Q):=by
 intro pins s σ H xs us Q I rs q
 rcases q with q | q
 ·exact h pins s σ H xs us Q I rs q
 ·exact h' pins s σ H xs us Q I rs q
def z9Y:z19 X (.type "tuple") (λxs H Q=>∃p ys,xs=[.ref p]/\((SqL X.K H p ys/\∀l,H l=none->Q (.ref l) (upd H l (.tup ys)))\/(SqT X.K H p ys/\Q (.ref p) H))):=by
 intro pins s σ H xs us Q I r h;obtain⟨p,ys,rfl,h⟩:=h;obtain⟨u,rfl,rx⟩:=z4V r
 cases rx
 rcases h with ⟨hq,q⟩ | ⟨hq,q⟩
 ·obtain⟨its,r',pl,hz⟩:=I.list hq;have hlen:=r'.length;refine call_tuple_list pl.isList (λh' kp =>?_) (by simp only[List.size_toArray] <;> omega);have I1:Inv X pins σ H { s with heap:=h' }:=I.kept (t':=s.toks) kp;have I2:Inv X pins σ (upd H h'.objs.size (.tup ys)) { s with heap:=h'.push { cls :=.type "tuple",data :=.seq its.toArray } }:=
   I1.laid (t':=s.toks) (λb o e=>Heap.get?_push_of_some _ e) (Nat.le_refl _) (show z3C X.prog X.w _ _ _ (.tup ys) from ⟨hz,its,r',IsTup.new _ _,_,Heap.get?_push_size _ rfl,rfl⟩)
  exact⟨.ref h'.objs.size,_,I2,rfl,q _ (I1.hok.fresh (Nat.le_refl _))⟩
 ·obtain⟨its,r',pl,hz⟩:=I.tuple hq;exact call_tuple_same pl ⟨.ref p,H,I,rfl,q⟩
def tyV (K:W.Frag)(T:String)(x:V)(H:Hp):Prop:=match x with
 | .str _=>T="str"
 | .int _=>T="int"
 | .ref p=>(T="list"/\∃xs,SqL K H p xs)\/(T="tuple"/\∃o,K.lookup p=some o/\o.cls = .type "tuple"/\o.dict=none)\/
   (T="dict"/\((∃kvs,H p=some (.dK kvs))\/∃kvs,H p=some (.dT kvs)))\/(T="set"/\∃S n,H p=some (.set S n))
 | _=>False
def zgB {pins:List (Addr × Obj)}{σ:St}{H:Hp}{s:Shared}{T:String}{x:V}{v:Value}(I:Inv X pins σ H s)(r:RelV x v)(ty:tyV X.K T x H):
  s.TypeIs v T/\∀a,v = .ref a->∃ob,s.heap.get? a=some ob/\ob.dict=none:=by
 cases x with
 | str z=>
  obtain⟨t,rfl⟩:=r
  cases (show T="str" from ty)
  exact⟨typeIs_str s z t,λ_ e=>nomatch e⟩
 | int i=>
  obtain⟨t,rfl⟩:=r
  cases (show T="int" from ty)
  exact⟨typeIs_int s i t,λ_ e=>nomatch e⟩
 | ref p=>
  cases r
  rcases ty with ⟨rfl,xs,hq⟩ | ⟨rfl,o,hk,hc,hd⟩ | ⟨rfl,hk⟩ | ⟨rfl,S,n,hk⟩
  ·obtain⟨its,_,pl,_⟩:=I.list hq;refine⟨pl.isList.typeIs,λa e =>?_⟩
   cases e
   obtain⟨o,n,e,c,hd,_⟩:=pl;exact⟨o,e,hd⟩
  ·refine⟨⟨o,I.kIn p o hk,hc⟩,λa e =>?_⟩
   cases e
   exact⟨o,I.kIn _ o hk,hd⟩
  ·have z:∃o,s.heap.get? p=some o/\o.ExactDict:=by
    rcases hk with ⟨kvs,hk⟩ | ⟨kvs,hk⟩
    ·obtain⟨_,_,_,_,o,_,_,e,ex,_⟩:=I.hok p _ hk;exact⟨o,e,ex⟩
    ·obtain⟨_,_,_,_,o,_,_,e,ex,_⟩:=I.hok p _ hk;exact⟨o,e,ex⟩
   obtain⟨o,e,ex⟩:=z;refine⟨⟨o,e,ex.1⟩,λa e2 =>?_⟩
   cases e2
   exact⟨o,e,ex.2.1⟩
  ·obtain⟨o,_,_,_,e,ex,_⟩:=I.hok p _ hk;refine⟨⟨o,e,ex.1⟩,λa e2 =>?_⟩
   cases e2
   exact⟨o,e,ex.2.1⟩
 | _=>exact False.elim ty
def tBM0 (K:W.Frag)(T:String)(r:V->List V->Hp->VK->Prop)(to:TE):TE:=λσ H Q=>to σ H λx H1=>tyV K T x H1/\r x [] H1 Q
def tBM (K:W.Frag)(T:String)(r:V->List V->Hp->VK->Prop)(to:TE)(t:TA):TE:=λσ H Q=>to σ H λx H1=>tyV K T x H1/\t σ H1 λxs H2=>r x xs H2 Q
variable {o e:Expr}{es:List Expr}{to:TE}{t:TA}{name:Str}{apos cpos:Pos}{T id:String}{r:V->List V->Hp->VK->Prop}
def zkb (pa:PlainAttrs T)(slot:Slot T name id)(hty:typeOf (.builtin id)=pure (.type "method_descriptor"))(hm:MtR X id r)(ho:PE X o to)
  (hbase:attributeBase o name X.env (eval o X.env)=eval o X.env:=by rfl) (hline:(apos.endLine == cpos.line)=true:=by rfl):PE X (.Call (.Attribute o name apos) [] [] cpos) (tBM0 X.K T r to):=by
 intro pins s σ H Q I h;refine wpAny_Call_method0_late hbase hline (thn (ho pins s σ H _ I h) λv s1 ⟨x,H1,I1,r1,ty,q1⟩ =>?_);obtain⟨h1,h2⟩:=zgB I1 r1 ty;exact⟨T,id,pa,slot,hty,h1,h2,Calls.callWith_builtin rfl (PySem.evalArgs_none (hm pins s1 σ H1 x [] v [] Q I1 r1 .nil q1))⟩
def zlO (pa:PlainAttrs T)(slot:Slot T name id)(hty:typeOf (.builtin id)=pure (.type "method_descriptor"))(hm:MtR X id r)(ho:PE X o to)(ha:PA X (e::es) t)
  (hbase:attributeBase o name X.env (eval o X.env)=eval o X.env:=by rfl)
  (hfew:((backTo cpos (starEach (e::es) X.env)).all (λx => !x.1) && (backToKw cpos (keywordEach [] X.env)).all (λx=>x.1.isSome)
   && decide ((e::es).length+([]:List Keyword).length+(if ([]:List Keyword).isEmpty then 0 else 1)<30))=true:=by rfl)
  (hline:(apos.endLine == cpos.line)=true:=by rfl) (hs:starEach (e::es) X.env=(false,eval e X.env)::starEach es X.env:=by rfl) (hplain:(backTo cpos (starEach es X.env)).any (·.1)=false:=by rfl):
  PE X (.Call (.Attribute o name apos) (e::es) [] cpos) (tBM X.K T r to t):=by
 intro pins s σ H Q I h;refine wpAny_Call_method_late hbase hfew hline rfl (thn (ho pins s σ H _ I h) λv s1 ⟨x,H1,I1,r1,ty,q1⟩ =>?_);obtain⟨h1,h2⟩:=zgB I1 r1 ty;refine⟨T,id,pa,slot,hty,h1,h2,?_⟩;have hA:=ha cpos pins s1 σ H1 _ I1 q1;rw[hs] at hA ⊢;refine Calls.callWith_builtin (by show (false || (backTo cpos (starEach es X.env)).any (·.1))=false; rw[hplain] <;> rfl) (Calls.evalArgs_plain ?_);exact thn hA λus s2 ⟨vs,H2,I2,r2,q2⟩=>hm pins s2 σ H2 x vs v us Q I2 r1 r2 q2
end
def MtM (X:Cx)(id:String)(r:V->List V->Hp->VK->Prop):Prop:=
 ∀(pins:List (Addr × Obj)) (s:Shared) (σ:St) (H:Hp) (x:V) (xs:List V) (v:Value) (us:List Value) (Q:VK),Inv X pins σ H s->RelV x v->Vals xs us->r x xs H Q->
  wpAny (model X.prog X.w) X.A (call (.builtin id) (v::us)) (EP X pins σ Q) X.xe s
def Vals.one:∀{x:V}{us:List Value},Vals [x] us->∃u,us=[u]/\RelV x u
 | _,_,.cons r .nil=>⟨_,rfl,r⟩
def Vals.zero:∀{us:List Value},Vals [] us->us=[]
 | _,.nil=>rfl
def Vals.dropLast {xs:List V}{us:List Value}(h:Vals xs us):Vals xs.dropLast us.dropLast:=by
 induction h with
 | nil=>exact .nil
 | cons r t ih=>
  cases t with
  | nil=>exact .nil
  | cons q t'=>exact .cons r ih
def Vals.reverse {xs:List V}{us:List Value}(h:Vals xs us):Vals xs.reverse us.reverse:=by
 induction h with
 | nil=>exact .nil
 | cons r t ih=>rw[List.reverse_cons,List.reverse_cons]; exact Vals.append ih (.cons r .nil)
def zd7 {α:Type}(l:List α):l.eraseIdx (l.length - 1)=l.dropLast:=by
 induction l with
 | nil=>rfl
 | cons a r ih=>
  cases r with
  | nil=>rfl
  | cons b r=>
   have e:(a::b::r).length - 1=((b::r).length - 1)+1:=by
    have h1:(a::b::r).length=r.length+2:=rfl;have h2:(b::r).length=r.length+1:=rfl;omega
   rw[e,List.eraseIdx_cons_succ,ih]
   all_goals rfl
section
variable {X:Cx}{pins:List (Addr × Obj)}{σ:St}{H:Hp}{s:Shared}{l b:Addr}{xs ys zs:List V}
def Inv.lset {its its':List Value}{n:Nat}{f:Array Value->Array Value}{t':Nat}(I:Inv X pins σ H s)(hH:H l=some (.lst xs))
  (e:s.heap.get? l=some { cls :=.type "list",data :=.seq its.toArray n }) (hf:f its.toArray=its'.toArray) (hv:Vals ys its') (hz:ys.length<=sizeLine):
  Inv X pins σ (upd H l (.lst ys)) { s with heap:=s.heap.update l (Obj.mapSeq f),toks:=t' }:=by
 have q:=PySem.IsL.update e f;rw[hf] at q;refine I.write (x:=l) (e:=l) (by rw[hH]; exact trivial) (.inl rfl) (λb' u hb hu=>(Heap.get?_update_other s.heap (Obj.mapSeq f) (Ne.symm hb)).trans hu) ⟨_,q⟩ ?_;exact⟨hz,its',_,hv,q⟩
def Inv.lnew {its:List Value}{t':Nat}(I:Inv X pins σ H s)(hv:Vals ys its)(hz:ys.length<=sizeLine):
  Inv X pins σ (upd H s.heap.objs.size (.lst ys)) { s with heap:=s.heap.push { cls :=.type "list",data :=.seq its.toArray },toks:=t' }:=
 I.laid (λ_ _ q=>Heap.get?_push_of_some _ q) (Nat.le_refl _) ⟨hz,its,0,hv,Heap.get?_push_size _ rfl⟩
def Inv.fresh (I:Inv X pins σ H s):H s.heap.objs.size=none:=I.hok.fresh (Nat.le_refl _)
def Inv.lstM (I:Inv X pins σ H s)(hH:H l=some (.lst xs)):xs.length<=sizeLine/\∃(its:List Value) (n:Nat),Vals xs its/\xs.length=its.length/\s.heap.get? l=some { cls :=.type "list",data :=.seq its.toArray n }:=by
 obtain⟨z,its,n,r,e⟩:=I.hok l _ hH;exact⟨z,its,n,r,r.length,e⟩
end
section
variable {X:Cx}
def zdP:V->List V->Hp->VK->Prop:=λx vs H Q=>∃l xs y,x = .ref l/\vs=[y]/\H l=some (.lst xs)/\xs.length<sizeLine/\Q .non (upd H l (.lst (xs++[y])))
def zep:MtM X "list.append" zdP:=by
 intro pins s σ H x vs v us Q I rx rv h;obtain⟨l,xs,y,rfl,rfl,hH,hz,q⟩:=h
 cases rx
 obtain⟨u,rfl,ru⟩:=rv.one;obtain⟨z,its,n,r,hl,e⟩:=I.lstM hH;refine call_meets F.slot_list_append ⟨_,e,rfl⟩ F.entry_list_append (F.args_list_append_2 _ _) (PySem.list_append l its.toArray n u (by rw[List.size_toArray]; omega)) ⟨e,?_⟩;refine⟨.non,_,I.lset (its':=its++[u]) hH e (by simp) (r.append (.cons ru .nil)) ?_,rfl,q⟩;rw[List.length_append,List.length_singleton];omega
def rPop:V->List V->Hp->VK->Prop:=λx vs H Q=>∃l xs y,x = .ref l/\vs=[]/\H l=some (.lst xs)/\xs[xs.length - 1]? = some y/\Q y (upd H l (.lst xs.dropLast))
def zkL:MtM X "list.pop" rPop:=by
 intro pins s σ H x vs v us Q I rx rv h;obtain⟨l,xs,y,rfl,rfl,hH,hy,q⟩:=h
 cases rx
 have hus:=rv.zero;subst hus;obtain⟨z,its,n,r,hl,e⟩:=I.lstM hH;obtain⟨u,hu,ru⟩:=r.get hy;have hy':its.toArray[its.toArray.size - 1]? = some u:=by
  show its.toArray[its.length - 1]? = some u;rw[<- Array.getElem?_toList, <- hl];exact hu
 refine call_meets F.slot_list_pop ⟨_,e,rfl⟩ F.entry_list_pop (F.args_list_pop_1 _) (MeetsSeq.list_pop_last l its.toArray n u hy' (by rw[List.size_toArray]; omega)) ⟨e,?_⟩;refine⟨y,_,I.lset (its':=its.dropLast) hH e ?_ r.dropLast ?_,ru,q⟩
 ·show its.toArray.eraseIdxIfInBounds (its.toArray.size - 1)=its.dropLast.toArray;rw[List.size_toArray,List.eraseIdxIfInBounds_toArray,zd7]
 ·rw[List.length_dropLast];omega
end
end L2
namespace Att
open PySem PySem.W PySem.Calls PyProof.Rows
def z81 {P:Params}{h:Heap}:∀(ns:List Int) (vs:List Value),WellAll P h vs (ns.map WData.int)->IntsAre vs ns:=by
 intro ns
 induction ns with
 | nil=>
  intro vs w;rw[List.map_nil] at w
  cases w
  exact .nil
 | cons n ns ih=>
  intro vs w;rw[List.map_cons] at w
  cases w with
  | cons a b=>
   cases a
   exact .cons _ _ (ih _ b)
def zdG {l:OpenLaw}{n:Nat}(hn:l.most=some n){P:Params}{h:Heap}{args:List WData}{vals:List Value}
  (hpre:l.row.toRowW.claim.pre args=true) (hwl:WellAll P h vals args):
  ∃a vs ns,vals=[Value.ref a]/\args=[WData.list (ns.map WData.int)]/\h.get? a=some { cls :=.type "list",data :=.seq vs.toArray }/\IntsAre vs ns/\ns.length<=n:=by
 have hsh:WShape.hasAll [] args [.list .int]=true:=(pre_splitW hpre).1;have hc:l.pre.holds [] { args:=args }=true:=(pre_splitW hpre).2;obtain⟨d,r,rfl,h1,h2⟩:=hasAllW_cons hsh;obtain rfl:=hasAllW_nil h2;obtain⟨xs,rfl,h3⟩:=hasW_list h1;obtain⟨ns,rfl⟩:=items_int h3;have hlen:ns.length<=n:=by
  unfold OpenLaw.pre at hc;have h4:(WTm.not (.lt (.lit (.int (n:Int))) (.len (.arg 0)))).holds [] { args:=[.list (ns.map .int)] }=true:=by
   have h4:=(holds_andW hc).1;rw[hn] at h4;exact h4
  have h5:=condW_of h4 (w_not (w_lt w_lit (w_len_list (w_arg rfl))));rw[List.length_map] at h5;refine Nat.le_of_not_lt λq =>?_;have q':(n:Int)<((ns.length:Nat):Int):=by omega
  first
   | (rw[decide_eq_true q'] at h5; exact absurd h5 (by decide))
   | (simp at h5; omega)
 cases hwl with
 | cons w1 w2=>
  cases w2
  cases w1 with
  | list ho hall=>exact⟨_,_,ns,rfl,rfl,ho,z81 ns _ hall,hlen⟩
def zdX (l:OpenLaw)(args:List WData):l.row.toRowW.claim.post args (.bool true) args=true:=
 postW_of (r:=l.row.toRowW) (X:=(true == true))
  (show WShape.has [] (.bool true) .bool=true by first | rfl | decide | simp[WShape.has,WShape.arms,WShape.armsAll])
  (show (WTm.eq .res (.lit (.bool true))).value [] { args:=args,res:=some (.bool true),after:=args }=some (.bool (true == true)) from w_eq_bool (w_res rfl) w_lit) rfl
def zbE {l:OpenLaw}{n:Nat}{q:Program}{loose:List Str}{XP:(Str->Option Value)->Heap->Prop}{YP:World->Heap->Prop}{d:DefRec}
  (hn:l.most=some n) (hdf:d.params.defaults=[])
  (call:∀(w:World) (s₀ s₁:Shared) (mg mb:Str->Option Value) (fa:Addr) (o:Obj) (pm cd doc:Value) (a:Addr) (vs:List Value) (ns:List Int),
   Ground q loose [] XP w s₀ mg mb s₁.heap->YP w s₁.heap->
   s₁.heap.get? fa=some o->o.data = .func (docDef d.name d.params d.body d.scope pm cd doc)->s₁.heap.CodeRec cd d.name->mg d.name=some (.ref fa)->
   s₁.heap.get? a=some { cls :=.type "list",data :=.seq vs.toArray }->IntsAre vs ns->ns.length<=n->s₁.gens = #[]->
   codeAny (model l.prog w) callerA (.call (.ref fa) ⟨[.ref a],[]⟩) (λr s'=>r = .ok (.ret (.bool true))/\OldK s₁.heap s'.heap/\s'.os=s₁.os/\AllBare s'.gens) s₁):
  WalkO q loose XP YP l.row.toRowW d [] (λf vs=>PySem.call f vs):=by
 intro w s₀ s₁ mg mb G Y fa o pm cd doc dV kV ho hd hcd hD hmg hg args vals as hpre hlay hrd hwl hlo;obtain rfl:dV = .none:=Dflts.none hD hdf;obtain rfl:kV = .none:=Dflts.noKw hD;obtain⟨a,vs,ns,rfl,rfl,hobj,hints,hlen⟩:=zdG hn hpre hwl;refine enter_call (codeAny_mono (call w s₀ s₁ mg mb fa o pm cd doc a vs ns G Y ho (fd_plain hd) hcd hmg hobj hints hlen hg) λr s' hq =>?_);obtain⟨rfl,h2,h3,h4⟩:=hq;exact⟨.inl ⟨.bool true,.bool true,[],rfl,λ_=>rfl,.bool true,zdX l _,λ_=>⟨List.Pairwise.nil,λ_ hm=>(nomatch hm)⟩⟩,h2,h3,h4⟩
end Att
namespace L2
open PySem PySem.Spec PyProof.Rows
def za5:∀{vs:List Value}{ns:List Int},IntsAre vs ns->Vals (ns.map V.int) vs
 | _,_,.nil =>.nil
 | _,_,.cons n t h =>.cons ⟨t,rfl⟩ (za5 h)
def Only (H:Hp):Prop:=∀b,H b=none\/∃o xs,H b=some (.frz o (.lst xs))
def zg9 {P:Program}{w:World}{K:W.Frag}{mg mb:Str->Option Value}{CX:CXT}{k:Nat}{fa a:Addr}{fd:FuncData}{x:Str}{sp:Sp}{s₁:Shared}{vs:List Value}{ns:List Int}
  (KX:K.In s₁.heap) (hns:s₁.heap.Ns mainGlobals mg) (hb:s₁.heap.Ns builtinsNs mb) (hbb:∀x:Str,x≠"__name__"->mb x=bootBuiltins x) (hlim:s₁.heap.NoLimit) (hg:s₁.gens = #[])
  (ha:s₁.heap.get? a=some { cls :=.type "list",data :=.seq vs.toArray }) (hi:IntsAre vs ns) (hl:ns.length<=sizeLine) (hr:Room k callerA)
  (F:∀base:Heap,K.In base->base.Ns mainGlobals mg->FnOk P w K mg base CX k fa fd [x] sp) (hbind:∀(s:Shared) (u:Value),BindsTo s fd ⟨[u],[]⟩ [(x,u)])
  (hsp:∀H:Hp,Only H->SqL K H a (ns.map V.int)->sp [.ref a] H (λv _=>v = .bl true) λ_ _ _=>False)
  (hCX:∀H e s',CX [] H s₁ (λ_ _ _=>False) e s'->False):
  codeAny (model P w) callerA (.call (.ref fa) ⟨[.ref a],[]⟩) (λr s'=>r = .ok (.ret (.bool true))/\OldK s₁.heap s'.heap/\s'.os=s₁.os/\AllBare s'.gens) s₁:=by
 have rv:=za5 hi;have lenV:=hi.length;have core:∀H:Hp,Only H->SqL K H a (ns.map V.int)->HOk P w H s₁.heap->(∀b,H b≠none->b=a)->(H a≠none->K.lookup a=none)->
   codeAny (model P w) callerA (.call (.ref fa) ⟨[.ref a],[]⟩) (λr s'=>r = .ok (.ret (.bool true))/\OldK s₁.heap s'.heap/\s'.os=s₁.os/\AllBare s'.gens) s₁:=by
  intro H hO hS hok hA hK;have base_of:∀{b:Addr}{o:Obj},s₁.heap.get? b=some o->H b=none->(hidT s₁.heap H).get? b=some o:=λe n=>zge e n;have noA:∀{b:Addr}{o:Obj}{es:Array DictEntry}{ep:Nat},s₁.heap.get? b=some o->o.data = .dict es ep->H b=none:=λ{b o es ep} e d=>by
   cases q:H b with
   | none=>rfl
   | some u=>
    have e':b=a:=hA b (by rw[q]; simp);subst e';rw[ha] at e; cases e;have d':Data.seq vs.toArray _=Data.dict es ep:=d
    cases d'
  have nsK:∀{b:Addr}{m:Str->Option Value},s₁.heap.Ns b m->(hidT s₁.heap H).Ns b m:=λ{b m} ⟨o,es,ep,e,d,r⟩=>⟨o,es,ep,base_of e (noA e d),d,r⟩
  have hKb:K.In (hidT s₁.heap H):=λb o e=>base_of (KX b o e) (by
   cases q:H b with
   | none=>rfl
   | some u=>
    have e':b=a:=hA b (by rw[q]; simp);subst e';rw[hK (by rw[q]; simp)] at e; cases e)
  have hM:Mod K mg (hidT s₁.heap H):=⟨hKb,nsK hns,⟨mb,nsK hb,hbb⟩,let ⟨mc,h1,h2⟩:=hlim; ⟨mc,nsK h1,h2⟩⟩
  have e0:Env0 P w K mg (hidT s₁.heap H) callerA [] s₁ H:=⟨rfl,hM,λb o e=>zie e,Nat.le_of_eq (zeB _ _),trivial,λb hb=>absurd (show b∈([]:List Addr) from hb) (by simp),hok,.of_eq hg⟩
  refine codeAny_mono ((F _ hKb (nsK hns)).run callerA [] s₁ H ⟨[.ref a],[]⟩ [.ref a] [.ref a] _ _ hr e0 (hbind s₁ (.ref a)) (.cons rfl .nil) (hsp H hO hS)) λr s' h =>?_
  cases r with
  | error e=>exact(hCX H e s' h).elim
  | ok fl=>
   cases fl with
   | next=>exact False.elim h
   | brk=>exact False.elim h
   | cont=>exact False.elim h
   | ret u=>
    obtain⟨v,H',os,bare,un,hok',r',q⟩:=h;have q':v = .bl true:=q;subst q';obtain rfl:u=Value.bool true:=r';refine⟨rfl,OldK.of_keep λb o e =>?_,os,bare⟩
    cases q:H b with
    | none=>exact un.keep b o e q (by intro z; exact absurd (show b∈([]:List Addr) from z) (by simp)) (by simp)
    | some u=>
     rcases hO b with z | ⟨ob,xs,z⟩
     ·rw[q] at z; cases z
     ·have z2:=un.frzs b ob _ z;obtain⟨e1,_⟩:=hok b _ z;obtain⟨e2,_⟩:=hok' b _ z2;rw[e] at e1; cases e1;exact e2
 cases hk:K.lookup a with
 | some o=>
  have e:=KX a o hk;rw[ha] at e
  cases e
  refine core (λ_=>none) (λ_ =>.inl rfl) (.inr ⟨_,vs.toArray,_,hk,rfl,rfl,rfl,by rw[List.size_toArray,lenV]; exact hl,by simpa using rv⟩) (λb u z=>by have z':(none:Option HO)=some u:=z; cases z') (λb z=>absurd rfl z) λz=>absurd rfl z
 | none=>
  refine core (λb=>if b=a then some (.frz { cls :=.type "list",data :=.seq vs.toArray } (.lst (ns.map V.int))) else none) (λb =>?_) (.inl (.inr ⟨{ cls :=.type "list",data :=.seq vs.toArray },if_pos rfl⟩)) (λb u z =>?_) (λb z =>?_) λ_=>hk
  ·by_cases hb:b=a
   ·exact .inr ⟨_,_,if_pos hb⟩
   ·exact .inl (if_neg hb)
  ·by_cases hb:b=a
   ·have z':=(if_pos hb).symm.trans z
    cases z'
    subst hb;exact⟨ha,by rw[List.length_map]; exact hl,vs,_,rv,ha⟩
   ·have z':=(if_neg hb).symm.trans z
    cases z'
  ·by_cases hb:b=a
   ·exact hb
   ·exact absurd (if_neg hb) z
def zhg {l:PySem.W.OpenLaw}{n k:Nat}{q:Program}{loose:List Str}{XP:(Str->Option Value)->Heap->Prop}{YP:World->Heap->Prop}{d:DefRec}{K:Params->W.Frag}{CX:World->CXT}{sp:World->Sp}{x:Str}
  (hn:l.most=some n) (hn2:n<=sizeLine) (hdf:d.params.defaults=[]) (hr:Room k callerA)
  (hY:∀(w:World) (h:Heap),YP w h->(K w.params).In h)
  (F:∀(w:World) (mg:Str->Option Value) (fa:Addr) (h:Heap),(K w.params).In h->h.Ns mainGlobals mg->mg d.name=some (.ref fa)->
   ∃fd:FuncData,(∀(s:Shared) (u:Value),BindsTo s fd ⟨[u],[]⟩ [(x,u)])/\
    ∀base:Heap,(K w.params).In base->base.Ns mainGlobals mg->FnOk l.prog w (K w.params) mg base (CX w) k fa fd [x] (sp w))
  (hsp:∀(w:World) (H:Hp) (a:Addr) (ns:List Int),ns.length<=n->Only H->SqL (K w.params) H a (ns.map V.int)->sp w [.ref a] H (λv _=>v = .bl true) λ_ _ _=>False)
  (hCX:∀(w:World) (H:Hp) (s:Shared) (e:Value) (s':Shared),CX w [] H s (λ_ _ _=>False) e s'->False):
  PySem.W.WalkO q loose XP YP l.row.toRowW d [] (λf vs=>PySem.call f vs):=by
 refine Att.zbE hn hdf λw s₀ s₁ mg mb fa o pm cd doc a vs ns G Y ho hd hcd hmg hobj hints hlen hg =>?_;have KX:=hY w _ Y;obtain⟨fd,hb,hF⟩:=F w mg fa _ KX G.T.g hmg;exact zg9 KX G.T.g G.T.b G.T.builtins G.T.nolimit hg hobj hints (Nat.le_trans hlen hn2) hr hF hb (λH hO hS=>hsp w H a ns hlen hO hS) λH e s'=>hCX w H s₁ e s'
def z5n (s:Stmt):Arguments:=match s with
 | .FunctionDef _ a _ _ _ _ _ _ _ _=>a
 | _=>{ posonlyargs:=[],args:=[],vararg:=none,kwonlyargs:=[],kw_defaults:=[],kwarg:=none,defaults:=[] }
def z3W (s:Stmt):List Stmt:=match s with
 | .FunctionDef _ _ b _ _ _ _ _ _ _=>b
 | _=>[]
def z01 (s:Stmt):Scope:=match s with
 | .FunctionDef _ _ _ _ _ _ sc _ _ _=>sc
 | _=>{ kind :=.function,names:=[],isGenerator:=false,isCoroutine:=false }
abbrev E0:XK:=λ_ _ _=>False
structure Fun (K:W.Frag)(x qual:Str)(st:Stmt)(f:Addr)(fd:FuncData):Prop where
 ex:∃(oc:Value) (od:Option Addr) (kV doc pm:Value) (an:Option Addr) (cdv ct:Value) (osl:Array (Option Value)),
  fd=PySem.W.fnOf x qual (z5n st) (z3W st) (z01 st) .none kV doc pm an cdv ct/\K.lookup f=some ⟨oc,od,.func fd,osl⟩/\PySem.W.codeIn K cdv qual=true
 kp:PySem.W.keepIn K (.ref f)=true
section
variable {P:Program}{w:World}{K:W.Frag}{mg:Str->Option Value}{base:Heap}
def Fun.binds {x qual:Str}{st:Stmt}{f:Addr}{fd:FuncData}{ps:List Str}(F:Fun K x qual st f fd)
  (h:∀(kV doc pm:Value) (an:Option Addr) (cdv ct:Value) (us:List Value),us.length=ps.length->bindArgs (PySem.W.fnOf x qual (z5n st) (z3W st) (z01 st) .none kV doc pm an cdv ct) ⟨us,[]⟩=pure (ps.zip us)):z8U K fd ps []:=by
 obtain⟨oc,od,kV,doc,pm,an,cdv,ct,osl,rfl,lk,hcd⟩:=F.ex;exact .all (h kV doc pm an cdv ct)
def zhc {x qual:Str}{st:Stmt}{f:Addr}{oc:Value}{od an:Option Addr}{osl:Array (Option Value)}{kV doc pm cdv ct:Value}(l:K.lookup f=some ⟨oc,od,.func (PySem.W.fnOf x qual (z5n st) (z3W st) (z01 st) .none kV doc pm an cdv ct),osl⟩)
  (c:PySem.W.codeIn K cdv qual=true) (k:PySem.W.keepIn K (.ref f)=true):Fun K x qual st f (PySem.W.fnOf x qual (z5n st) (z3W st) (z01 st) .none kV doc pm an cdv ct):=⟨⟨oc,od,kV,doc,pm,an,cdv,ct,osl,rfl,l,c⟩,k⟩
end
def iteF {A B:Prop}(h:B):if false=true then A else B:=by
 rw[if_neg Bool.false_ne_true];exact h
def iteT {A B:Prop}(h:A):if true=true then A else B:=by
 rw[if_pos rfl];exact h
def Same (H H':Hp):Prop:=∀b o,H b=some o->H' b=some o
def Same.seq {K:W.Frag}{H H':Hp}{a:Addr}{xs:List V}(e:Same H H')(h:SqL K H a xs):SqL K H' a xs:=by
 rcases h with (h | ⟨o,h⟩) | h
 ·exact .inl (.inl (e _ _ h))
 ·exact .inl (.inr ⟨o,e _ _ h⟩)
 ·exact .inr h
end L2
set_option maxHeartbeats 4000000
namespace L2
open PySem PySem.Spec PyProof.Rows
open Builtin.Int (intBits)
abbrev Bt (n:Nat)(i:Int):Prop:=intBits i<=n
def Bt.le {m n:Nat}{i:Int}(h:Bt m i)(q:m<=n:=by decide):Bt n i:=Nat.le_trans h q
def z0r {n:Nat}{i:Int}(h:i.natAbs<2 ^ n):Bt n i:=PySem.intBits_le_iff.mpr h
def Bt.abs {n:Nat}{i:Int}(h:Bt n i):i.natAbs<2 ^ n:=PySem.intBits_le_iff.mp h
def Bt.of_abs {n:Nat}{i j:Int}(h:Bt n j)(q:i.natAbs<=j.natAbs):Bt n i:=PySem.intBits_le_of_natAbs q h
def Bt.add {m n:Nat}{i j:Int}(h:Bt m i)(q:Bt n j):Bt (max m n+1) (i+j):=PySem.intBits_add_le h q
def Bt.sub {m n:Nat}{i j:Int}(h:Bt m i)(q:Bt n j):Bt (max m n+1) (i - j):=PySem.intBits_sub_le h q
def Bt.mul {m n:Nat}{i j:Int}(h:Bt m i)(q:Bt n j):Bt (m+n) (i*j):=PySem.intBits_mul_le h q
def Bt.neg {m:Nat}{i:Int}(h:Bt m i):Bt m (-i):=PySem.intBits_neg_le h
def ziK (i j:Int):Prop:=Bt 60000000 i/\Bt 60000000 j
def zlf (_ j:Int):Prop:=j≠0/\Bt 9000 j
def zeu {j:Int}(h0:j≠0)(h:Bt 9000 j):j.natAbs.log2<9000:=by
 have e:intBits j=j.natAbs.log2+1:=by
  unfold Builtin.Int.intBits;rw[if_neg (by simpa using h0)]
 have h':intBits j<=9000:=h;omega
section
variable {X:Cx}{a b c:Expr}{ta tb tc:TE}{pos:Pos}
def zia:OpR X (binaryOp .Mult) (rI ziK λi j =>.int (i*j)):=opI λ_ _ _ _ _ _ _ hc q=>mul_int q (IntMulOk.of_le hc.1 hc.2 (by decide))
def zfV:OpR X (binaryOp .FloorDiv) (rI zlf λi j =>.int (i.fdiv j)):=opI λ_ _ _ _ _ _ _ hc q=>floordiv_int hc.1 q (.inl (PyProof.noPylong_of_log2 (zeu hc.1 hc.2)))
end
mutual
def Rp (K:W.Frag)(H:Hp):PyData->V->Prop
 | .none,v=>v = .non
 | .bool b,v=>v = .bl b
 | .int i,v=>v = .int i
 | .str x,v=>v = .str x
 | .list ds,v=>∃a xs,v = .ref a/\SqL K H a xs/\RpL K H ds xs
 | .tuple ds,v=>∃a xs,v = .ref a/\SqT K H a xs/\RpL K H ds xs
 | .dict _,_=>False
def RpL (K:W.Frag)(H:Hp):List PyData->List V->Prop
 | [],xs=>xs=[]
 | d::ds,xs=>∃x r,xs=x::r/\Rp K H d x/\RpL K H ds r
end
def Same.seqT {K:W.Frag}{H H':Hp}{a:Addr}{xs:List V}(e:Same H H')(h:SqT K H a xs):SqT K H' a xs:=by
 rcases h with (h | ⟨o,h⟩) | h
 ·exact .inl (.inl (e _ _ h))
 ·exact .inl (.inr ⟨o,e _ _ h⟩)
 ·exact .inr h
mutual
def Rp.same {K:W.Frag}{H H':Hp}(e:Same H H'):∀(d:PyData) {v:V},Rp K H d v->Rp K H' d v
 | .none,_,h=>by simpa[Rp] using h
 | .bool _,_,h=>by simpa[Rp] using h
 | .int _,_,h=>by simpa[Rp] using h
 | .str _,_,h=>by simpa[Rp] using h
 | .list ds,_,h=>by
  rw[Rp] at h ⊢;obtain⟨a,xs,h1,h2,h3⟩:=h;exact⟨a,xs,h1,e.seq h2,RpL.same e ds h3⟩
 | .tuple ds,_,h=>by
  rw[Rp] at h ⊢;obtain⟨a,xs,h1,h2,h3⟩:=h;exact⟨a,xs,h1,e.seqT h2,RpL.same e ds h3⟩
 | .dict _,_,h=>by simp[Rp] at h
def RpL.same {K:W.Frag}{H H':Hp}(e:Same H H'):∀(ds:List PyData) {xs:List V},RpL K H ds xs->RpL K H' ds xs
 | [],_,h=>by simpa[RpL] using h
 | d::ds,_,h=>by
  rw[RpL] at h ⊢;obtain⟨x,r,h1,h2,h3⟩:=h;exact⟨x,r,h1,Rp.same e d h2,RpL.same e ds h3⟩
end
section
variable {X:Cx}{pins:List (Addr × Obj)}{σ:St}{H:Hp}{s:Shared}
mutual
def Rp.reads (I:Inv X pins σ H s):∀(d:PyData) {v:V}{u:Value},Rp X.K H d v->RelV v u->∃as,Reads s.heap u d as
 | .none,v,u,h,r=>by
  rw[Rp] at h; subst h
  cases (show u=Value.none from r); exact⟨_,.none⟩
 | .bool b,v,u,h,r=>by
  rw[Rp] at h; subst h
  cases (show u=Value.bool b from r); exact⟨_,.bool b⟩
 | .int i,v,u,h,r=>by
  rw[Rp] at h; subst h;obtain⟨t,rfl⟩:=(show ∃t,u=Value.int i t from r); exact⟨_,.int i t⟩
 | .str x,v,u,h,r=>by
  rw[Rp] at h; subst h;obtain⟨t,rfl⟩:=(show ∃t,u=Value.str x t from r); exact⟨_,.str x t⟩
 | .list ds,v,u,h,r=>by
  rw[Rp] at h;obtain⟨a,xs,rfl,h2,h3⟩:=h
  cases (show u=Value.ref a from r)
  obtain⟨its,hv,⟨o,n,e,hc,_,hd⟩,_⟩:=I.list h2;obtain⟨as,q⟩:=RpL.reads I ds h3 hv;exact⟨_,.list e hc hd (by simpa using q)⟩
 | .tuple ds,v,u,h,r=>by
  rw[Rp] at h;obtain⟨a,xs,rfl,h2,h3⟩:=h
  cases (show u=Value.ref a from r)
  obtain⟨its,hv,⟨o,e,hc,n,hd⟩,_⟩:=I.tuple h2;obtain⟨as,q⟩:=RpL.reads I ds h3 hv;exact⟨_,.tuple e hc hd (by simpa using q)⟩
 | .dict _,v,u,h,r=>by simp[Rp] at h
def RpL.reads (I:Inv X pins σ H s):∀(ds:List PyData) {xs:List V}{us:List Value},RpL X.K H ds xs->Vals xs us->∃as,ReadsAll s.heap us ds as
 | [],xs,us,h,r=>by
  rw[RpL] at h; subst h
  cases r; exact⟨_,.nil⟩
 | d::ds,xs,us,h,r=>by
  rw[RpL] at h;obtain⟨x,t,rfl,h2,h3⟩:=h
  cases r with
  | cons r1 r2=>
   obtain⟨as,q⟩:=Rp.reads I d h2 r1;obtain⟨bs,q'⟩:=RpL.reads I ds h3 r2;exact⟨_,.cons q q'⟩
end
end
section
variable {X:Cx}
def rEqD (K:W.Frag)(neg:Bool):R2:=λx y H Q=>∃d e,Rp K H d x/\Rp K H e y/\PySem.SeqAt.shaped d=true/\PySem.SeqAt.shaped e=true/\Q (.bl (if neg then !PyData.eqv d e else PyData.eqv d e)) H
def zkm (hu:X.A.units+64<cLine):OpR X (compareOp .Eq) (rEqD X.K false):=by
 intro pins s σ H x y v u Q I rx ry h;obtain⟨d,e,h1,h2,h3,h4,q⟩:=h;obtain⟨as,r1⟩:=Rp.reads I d h1 rx;obtain⟨bs,r2⟩:=Rp.reads I e h2 ry;exact eq_dataH r1 r2 h3 h4 hu ⟨.bl (PyData.eqv d e),H,I,rfl,q⟩
def zkl (hu:X.A.units+64<cLine):OpR X (compareOp .NotEq) (rEqD X.K true):=by
 intro pins s σ H x y v u Q I rx ry h;obtain⟨d,e,h1,h2,h3,h4,q⟩:=h;obtain⟨as,r1⟩:=Rp.reads I d h1 rx;obtain⟨bs,r2⟩:=Rp.reads I e h2 ry;exact ne_dataH r1 r2 h3 h4 hu ⟨.bl (!PyData.eqv d e),H,I,rfl,q⟩
end
structure Cal (P:Program)(w:World)(K:W.Frag)(mg:Str->Option Value)(base:Heap)(CX:CXT)(k:Nat)(x:Str)(ps:List Str)(sp:Sp):Prop where
 ex:∃f fd,FnOk P w K mg base CX k f fd ps sp/\mg x=some (.ref f)/\PySem.W.keepIn K (.ref f)=true/\z8U K fd ps []
section
variable {X:Cx}{CX:CXT}{k:Nat}{ps:List Str}{sp:Sp}{E:XK}{x:Str}{p pos:Pos}{e:Expr}{es:List Expr}{t:TA}
def zlN (C:Cal X.prog X.w X.K X.mg X.base CX k x ps sp)(hr:Room k X.A)(hx:z7n CX X E)(ha:PA X (e::es) t)(hg:Gl X x:=by rfl)
  (hdb:(x == ("__debug__":Str))=false:=by decide) (he:starEach (e::es) X.env=(false,eval e X.env)::starEach es X.env:=by rfl) (hpl:(backTo pos (starEach es X.env)).any (·.1)=false:=by rfl):
  PE X (.Call (.Name x p) (e::es) [] pos) (zho sp [] E t):=by
 obtain⟨f,fd,F,hm,hk,hb⟩:=C.ex;exact zi0 F hr hg hm hk hb .nil hx ha hdb he hpl
end
end L2
namespace L2
open PySem PySem.Spec PyProof.Rows
section
variable {P:Program}{w:World}{H:Hp}{h h':Heap}{a:Addr}{o:HO}
def HOk.track (x:HOk P w H h)(hn:H a=none)(new:z3C P w (upd H a o) h a o):HOk P w (upd H a o) h:=λb u e=>by
 by_cases hb:b=a
 ·subst hb; rw[z0A] at e; cases e; exact new
 ·rw[z0o hb] at e;exact(x b u e).stay (λc v _ q=>q) (λc q=>by rw[z0o (z0U q hn)]; exact q) λc xs q=>by rw[z0o (z0U q hn)]; exact q
def HOk.other (x:HOk P w H h)(hn:H a=none)(k:∀b u,b≠a->h.get? b=some u->h'.get? b=some u):HOk P w H h':=λb u e=>by
 have nit:∀c v,H c=some v->c≠a:=λc v q z=>by rw[z,hn] at q; cases q
 refine(x b u e).stay (λc v hc q=>k c v ?_ q) (λ_ q=>q) λ_ _ q=>q
 rcases hc with z | z
 ·rw[z]; exact nit b u e
 ·exact nit c _ z
end
end L2
namespace Mth
def z5m {t b:Int}(h:0<b):(0:Int)<(Int.gcd t b:Int)/\t=(Int.gcd t b:Int)*(t / (Int.gcd t b:Int))/\b=(Int.gcd t b:Int)*(b / (Int.gcd t b:Int))/\1<=b / (Int.gcd t b:Int)/\Int.gcd (t / (Int.gcd t b:Int)) (b / (Int.gcd t b:Int))=1:=by
 have p:=(Int.gcd_pos_iff (a:=t) (b:=b)).mpr (.inr (by omega));have e1:t=(Int.gcd t b:Int)*(t / (Int.gcd t b:Int)):=(Int.mul_ediv_cancel' (Int.gcd_dvd_left t b)).symm;have e2:b=(Int.gcd t b:Int)*(b / (Int.gcd t b:Int)):=(Int.mul_ediv_cancel' (Int.gcd_dvd_right t b)).symm;refine⟨by omega,e1,e2,?_,?_⟩
 ·rcases(show b / (Int.gcd t b:Int)<1\/1<=b / (Int.gcd t b:Int) by omega) with q | q
  ·have:(Int.gcd t b:Int)*(b / (Int.gcd t b:Int))<=0:=Int.mul_nonpos_of_nonneg_of_nonpos (by omega) (by omega);omega
  ·exact q
 ·have q:=Int.gcd_mul_left (Int.gcd t b:Int) (t / (Int.gcd t b:Int)) (b / (Int.gcd t b:Int));rw[<- e1, <- e2,Int.natAbs_natCast] at q;have q':Int.gcd t b*1=Int.gcd t b*Int.gcd (t / (Int.gcd t b:Int)) (b / (Int.gcd t b:Int)):=by rw[Nat.mul_one]; exact q
  exact(Nat.eq_of_mul_eq_mul_left p q').symm
def z0h {a b:Int}(hb:0<b):(a / b).natAbs<=a.natAbs:=by
 rw[<- Int.fdiv_eq_ediv_of_nonneg a (Int.le_of_lt hb)];exact PySem.natAbs_fdiv_le a b
end Mth
namespace L2
open PySem PySem.Spec PyProof.Rows
def zcu {i:Int}(h1 : -(2 ^ 64)<i)(h2:i<2 ^ 64):Bt 9000 i:=Nat.le_trans (PySem.intBits_le_64 h1 h2) (by decide)
def bt_k {i:Int}(h:i.natAbs<2 ^ 640):Bt 640 i:=z0r h
def bt_n {i:Int}(h0:0<=i)(h:i<2 ^ 640):Bt 640 i:=z0r (by omega)
def z0G {H:Hp}{p:Addr}(h:H p=none)(o:HO):Same H (upd H p o):=λb u q=>by rw[z0o (z0U q h)]; exact q
def PE.imp {X:Cx}{e:Expr}{t t':TE}(h:PE X e t)(i:∀σ H Q,t' σ H Q->t σ H Q):PE X e t':=λpins s σ H Q I q=>h pins s σ H Q I (i σ H Q q)
def OpR.imp {X:Cx}{f:Value->Value->Sem Value}{r r':R2}(h:OpR X f r)(i:∀x y H Q,r' x y H Q->r x y H Q):OpR X f r':=λpins s σ H x y v u Q I rx ry q=>h pins s σ H x y v u Q I rx ry (i x y H Q q)
section
variable {X:Cx}{es:List Expr}{t:TA}{pos:Pos}
def SlR.imp {r r':V->Option Int->Option Int->Hp->VK->Prop}(h:SlR X r)(i:∀x lo hi H Q,r' x lo hi H Q->r x lo hi H Q):SlR X r':=by
 unfold SlR at h ⊢
 intros
 apply h
 all_goals first | assumption | (apply i; assumption)
end
structure QE (X:Cx)(e:Expr)(t:TE):Prop where
 p:PE X e t
structure QT (X:Cx)(e:Expr)(t:TT):Prop where
 p:PT X e t
structure QW (X:Cx)(e:Expr)(t:TT):Prop where
 p:PW X e t
structure QA (X:Cx)(es:List Expr)(t:TA):Prop where
 p:PA X es t
structure QS (X:Cx)(st:Stmt)(t:TS):Prop where
 p:PS X st t
structure QSs (X:Cx)(st:List Stmt)(t:TS):Prop where
 p:PSs X st t
structure QG (X:Cx)(e:Expr)(t:TG):Prop where
 p:PG X e t
structure QGs (X:Cx)(es:List Expr)(t:TGs):Prop where
 p:PGs X es t
structure QI (X:Cx)(tg e:Expr)(t:TI):Prop where
 p:PI X tg e t
structure QO (X:Cx)(e:Option Expr)(t:TO):Prop where
 p:PO X e t
section
variable {X:Cx}{a b c e f o:Expr}{ta tb tc te:TE}{pos pos2 p2:Pos}{tA tB':TT}{rest:List Expr}{es:List Expr}{aa:TA}
def zjM {i j pos}:QE X (.Constant (.int i) j pos) (tC (.int i)):=⟨zka⟩
def zlH {i j pos}:QE X (.Constant (.bool i) j pos) (tC (.bl i)):=⟨zlP⟩
def zjJ {j pos}:QE X (.Constant .none j pos) (tC .non):=⟨zk7⟩
def zjG {x j pos}:QE X (.Constant (.str x) j pos) (tC (.str x)):=⟨zk5⟩
def qv (i:Nat){x:Str}{pos:Pos}(hN:X.N[i]? = some x:=by rfl)(hv:Vis X.env.scope x:=by first | exact Or.inl rfl | exact Or.inr (Or.inl rfl) | exact Or.inr (Or.inr rfl))(hd:(x == ("__debug__":Str))=false:=by decide)
  (hcd:(x == ("__classdict__":Str))=false:=by decide):QE X (.Name x pos) (tVar i):=⟨zgX hN hv hd hcd⟩
def zjH {op:Operator}{r:R2}(ho:OpR X (binaryOp op) r)(ha:QE X a ta)(hb:QE X b tb):QE X (.BinOp a op b pos) (tOp r ta tb):=⟨zlL ho ha.p hb.p⟩
def zlD {op:UnaryOp}{r:V->Hp->VK->Prop}(ho:UnR X (unaryOp op) r)(ha:QE X a ta):QE X (.UnaryOp op a pos) (tUn r ta):=⟨zlK ho ha.p⟩
def zjI {op}{t:TE}(h:QE X a t):QE X (.BoolOp op [a] pos) t:=⟨zk6 h.p⟩
def zjP (ha:QE X a ta)(hb:QE X (.BoolOp .And (b::rest) pos) tb):QE X (.BoolOp .And (a::b::rest) pos) (zj7 ta tb):=⟨zkc ha.p hb.p⟩
def zhO {op:CmpOp}{r:R2}(ho:OpR X (compareOp op) r)(ha:QE X a ta)(hb:QE X b tb)(hm:behindInMarks op b=false):QE X (.Compare a [op] [b] pos) (tOp r ta tb):=⟨zhZ ho ha.p hb.p hm⟩
def zhJ {op:CmpOp}{r:R2}(ho:OpR X (compareOp op) r)(ha:QE X a ta)(hb:QE X b tb)(hm:behindInMarks op b=false):QT X (.Compare a [op] [b] pos) (zhn (tOp r ta tb)):=⟨zhQ ho ha.p hb.p hm⟩
def zjz {t:TE}(h:QE X e t)(he:∀whole,isTrue e X.env whole=(do let v <- whole; standAt e.pos; holding [v] (truthy v)):=by intro _; rfl):QT X e (tB t):=⟨zjS h.p he⟩
def zjA (ha:QT X a tA):QT X (.UnaryOp .Not a pos) (tNot tA):=⟨zjT ha.p⟩
def zhI (ha:QT X a tA):QW X (.BoolOp .And [a] pos) tA:=⟨zhP ha.p⟩
def zjx (ha:QT X a tA):QW X (.BoolOp .Or [a] pos) tA:=⟨zjQ ha.p⟩
def zjy (ha:QT X a tA)(hb:QW X (.BoolOp .And (b::rest) pos) tB'):QW X (.BoolOp .And (a::b::rest) pos) (tAnd tA tB'):=⟨zjR ha.p hb.p⟩
def zlA (ha:QT X a tA)(hb:QW X (.BoolOp .Or (b::rest) pos) tB'):QW X (.BoolOp .Or (a::b::rest) pos) (tOr tA tB'):=⟨zlI ha.p hb.p⟩
def QW.pt {t:TT}(h:QW X e t):QT X e t:=⟨h.p.pt⟩
def zbY:QA X [] tNil:=⟨zkd⟩
def z9s (ha:QE X e te)(hr:QA X es aa)(hs:starEach (e::es) X.env=(false,eval e X.env)::starEach es X.env:=by rfl):QA X (e::es) (zj5 te aa):=⟨zi2 ha.p hr.p hs⟩
def zlF {CX:CXT}{k:Nat}{ps:List Str}{sp:Sp}{E:XK}{x:Str}{pp:Pos}(C:Cal X.prog X.w X.K X.mg X.base CX k x ps sp)(hr:Room k X.A)(hx:z7n CX X E)(ha:QA X (e::es) aa)(hg:Gl X x:=by rfl)
  (hdb:(x == ("__debug__":Str))=false:=by decide) (he:starEach (e::es) X.env=(false,eval e X.env)::starEach es X.env:=by rfl) (hpl:(backTo pos (starEach es X.env)).any (·.1)=false:=by rfl):QE X (.Call (.Name x pp) (e::es) [] pos) (zho sp [] E aa):=⟨zlN C hr hx ha.p hg hdb he hpl⟩
def z9r {x:Str}{pp:Pos}{id:String}{r:List V->Hp->VK->Prop}(hc:z19 X (.builtin id) r)(hg:Gl X x)(hm:X.mg x=none)(hv:bootBuiltins x=some (.builtin id))(ha:QA X (e::es) aa)(hn:x≠"__name__":=by decide)(hdb:(x == ("__debug__":Str))=false:=by decide)
  (he:starEach (e::es) X.env=(false,eval e X.env)::starEach es X.env:=by rfl) (hpl:(backTo pos (starEach es X.env)).any (·.1)=false:=by rfl):QE X (.Call (.Name x pp) (e::es) [] pos) (tCB r aa):=⟨zfR hc hg hm hv ha.p hn hdb he hpl⟩
def z4v {x:Str}{pp:Pos}{id:String}{r:List V->Hp->VK->Prop}(hc:z19 X (.type id) r)(hg:Gl X x)(hm:X.mg x=none)(hv:bootBuiltins x=some (.type id))(ha:QA X (e::es) aa)(hn:x≠"__name__":=by decide)(hdb:(x == ("__debug__":Str))=false:=by decide)
  (he:starEach (e::es) X.env=(false,eval e X.env)::starEach es X.env:=by rfl) (hpl:(backTo pos (starEach es X.env)).any (·.1)=false:=by rfl):QE X (.Call (.Name x pp) (e::es) [] pos) (tCB r aa):=⟨ze9 hc hg hm hv ha.p hn hdb he hpl⟩
def zlE {r:R2}(hr:IxR X r)(ha:QE X a ta)(hb:QE X b tb)(hs:zbH b):QE X (.Subscript a b pos) (tOp r ta tb):=⟨zlM hr ha.p hb.p hs⟩
def zhN:QO X none zdt:=⟨zhX⟩
def zhM (h:QE X e te):QO X (some e) (zj2 te):=⟨zhW h.p⟩
def zfH {r:V->Option Int->Option Int->Hp->VK->Prop}{lo hi:Option Expr}{tl th:TO}(hr:SlR X r)(he:QE X e te)(hl:QO X lo tl)(hu:QO X hi th):QE X (.Subscript e (.Slice lo hi none p2) pos) (tSl r te tl th):=⟨zfP hr he.p hl.p hu.p⟩
def zjO {T id:String}{name:Str}{apos cpos:Pos}{r:V->List V->Hp->VK->Prop}(pa:PlainAttrs T)(slot:Slot T name id)(hty:typeOf (.builtin id)=pure (.type "method_descriptor"))(hm:MtR X id r)(ho:QE X o te)
  (hbase:attributeBase o name X.env (eval o X.env)=eval o X.env:=by rfl) (hline:(apos.endLine == cpos.line)=true:=by rfl):QE X (.Call (.Attribute o name apos) [] [] cpos) (tBM0 X.K T r te):=⟨zkb pa slot hty hm ho.p hbase hline⟩
def zlG {T id:String}{name:Str}{apos cpos:Pos}{r:V->List V->Hp->VK->Prop}(pa:PlainAttrs T)(slot:Slot T name id)(hty:typeOf (.builtin id)=pure (.type "method_descriptor"))(hm:MtR X id r)(ho:QE X o te)(ha:QA X (e::es) aa)
  (hbase:attributeBase o name X.env (eval o X.env)=eval o X.env:=by rfl)
  (hfew:((backTo cpos (starEach (e::es) X.env)).all (λx => !x.1) && (backToKw cpos (keywordEach [] X.env)).all (λx=>x.1.isSome)
   && decide ((e::es).length+([]:List Keyword).length+(if ([]:List Keyword).isEmpty then 0 else 1)<30))=true:=by rfl)
  (hline:(apos.endLine == cpos.line)=true:=by rfl) (hs:starEach (e::es) X.env=(false,eval e X.env)::starEach es X.env:=by rfl) (hplain:(backTo cpos (starEach es X.env)).any (·.1)=false:=by rfl):
  QE X (.Call (.Attribute o name apos) (e::es) [] cpos) (tBM X.K T r te aa):=⟨zlO pa slot hty hm ho.p ha.p hbase hfew hline hs hplain⟩
end
section
variable {X:Cx}{st:Stmt}{rest body a b:List Stmt}{t u tb:TS}{e tg c iter:Expr}{te:TE}{tc:TT}{pos:Pos}{g:TG}{wi:TI}{aa:TA}
def zhL:QSs X [] zj3:=⟨zhS⟩
def zfD (h1:QS X st t)(h2:QSs X rest u):QSs X (st::rest) (tSeq t u):=⟨zfJ h1.p h2.p⟩
def zhK (h1:QS X st t):QSs X [st] t:=⟨zhR h1.p⟩
def zfF:QS X st zgD:=⟨zfL⟩
def zjB (he:QE X e te):QS X (.Return (some e) pos) (tRet te):=⟨zjV he.p⟩
def zdT (he:QE X e te)(hs:swapsWith e none pos.line X.env=pure false:=by rfl):QS X (.Expr e pos) (zj4 te):=⟨zhT he.p hs⟩
def zlB (hc:QT X c tc)(ha:QSs X a t)(hb:QSs X b u):QS X (.If c a b pos) (tIfS tc t u):=⟨zlJ hc.p ha.p hb.p⟩
def zfE (hp:PassesOwn (model X.prog X.w) X.A X.env X.xe)(hc:QT X c tc)(hb:QSs X body tb):QS X (.While c body [] pos) (zgC tc tb):=⟨zfK hp hc.p hb.p⟩
def zgT (hp:PassesOwn (model X.prog X.w) X.A X.env X.xe)(hc:X.calm=true)(hi:QI X tg iter wi)(hg:QG X tg g)(hb:QSs X body tb)
  (hs:∀x,foldedSetIterable iter X.env x=pure x:=by intro _; rfl):QS X (.For tg iter body [] pos) (tFor wi g tb):=⟨zjY hp hc hi.p hg.p hb.p hs⟩
def zbX (he:QE X e te)(hg:QG X tg g)(hs:swapsWithSole [tg] e pos.line X.env=pure false:=by rfl)(hw:swappedStores [tg] e X.env=pure none:=by rfl)
  (h1:(assignEach [tg] X.env).map (·.2)=[assign tg X.env]:=by rfl):QS X (.Assign [tg] e pos) (tAsg te g):=⟨zjZ he.p hg.p hs hw h1⟩
def zjC {i j:Nat}{x y:Str}{a b:Expr}{px py pt:Pos}{kt k2 pt2}(hc:X.calm=true)(hN:X.N.Nodup)(hi:X.N[i]? = some x)(hj:X.N[j]? = some y)(hij:i≠j)
  (hx:X.env.scope.names.lookup x=some .local) (hy:X.env.scope.names.lookup y=some .local) (ha:QA X [a,b] aa)
  (hw:swappedStores [.Tuple [.Name x px,.Name y py] kt pt] (.Tuple [a,b] k2 pt2) X.env=pure (some [x,y]))
  (hs:swapsWithSole [.Tuple [.Name x px,.Name y py] kt pt] (.Tuple [a,b] k2 pt2) pos.line X.env=pure false:=by rfl):
  QS X (.Assign [.Tuple [.Name x px,.Name y py] kt pt] (.Tuple [a,b] k2 pt2) pos) (tPar i j aa):=⟨zjW hc hN hi hj hij hx hy ha.p hw hs⟩
def z3K:QGs X [] gNil:=⟨zhY⟩
def z0I {es:List Expr}{t:TG}{u:TGs}(h1:QG X e t)(h2:QGs X es u)
  (hs:(assignEach (e::es) X.env).map (·.2)=assign e X.env::(assignEach es X.env).map (·.2):=by rfl):QGs X (e::es) (zd2 t u):=⟨zfO h1.p h2.p hs⟩
def z5H {es:List Expr}{k:Nat}{t:TGs}{n:Nat}(hc:X.calm=true)(h:QGs X es t)
  (hn:(assignEach es X.env).length=n:=by rfl) (hst:(assignEach es X.env).findIdx? (·.1)=none:=by rfl):QG X (.Tuple es k pos) (gTup X.K n t):=⟨zgW hc h.p hn hst⟩
def zaf {a:Expr}{p:Pos}(hg:Gl X "range")(hm:X.mg "range"=none)(ha:QA X [a] aa)(hs:starEach [a] X.env=[(false,eval a X.env)]:=by rfl):QI X tg (.Call (.Name "range" p) [a] [] pos) (zkZ aa):=⟨ze4 hg hm ha.p hs⟩
end
end L2
namespace Mth
end Mth
namespace L2
open PySem PySem.Spec PyProof.Rows
def eqv2 {a b c d:Int}:PyData.eqv (.tuple [.int a,.int b]) (.tuple [.int c,.int d])=decide (a=c/\b=d):=by
 simp[PyData.eqv,PyData.eqvAll]
 by_cases h1:a=c <;> by_cases h2:b=d <;> simp[h1,h2]
end L2
namespace Mth
def g3 (x y b:Int):Int:=((Int.gcd ((Int.gcd b x:Nat):Int) y:Nat):Int)
def z7x (x y b:Int):g3 x y b ∣ b:=Int.dvd_trans (Int.gcd_dvd_left _ _) (Int.gcd_dvd_left b x)
def zck (x y b:Int):g3 x y b ∣ x:=Int.dvd_trans (Int.gcd_dvd_left _ _) (Int.gcd_dvd_right b x)
def zcj (x y b:Int):g3 x y b ∣ y:=Int.gcd_dvd_right _ _
def zci {x y b:Int}(h:0<b):0<g3 x y b:=by
 have p:=(Int.gcd_pos_iff (a:=b) (b:=x)).mpr (.inl (by omega));have p2:=(Int.gcd_pos_iff (a:=((Int.gcd b x:Nat):Int)) (b:=y)).mpr (.inl (by omega));unfold g3;omega
structure Plc (x y b u v t:Int):Prop where
 pos:1<=t
 cop:Int.gcd ((Int.gcd u v:Nat):Int) t=1
 cx:u*b=x*t
 cy:v*b=y*t
 lu:u.natAbs<=x.natAbs
 lv:v.natAbs<=y.natAbs
 lt:t.natAbs<=b.natAbs
def z4b (a b c:Int):Int.gcd ((Int.gcd a b:Nat):Int) c=Nat.gcd (Nat.gcd a.natAbs b.natAbs) c.natAbs:=rfl
def zgU {x y b:Int}(h:0<b):Plc x y b (x / g3 x y b) (y / g3 x y b) (b / g3 x y b):=by
 have hg:=zci (x:=x) (y:=y) h;have ex:x=g3 x y b*(x / g3 x y b):=(Int.mul_ediv_cancel' (zck x y b)).symm;have ey:y=g3 x y b*(y / g3 x y b):=(Int.mul_ediv_cancel' (zcj x y b)).symm;have eb:b=g3 x y b*(b / g3 x y b):=(Int.mul_ediv_cancel' (z7x x y b)).symm;have ee:g3 x y b=((Nat.gcd (Nat.gcd b.natAbs x.natAbs) y.natAbs:Nat):Int):=rfl;refine⟨?_,?_,?_,?_,z0h hg,z0h hg,z0h hg⟩
 ·generalize b / g3 x y b=t at eb
  rcases(show t<1\/1<=t by omega) with q | q
  ·have:g3 x y b*t<=0:=Int.mul_nonpos_of_nonneg_of_nonpos (by omega) (by omega);omega
  ·exact q
 ·rw[z4b];generalize hu:x / g3 x y b=u at ex;generalize hv:y / g3 x y b=v at ey;generalize ht:b / g3 x y b=t at eb;have nx:=congrArg Int.natAbs ex;have ny:=congrArg Int.natAbs ey;have nb:=congrArg Int.natAbs eb;rw[Int.natAbs_mul] at nx ny nb;have ng:(g3 x y b).natAbs=Nat.gcd (Nat.gcd b.natAbs x.natAbs) y.natAbs:=by rw[ee,Int.natAbs_natCast]
  generalize hG:(g3 x y b).natAbs=G at nx ny nb ng;have hGp:0<G:=by omega
  rw[nx,ny,nb,Nat.gcd_mul_left,Nat.gcd_mul_left] at ng;have e1:G*1=G*Nat.gcd (Nat.gcd t.natAbs u.natAbs) v.natAbs:=by rw[Nat.mul_one]; exact ng
  have e2:=Nat.eq_of_mul_eq_mul_left hGp e1;rw[Nat.gcd_comm (Nat.gcd u.natAbs v.natAbs), <- Nat.gcd_assoc];exact e2.symm
 ·have:x / g3 x y b*b=x / g3 x y b*(g3 x y b*(b / g3 x y b)):=congrArg _ eb;rw[this,Int.mul_left_comm, <- Int.mul_assoc, <- ex]
 ·have:y / g3 x y b*b=y / g3 x y b*(g3 x y b*(b / g3 x y b)):=congrArg _ eb;rw[this,Int.mul_left_comm, <- Int.mul_assoc, <- ey]
end Mth
namespace L2
open PySem PySem.Spec PyProof.Rows
structure Fly (P:Program)(w:World)(outer:List Env)(H:Hp)(h0:Heap)(Cv:Value)(H':Hp)(ea t:Addr)(B h:Heap):Prop where
 fl:Heap.FlyingW B outer ea Cv (.ref t) h
 un:Un (frs outer) [] H H' h0 h
 hok:HOk P w H' h
 trk:∀b o,H' b=some o->∃ob,B.get? b=some ob
 kep:∀b o,h0.get? b=some o->b ∉ frs outer->∃ob,B.get? b=some ob
def CXe (P:Program)(w:World):CXT:=λouter H s E e s'=>∃(ea t:Addr) (Cv:Value) (H':Hp) (B:Heap),e = .ref ea/\Fly P w outer H s.heap Cv H' ea t B s'.heap/\AllBare s'.gens/\s'.os=s.os/\E Cv none H'
section
variable {P:Program}{w:World}{outer:List Env}{H H':Hp}{h0 h h2:Heap}{Cv:Value}{ea t:Addr}{B:Heap}
def z3C.there {a:Addr}{o:HO}(x:z3C P w H h a o):∃ob,h.get? a=some ob:=by
 cases o with
 | lst xs=>obtain⟨_,_,_,_,e⟩:=x; exact⟨_,e⟩
 | tup xs=>obtain⟨_,_,_,⟨ob,e,_⟩,_⟩:=x; exact⟨_,e⟩
 | dK kvs=>obtain⟨_,_,_,_,o,_,_,e,_⟩:=x; exact⟨_,e⟩
 | dT kvs=>obtain⟨_,_,_,_,o,_,_,e,_⟩:=x; exact⟨_,e⟩
 | set S n=>obtain⟨o,_,_,_,e,_⟩:=x; exact⟨_,e⟩
 | ins C dx fs=>obtain⟨_,_,_,e,_⟩:=x; exact⟨_,e⟩
 | own y=>obtain⟨_,e⟩:=x; exact⟨_,e⟩
 | xd fs=>obtain⟨_,⟨_,_,_,e,_⟩,_⟩:=x; exact⟨_,e⟩
 | rng lo hi=>obtain⟨_,_,_,e⟩:=x; exact⟨_,e⟩
 | frz ob u=>obtain⟨e,_⟩:=x; exact⟨_,e⟩
 | tbl ps=>exact⟨_,(show h.get? a=some _ from x)⟩
 | met f y=>exact⟨_,(show h.get? a=some _ from x)⟩
 | ext φ=>obtain⟨_,⟨_,e⟩,_⟩:=x; exact⟨_,e⟩
end
section
variable {P:Program}{w:World}{K:W.Frag}{mg:Str->Option Value}{base:Heap}{N:List Str}{qual:Str}{sc:Scope}{f:Addr}{cdv:Value}{A:Around}{outer:List Env}{s:Shared}{H:Hp}{E:XK}
def Fun.okN {x:Str}{st:Stmt}{fd:FuncData}{ps:List Str}{k:Nat}{sp:Sp}(F:Fun K x qual st f fd)(S:z0c N ps (z01 st))(len:∀vs H Q E,sp vs H Q E->vs.length=ps.length)
  (hbody:∀(cdv:Value) (A:Around) (outer:List Env) (s:Shared) (H:Hp) (vs:List V) (Q:VK) (E:XK),Room k (A.deeper (envOfC qual (z01 st) s.heap.objs.size f cdv))->sp vs H Q E->
   ∃t,QSs ((cxOf (CXe P w) P w K mg base N qual (z01 st) f cdv A outer s H E).wish λ_ _=>False) (z3W st) t/\t { nx:=λ_ H'=>Q .non H',rt:=Q } (z3r N vs) H):FnOk P w K mg base (CXe P w) (k+1) f fd ps sp:=by
 obtain⟨oc,od,kV,doc,pm,an,cdv,ct,osl,rfl,lk,hcd⟩:=F.ex;refine zmc lk hcd S len λA outer s H vs Q E hr hsp =>?_;obtain⟨t,h,q⟩:=hbody cdv A outer s H vs Q E hr hsp;exact⟨t,h.p.nox,q⟩
def zea {X:Cx}:z7n (CXe P w) X E0:=λ_ _ _ _ _ _ _ ⟨_,_,_,_,_,_,_,_,_,q⟩=>q.elim
end
def zmt (a C:Addr)(h:Heap):Prop:=∃o,h.get? a=some o/\o.cls = .ref C/\∃vs,o.data = .fields vs
end L2
namespace L2
open PySem PySem.Spec PyProof.Rows
open Builtin.Str
section
variable {X:Cx}
def zlv:List V->Hp->VK->Prop:=λxs H Q=>∃x n,xs=[.str x]/\PySem.intText? x=some n/\x.length<=640/\Q (.int n) H
def zf5:z19 X (.type "int") zlv:=by
 intro pins s σ H xs us Q I r h;obtain⟨x,n,rfl,hn,hl,q⟩:=h;obtain⟨u,rfl,t,rfl⟩:=z4V r;exact PySem.W.KIN.call_text hn hl ⟨.int n,H,I.tok _,⟨_,rfl⟩,q⟩
def rSlS:V->Option Int->Option Int->Hp->VK->Prop:=λx lo hi H Q=>∃y,x = .str y/\y.length<=sizeLine/\Q (.str (Txt.slice y lo hi)) H
def zjb:SlR X rSlS:=by
 intro pins s σ H x v vl vu lo hi sl Q I rx hs pl pu h;obtain⟨y,rfl,hz,q⟩:=h;obtain⟨t,rfl⟩:=rx;refine⟨"str",_,F.slot_str_getitem.lookup,typeIs_str _ _ _,?_⟩;obtain⟨o,ho,hc,hd⟩:=hs;have fin:∀(l u:Option (Int × Tok)),l.map (·.1)=lo->u.map (·.1)=hi->vl=partValue l->vu=partValue u->wpAny (model X.prog X.w) X.A (getItem (.str y t) (.ref sl)) (EP X pins σ Q) X.xe s:=λl u e1 e2 e3 e4=>by
  subst e1 e2 e3 e4;exact wpAny_getItem_str_slice (l:=l) (u:=u) (st:=none) ⟨o,ho,hc,hd⟩ rfl (post_val_or_str ⟨Nat.le_trans (Txt.slice_le y _ _) hz,λt' k=>⟨.str _,H,I.tok k,⟨t',rfl⟩,q⟩⟩)
 cases pl with
 | none=>
  cases pu with
  | none=>exact fin none none rfl rfl rfl rfl
  | int j u=>exact fin none (some (j,u)) rfl rfl rfl rfl
 | int i w=>
  cases pu with
  | none=>exact fin (some (i,w)) none rfl rfl rfl rfl
  | int j u=>exact fin (some (i,w)) (some (j,u)) rfl rfl rfl rfl
def Its (x:Str):It:=⟨λi _=>i<x.cps.size,λi H v H'=>H'=H/\∃c,x.cps[i]? = some c/\v = .str ⟨#[c]⟩,λi _=>x.cps.size<=i⟩
def zbK {P:Program}{w:World}{K:W.Frag}{tg:Expr}(x:Str)(t:Tok)(it:Addr){ty:String}(hty:["enumerate","zip","dict_itemiterator","dict_reverseitemiterator","odict_iterator","itertools.zip_longest","itertools.pairwise"].contains ty=false)
  (W:∀A':Around,A'.handled=none->Walks P w A' it [it] [it] x.cps.size (SignAt x) (λi h=>h.IsStrIter it ty x t i)) (hs:∀(A:Around) (i:Nat) (s:Shared) (Q:Value->Shared->Prop) (E:Value->Shared->Prop),s.heap.IsStrIter it ty x t i->Q (.ref it) s->wpAny (model P w) A (pyIter (.ref it)) Q E s):
  Turn P w K tg (Its x) [it] it (λi h=>i<=x.cps.size/\h.IsStrIter it ty x t i) where
 mem:=by simp
 obj:=λi h st b hb=>by
  have e:b=it:=by simpa using hb
  subst e;obtain⟨_,o,e,c,d⟩:=st;exact⟨o,e,λv z=>by rw[d] at z; cases z⟩
 keep:=λi h h' st k=>⟨st.1,(W { } rfl).frame i h h' st.2 k⟩
 item:=by
  intro X hP hw hK hc i pins s σ H E I hf st hg;subst hP hw hK;obtain⟨f0,f1,f2,f3,f4,f5⟩:=hf it (by simp);refine(W X.A (I.ok.hd hc)).item i s _ _ hg st.2 λv h' tk hv st' kk =>?_;obtain⟨c,u,hc',rfl⟩:=hv;have I1:Inv X pins σ H { s with heap:=h',toks:=tk }:=I.turned (λb o hb e=>kk b o (by simpa using hb) e) f0 f1 f3 f4 f5;obtain⟨o,e1,e2,e3⟩:=id st';exact⟨_,rfl,zgf (s:={ s with heap:=h',toks:=tk }) e1 e2 e3 hty ⟨.str ⟨#[c]⟩,H,I1,⟨u,rfl⟩,⟨rfl,c,hc',rfl⟩,⟨hg,st'⟩,λb hb=>(hf b hb).1⟩⟩
 done:=by
  intro X hP hw hK hc i pins s σ H E I hf st hg;subst hP hw hK;obtain⟨f0,f1,f2,f3,f4,f5⟩:=hf it (by simp);have e:i=x.cps.size:=Nat.le_antisymm st.1 hg;subst e;exact(W X.A (I.ok.hd hc)).done s _ _ st.2 λh' tk kk=>⟨rfl,I.turned (λb o hb e=>kk b o (by simpa using hb) e) f0 f1 f3 f4 f5⟩
 self:=λA i s Q E st h=>hs A i s Q E st.2 h
variable {tg:Expr}
def zjK {es:List Expr}{aa:TA}{pos:Pos}(h:QA X es aa):QE X (.List es pos) (tLst aa):=⟨zk8 h.p⟩
def z8L:MtR X "list.append" zdP:=zep
end
end L2
namespace Tx
open PySem PySem.NumText PyProof.Rows L2
end Tx
namespace L2
open PySem PySem.Spec PyProof.Rows Tx
end L2
namespace L2
open PySem PySem.Spec PyProof.Rows
end L2
namespace Tx
open PySem PySem.NumText PyProof.Rows L2
open Builtin.Str
end Tx
namespace L2
open PySem PySem.Spec PyProof.Rows Tx
end L2
namespace Tx
open PySem PySem.NumText PyProof.Rows L2
end Tx
namespace L2
open PySem PySem.Spec PyProof.Rows Tx
end L2
namespace Mth
def z74 {a b:Nat}(h:∀p,p ∣ a->p ∣ b->p ∣ 1):Nat.Coprime a b:=
 Nat.dvd_one.mp (h _ (Nat.gcd_dvd_left a b) (Nat.gcd_dvd_right a b))
def zbA {p:Nat}{x:Int}:p ∣ x.natAbs↔(p:Int) ∣ x:=by rw[<- Int.natAbs_dvd_natAbs,Int.natAbs_natCast]
def z9V {p z c:Nat}{x a:Int}(hzc:Nat.Coprime z c)(pz:p ∣ z)(h:(p:Int) ∣ x*(c:Int)+a*(z:Int)):p ∣ x.natAbs:=by
 have h1:(p:Int) ∣ a*(z:Int):=Int.dvd_trans (Int.natCast_dvd_natCast.mpr pz) (Int.dvd_mul_left _ _);have h2:(p:Int) ∣ x*(c:Int):=(Int.dvd_add_left h1).mp h;have h3:p ∣ x.natAbs*c:=by
  have:=zbA.mpr h2;rw[Int.natAbs_mul,Int.natAbs_natCast] at this;exact this
 exact(Nat.Coprime.coprime_dvd_left pz hzc).dvd_of_dvd_mul_right h3
def zag {x y z a b c:Int}(hz:0<z)(hc:0<c)(h1:Int.gcd ((Int.gcd x y:Nat):Int) z=1)(h2:Int.gcd ((Int.gcd a b:Nat):Int) c=1)
  {g u v r:Int}(eg:g=((Int.gcd z c:Nat):Int)) (eu:u=x*(c / g)+a*(z / g)) (ev:v=y*(c / g)+b*(z / g)) (er:r=((Int.gcd ((Int.gcd g u:Nat):Int) v:Nat):Int)):
  0<g/\0<r/\g.natAbs<=z.natAbs/\r.natAbs<=z.natAbs/\Plc (x*c+a*z) (y*c+b*z) (z*c) (u / r) (v / r) (z / g*(c / r)):=by
 have gp:=(Int.gcd_pos_iff (a:=z) (b:=c)).mpr (.inl (by omega));have hg:0<g:=by omega
 have gz:g ∣ z:=eg ▸ Int.gcd_dvd_left z c;have gc:g ∣ c:=eg ▸ Int.gcd_dvd_right z c;have e3:r=g3 u v g:=er;have hr:0<r:=e3 ▸ zci hg;have rg:r ∣ g:=e3 ▸ z7x u v g;have ru:r ∣ u:=e3 ▸ zck u v g;have rv:r ∣ v:=e3 ▸ zcj u v g;obtain⟨z',ez⟩:=gz;obtain⟨c',ec⟩:=gc;obtain⟨g',eg'⟩:=rg;obtain⟨u',eu'⟩:=ru;obtain⟨v',ev'⟩:=rv;have q1:z / g=z':=by rw[ez]; exact Int.mul_ediv_cancel_left z' (by omega)
 have q2:c / g=c':=by rw[ec]; exact Int.mul_ediv_cancel_left c' (by omega)
 have q3:u / r=u':=by rw[eu']; exact Int.mul_ediv_cancel_left u' (by omega)
 have q4:v / r=v':=by rw[ev']; exact Int.mul_ediv_cancel_left v' (by omega)
 have q5:c / r=g'*c':=by rw[ec,eg',Int.mul_assoc]; exact Int.mul_ediv_cancel_left _ (by omega)
 rw[q1,q2] at eu ev;rw[q1,q3,q4,q5];have hz':0<z':=by
  rcases(show z'<=0\/0<z' by omega) with h | h
  ·have:=Int.mul_nonpos_of_nonneg_of_nonpos (Int.le_of_lt hg) h; omega
  ·exact h
 have hc':0<c':=by
  rcases(show c'<=0\/0<c' by omega) with h | h
  ·have:=Int.mul_nonpos_of_nonneg_of_nonpos (Int.le_of_lt hg) h; omega
  ·exact h
 have hg':0<g':=by
  rcases(show g'<=0\/0<g' by omega) with h | h
  ·have:=Int.mul_nonpos_of_nonneg_of_nonpos (Int.le_of_lt hr) h; omega
  ·exact h
 have czc:Nat.Coprime z'.natAbs c'.natAbs:=by
  have q:=Int.gcd_mul_left g z' c';rw[<- ez, <- ec] at q;have q':g.natAbs*1=g.natAbs*Int.gcd z' c':=by omega
  exact(Nat.eq_of_mul_eq_mul_left (by omega) q').symm
 have cg:Nat.gcd (Nat.gcd g'.natAbs u'.natAbs) v'.natAbs=1:=by
  have n1:=congrArg Int.natAbs eg';have n2:=congrArg Int.natAbs eu';have n3:=congrArg Int.natAbs ev';rw[Int.natAbs_mul] at n1 n2 n3;have er':r.natAbs=Nat.gcd (Nat.gcd g.natAbs u.natAbs) v.natAbs:=by rw[er,Int.natAbs_natCast,z4b]
  rw[n1,n2,n3,Nat.gcd_mul_left,Nat.gcd_mul_left] at er';have:r.natAbs*1=r.natAbs*Nat.gcd (Nat.gcd g'.natAbs u'.natAbs) v'.natAbs:=by omega
  exact(Nat.eq_of_mul_eq_mul_left (by omega) this).symm
 have hzn:((z'.natAbs:Nat):Int)=z':=Int.natAbs_of_nonneg (by omega);have hcn:((c'.natAbs:Nat):Int)=c':=Int.natAbs_of_nonneg (by omega);have big:∀{p:Nat},p ∣ u'.natAbs->(p:Int) ∣ u:=λh=>eu' ▸ Int.dvd_trans (zbA.mp h) (Int.dvd_mul_left _ _);have big2:∀{p:Nat},p ∣ v'.natAbs->(p:Int) ∣ v:=λh=>ev' ▸ Int.dvd_trans (zbA.mp h) (Int.dvd_mul_left _ _);have k1:Nat.Coprime (Nat.gcd u'.natAbs v'.natAbs) z'.natAbs:=by
  refine z74 λp p1 p2 =>?_;have pu:=big (Nat.dvd_trans p1 (Nat.gcd_dvd_left _ _));have pv:=big2 (Nat.dvd_trans p1 (Nat.gcd_dvd_right _ _));rw[eu, <- hzn, <- hcn] at pu;rw[ev, <- hzn, <- hcn] at pv;have pz:p ∣ z.natAbs:=by rw[ez,Int.natAbs_mul]; exact Nat.dvd_trans p2 (Nat.dvd_mul_left _ _)
  have:=Nat.dvd_gcd (Nat.dvd_gcd (z9V czc p2 pu) (z9V czc p2 pv)) pz;rw[z4b] at h1;rw[h1] at this;exact this
 have k2:Nat.Coprime (Nat.gcd u'.natAbs v'.natAbs) c'.natAbs:=by
  refine z74 λp p1 p2 =>?_;have pu:=big (Nat.dvd_trans p1 (Nat.gcd_dvd_left _ _));have pv:=big2 (Nat.dvd_trans p1 (Nat.gcd_dvd_right _ _));rw[eu, <- hzn, <- hcn,Int.add_comm] at pu;rw[ev, <- hzn, <- hcn,Int.add_comm] at pv;have pz:p ∣ c.natAbs:=by rw[ec,Int.natAbs_mul]; exact Nat.dvd_trans p2 (Nat.dvd_mul_left _ _)
  have:=Nat.dvd_gcd (Nat.dvd_gcd (z9V czc.symm p2 pu) (z9V czc.symm p2 pv)) pz;rw[z4b] at h2;rw[h2] at this;exact this
 have k3:Nat.Coprime (Nat.gcd u'.natAbs v'.natAbs) g'.natAbs:=by
  refine z74 λp p1 p2 =>?_;have:=Nat.dvd_gcd (Nat.dvd_gcd p2 (Nat.dvd_trans p1 (Nat.gcd_dvd_left _ _))) (Nat.dvd_trans p1 (Nat.gcd_dvd_right _ _));rw[cg] at this;exact this
 have eX:x*c+a*z=g*r*u':=by rw[Int.mul_assoc, <- eu',eu,ec,ez]; grind
 have eY:y*c+b*z=g*r*v':=by rw[Int.mul_assoc, <- ev',ev,ec,ez]; grind
 have eZ:z*c=g*r*(z'*(g'*c')):=by rw[ez,ec]; generalize g=G at eg' ⊢; subst eg'; grind
 have hgr:0<g*r:=Int.mul_pos hg hr;have small:∀k:Int,k.natAbs<=(g*r*k).natAbs:=λk=>by
  rw[Int.natAbs_mul];exact Nat.le_mul_of_pos_left _ (by omega)
 refine⟨hg,hr,Nat.le_of_dvd (by omega) (Int.natAbs_dvd_natAbs.mpr ⟨z',ez⟩),Nat.le_of_dvd (by omega) (Int.natAbs_dvd_natAbs.mpr ⟨g'*z',by rw[ez,eg',Int.mul_assoc]⟩),?_,?_,?_,?_,?_,?_,?_⟩
 ·have:=Int.mul_pos hz' (Int.mul_pos hg' hc');omega
 ·rw[z4b,Int.natAbs_mul,Int.natAbs_mul];exact Nat.Coprime.mul_right k1 (Nat.Coprime.mul_right k3 k2)
 ·rw[eX,eZ]; grind
 ·rw[eY,eZ]; grind
 ·rw[eX]; exact small _
 ·rw[eY]; exact small _
 ·rw[eZ]; exact small _
end Mth
namespace L2
open PySem PySem.Spec PyProof.Rows
section
variable {prog:Program}{w:World}{A:Around}{R:Result->Shared->Prop}{s:Shared}
def zgx (M:Model)(A:Around)(ct:Option Expr)(env:Env)(Q:Bool->Shared->Prop)(E:Value->Shared->Prop)(s:Shared):Prop:=
 match ct with
 | none=>Q true s
 | some c=>wpAny M A (isTrue c env (eval c env)) Q E s
def z7k {elt target iter:Expr}{ct:Option Expr}{scope:Scope}{pos:Pos}{it acc:Value}{env:Env}(I:Nat->Shared->Prop)
  (turn:∀n s,I n s->wpAny (model prog w) A (pyNext it) (λr s1=>match r with
   | none=>R (.ok .next) s1
   | some v=>wpAny (model prog w) A (letOwnedTupleGo target it v) (λ_ s5=>wpAny (model prog w) A (assign target env v) (λ_ s2=>zgx (model prog w) A ct env (λok s3=>if ok=true then wpAny (model prog w) A (eval elt env) (λx s4=>
     wpAny (model prog w) A (call (.builtin "list.append") [acc,x]) (λ_ s6=>∃m,m<n/\I m s6) (notedBy (model prog w) A env λe s'=>R (.error e) s') s4)
     (notedBy (model prog w) A env λe s'=>R (.error e) s') s3 else ∃m,m<n/\I m s3) (notedBy (model prog w) A env λe s'=>R (.error e) s') s2) (notedBy (model prog w) A env λe s'=>R (.error e) s') s5) (notedBy (model prog w) A env λe s'=>R (.error e) s') s1) (notedBy (model prog w) A env λe s'=>R (.error e) s') s)
  (n:Nat) (h:I n s):
  codeAny (model prog w) A (.compLoop (.ListComp elt [⟨target,iter,ct.toList,0⟩] scope pos) 0 it acc env) R s:=by
 refine codeAny_loop rfl I (λn s hI =>?_) n h;show wpAny _ _ ((compTurn (.ListComp elt [⟨target,iter,ct.toList,0⟩] scope pos) 0 it acc env).onRaise (λx=>do noteFrame x env; theTreesLotGoes x)) _ _ s;refine wpAny_noted ?_;rw[compTurn_list];refine wpAny_bind (wpAny_standAt (wpAny_bind (wpAny_mono (turn n s hI) (λr s1 h1 =>?_) λ_ _ h'=>h')))
 cases r with
 | none=>exact wpAny_pure h1
 | some v=>
  refine wpAny_bind (wpAny_mono h1 (λ_ s5 h5 =>?_) λ_ _ h'=>h');refine wpAny_bind (wpAny_mono h5 (λ_ s2 h2 =>?_) λ_ _ h'=>h')
  cases ct with
  | none=>
   refine wpAny_bind (wpAny_mono (wpAny_tests_nil (Q:=λok s3=>ok=true/\s3=s2) ⟨rfl,rfl⟩) (λok s3 h3 =>?_) λ_ _ h'=>h');obtain⟨rfl,rfl⟩:=h3;have h2':=h2;simp only[zgx,if_true] at h2';exact wpAny_bind (wpAny_bind (wpAny_mono h2' (λx s4 h4=>wpAny_bind (wpAny_mono h4 (λ_ s6 h6=>wpAny_pure (wpAny_pure ⟨rfl,h6⟩)) λ_ _ h'=>h')) λ_ _ h'=>h'))
  | some c=>
   refine wpAny_bind (wpAny_tests_one (wpAny_mono (show wpAny (model prog w) A (isTrue c env (eval c env)) _ _ _ from h2) (λokb s3 h3 =>?_) λ_ _ h'=>h'))
   cases okb with
   | false=>exact wpAny_pure ⟨rfl,by simpa using h3⟩
   | true=>
    have h3':=h3;simp only[if_true] at h3';exact wpAny_bind (wpAny_bind (wpAny_mono h3' (λx s4 h4=>wpAny_bind (wpAny_mono h4 (λ_ s6 h6=>wpAny_pure (wpAny_pure ⟨rfl,h6⟩)) λ_ _ h'=>h')) λ_ _ h'=>h'))
end
def z4W (env:Env)(names:List (Str × NameKind))(acc:List (Str × Addr)):List (Str × Addr):=names.foldl (λc x=>if x.2 == .free then (x.1,(env.cells.lookup x.1).getD 0)::c else c) acc
def z9b {α β:Type}{f:α->β->Sem (ForInStep β)}{g:α->β->β}:∀(l:List α) (b:β),(∀x∈l,∀c,f x c=pure (.yield (g x c)))->forIn l b f=(pure (l.foldl (λc x=>g x c) b):Sem β)
 | [],b,_=>rfl
 | x::l,b,h=>by
  rw[List.forIn_cons,h x List.mem_cons_self,pure_bind];exact z9b l (g x b) λy hy=>h y (List.mem_cons_of_mem _ hy)
def z6P {scope:Scope}{env:Env}(h:∀x∈scope.names,x.2 = .free->∃c,env.cells.lookup x.1=some c):closureFor scope env=pure (z4W env scope.names []):=by
 simp only[closureFor];rw[z9b (g:=λx c=>if x.2 == .free then (x.1,(env.cells.lookup x.1).getD 0)::c else c) scope.names [] (λx hx c=>by
  obtain⟨n,kind⟩:=x
  by_cases hk:kind = .free
  ·subst hk;obtain⟨a,ha⟩:=h _ hx rfl;have e:cellOf env n=pure a:=by unfold cellOf; rw[ha]
   simp[e,ha]
  ·have:(kind == NameKind.free)=false:=by simpa using hk
   simp[this])]
 rfl
def zbq {env:Env}{y:Str}{c:Addr}:∀{names:List (Str × NameKind)}{acc:List (Str × Addr)},(y,c)∈z4W env names acc↔(y,c)∈acc\/((y,NameKind.free)∈names/\c=(env.cells.lookup y).getD 0)
 | [],acc=>by simp[z4W]
 | (n,k)::r,acc=>by
  show (y,c)∈z4W env r (if k == .free then (n,(env.cells.lookup n).getD 0)::acc else acc)↔_;rw[zbq]
  by_cases hk:k = .free
  ·subst hk;simp only[beq_self_eq_true,if_true,List.mem_cons,Prod.mk.injEq]
   constructor
   ·rintro((⟨rfl,rfl⟩ | h) | ⟨h1,h2⟩)
    ·exact .inr ⟨.inl (by simp),rfl⟩
    ·exact .inl h
    ·exact .inr ⟨.inr h1,h2⟩
   ·rintro(h | ⟨⟨rfl,_⟩ | h1,h2⟩)
    ·exact .inl (.inr h)
    ·exact .inl (.inl ⟨rfl,h2⟩)
    ·exact .inr ⟨h1,h2⟩
  ·have:(k == NameKind.free)=false:=by simpa using hk
   simp only[this,Bool.false_eq_true,if_false,List.mem_cons,Prod.mk.injEq]
   constructor
   ·rintro(h | ⟨h1,h2⟩)
    ·exact .inl h
    ·exact .inr ⟨.inr h1,h2⟩
   ·rintro(h | ⟨⟨_,h⟩ | h1,h2⟩)
    ·exact .inl h
    ·exact absurd h.symm hk
    ·exact .inr ⟨h1,h2⟩
def z2Y {β:Type}{y:Str}{c:β}:∀{l:List (Str × β)},l.lookup y=some c->(y,c)∈l
 | [],h=>by simp at h
 | (n,j)::r,h=>by
  rw[List.lookup_cons] at h
  by_cases e:y=n
  ·subst e;simp at h;subst h;exact List.mem_cons_self
  ·have:(y == n)=false:=by simpa using e
   rw[this] at h;exact List.mem_cons_of_mem _ (z2Y h)
def z53 {β:Type}{y:Str}{c:β}:∀{l:List (Str × β)},(y,c)∈l->∃d,l.lookup y=some d
 | (n,j)::r,h=>by
  rw[List.lookup_cons]
  by_cases e:y=n
  ·subst e;simp
  ·have:(y == n)=false:=by simpa using e
   rw[this]
   rcases List.mem_cons.mp h with h | h
   ·exact absurd (congrArg Prod.fst h) e
   ·exact z53 h
def z4k {env:Env}:∀{names:List (Str × NameKind)}{x:Str}{k:NameKind},(names.map λ(n,k)=>if (k == NameKind.free && env.scope.kind == .function && env.kindOf n == some .cell) then (n,NameKind.cell) else (n,k)).lookup x=some k->
  names.lookup x=some k\/(k = .cell/\names.lookup x=some .free)
 | [],_,_,h=>by simp at h
 | (n,j)::r,x,k,h=>by
  have ih := @z4k env r x k;have h':List.lookup x ((if (j == NameKind.free && env.scope.kind == .function && env.kindOf n == some .cell)=true then (n,NameKind.cell) else (n,j))::(r.map λ(n,k)=>if (k == NameKind.free && env.scope.kind == .function && env.kindOf n == some .cell) then (n,NameKind.cell) else (n,k)))=some k:=h
  by_cases hc:(j == NameKind.free && env.scope.kind == .function && env.kindOf n == some .cell)=true
  ·rw[if_pos hc] at h';have hj:j = .free:=by
    have:=hc;simp only[Bool.and_eq_true,beq_iff_eq] at this;exact this.1.1
   cases hx:x == n with
   | true=>
    simp only[List.lookup_cons,hx] at h' ⊢;exact .inr ⟨(Option.some.inj h').symm,by rw[hj]⟩
   | false=>
    simp only[List.lookup_cons,hx] at h' ⊢;exact ih h'
  ·rw[if_neg hc] at h'
   cases hx:x == n with
   | true=>
    simp only[List.lookup_cons,hx] at h' ⊢;exact .inl h'
   | false=>
    simp only[List.lookup_cons,hx] at h' ⊢;exact ih h'
def z3M {env:Env}:∀{names:List (Str × NameKind)}{x:Str},names.lookup x=some .free->
  (names.map λ(n,k)=>if (k == NameKind.free && env.scope.kind == .function && env.kindOf n == some .cell) then (n,NameKind.cell) else (n,k)).lookup x=some .cell\/
  (names.map λ(n,k)=>if (k == NameKind.free && env.scope.kind == .function && env.kindOf n == some .cell) then (n,NameKind.cell) else (n,k)).lookup x=some .free
 | [],_,h=>by simp at h
 | (n,j)::r,x,h=>by
  have ih := @z3M env r x;show List.lookup x ((if (j == NameKind.free && env.scope.kind == .function && env.kindOf n == some .cell)=true then (n,NameKind.cell) else (n,j))::_)=_\/List.lookup x ((if (j == NameKind.free && env.scope.kind == .function && env.kindOf n == some .cell)=true then (n,NameKind.cell) else (n,j))::_)=_
  cases hx:x == n with
  | true=>
   simp only[List.lookup_cons,hx] at h
   cases h
   by_cases hc:(NameKind.free == NameKind.free && env.scope.kind == .function && env.kindOf n == some .cell)=true
   ·rw[if_pos hc]; simp[List.lookup_cons,hx]
   ·rw[if_neg hc]; simp[List.lookup_cons,hx]
  | false=>
   simp only[List.lookup_cons,hx] at h
   by_cases hc:(j == NameKind.free && env.scope.kind == .function && env.kindOf n == some .cell)=true
   ·rw[if_pos hc]; simp only[List.lookup_cons,hx]; exact ih h
   ·rw[if_neg hc]; simp only[List.lookup_cons,hx]; exact ih h
@[reducible] def Cx.compG (X:Cx)(scope:Scope)(N':List Str)(C:Addr)(s:Shared)(H:Hp)(fp:List Addr):Cx:=
 { X with N:=N',s₀:=s,H₀:=H,env:=compEnvC scope (z4W X.env scope.names []) C X.env,outer:=X.stack,stack:=X.stack,ex:=fp,pn:=[],fn:=λy=>((z4W X.env scope.names []).lookup y).isNone,xe:=λ_ _=>False }
def z7E:TT:=λ_ H Q=>Q true H
def LcG (J:It)(g:TG)(tc:TT)(te:TE)(Q:VK)(σ0:St)(H1:Hp):Prop:=∃W:Nat->Nat->List V->St->Hp->Prop,(∃m,W 0 m [] σ0 H1)/\∀i m ys σ H,W i m ys σ H->
 ys.length<sizeLine/\((J.stop i H/\∀p,H p=none->Q (.ref p) (upd H p (.lst ys)))\/(J.go i H/\∀x H',J.yld i H x H'->g x σ H' λσ1 H1=>tc σ1 H1 λb H2=>if b=true then te σ1 H2 λy H3=>∃m',m'<m/\W (i+1) m' (ys++[y]) σ1 H3 else ∃m',m'<m/\W (i+1) m' ys σ1 H2))
def tLcG (wi:TI)(g:TG)(tc:TT)(te:TE)(nt:Nat)(js:List Nat):TE:=λσ H Q=>wi σ H λJ H1=>LcG J g tc te Q (List.replicate nt none++js.map λj=>(σ[j]?).getD none) H1
def z5E (N' xn:List Str)(nt:Nat)(js:List Nat)(names onames:List (Str × NameKind)):Bool:=
 N'.length == nt+js.length && (js.zipIdx.all λp=>match N'[nt+p.2]? with
  | some y=>xn[p.1]? == some y && names.lookup y == some .free
  | none=>false) && names.all (λx=>x.2 != .cell && (x.2 != .local || names.lookup x.1 == some .local) && (x.2 != .free || ((onames.lookup x.1 == some .cell || onames.lookup x.1 == some .free))))
section
variable {X:Cx}{pins:List (Addr × Obj)}{σ:St}{H:Hp}{s:Shared}
structure z6S (X:Cx)(N':List Str)(nt:Nat)(js:List Nat)(scope:Scope):Prop where
 len:N'.length=nt+js.length
 cap:∀k j,js[k]? = some j->∃y,N'[nt+k]? = some y/\X.N[j]? = some y/\scope.names.lookup y=some .free
 nocell:∀y∈scope.names,y.2 ≠ .cell
 loc:∀y∈scope.names,y.2 = .local->scope.names.lookup y.1=some .local
 free:∀y∈scope.names,y.2 = .free->X.env.kindOf y.1=some .cell\/X.env.kindOf y.1=some .free
def z5E.ok {N' xn:List Str}{nt:Nat}{js:List Nat}{scope osc:Scope}(hxn:X.N=xn)(hosc:X.env.scope=osc)(h:z5E N' xn nt js scope.names osc.names=true):z6S X N' nt js scope:=by
 unfold z5E at h;simp only[Bool.and_eq_true,beq_iff_eq] at h;obtain⟨⟨h1,h2⟩,h3⟩:=h;rw[List.all_eq_true] at h2 h3;have h3':∀y∈scope.names,y.2 ≠ .cell/\(y.2 = .local->scope.names.lookup y.1=some .local)/\(y.2 = .free->osc.names.lookup y.1=some .cell\/osc.names.lookup y.1=some .free):=λy hy=>by
  have:=h3 y hy;simp only[Bool.and_eq_true,Bool.or_eq_true,bne_iff_ne,beq_iff_eq] at this;refine⟨this.1.1,λz =>?_,λz =>?_⟩
  ·rcases this.1.2 with q | q
   ·exact absurd z q
   ·exact q
  ·rcases this.2 with q | q
   ·exact absurd z q
   ·exact q
 refine⟨h1,λk j hk =>?_,λy hy=>(h3' y hy).1,λy hy=>(h3' y hy).2.1,λy hy z =>?_⟩
 ·have hm:(j,k)∈js.zipIdx:=by
   rw[List.mem_zipIdx_iff_getElem?];exact hk
  have:=h2 (j,k) hm
  cases e:N'[nt+k]? with
  | none=>simp only[e] at this; cases this
  | some y=>
   simp only[e,Bool.and_eq_true,beq_iff_eq] at this;exact⟨y,rfl,by rw[hxn]; exact this.1,this.2⟩
 ·show X.env.scope.names.lookup y.1=some .cell\/X.env.scope.names.lookup y.1=some .free;rw[hosc];exact(h3' y hy).2.2 z
def z6S.cells {N':List Str}{nt:Nat}{js:List Nat}{scope:Scope}(c:z6S X N' nt js scope)(I:Inv X pins σ H s):∀x∈scope.names,x.2 = .free->∃a,X.env.cells.lookup x.1=some a:=λx hx hf=>I.ok.has x.1 (c.free x hx hf)
def z6S.clo {N':List Str}{nt:Nat}{js:List Nat}{scope:Scope}(c:z6S X N' nt js scope)(I:Inv X pins σ H s){y:Str}{a:Addr}(h:(z4W X.env scope.names []).lookup y=some a):X.env.cells.lookup y=some a/\(y,NameKind.free)∈scope.names:=by
 rcases zbq.mp (z2Y h) with z | ⟨z1,z2⟩
 ·simp at z
 ·obtain⟨b,hb⟩:=c.cells I (y,.free) z1 rfl;have hb':X.env.cells.lookup y=some b:=hb;rw[hb'] at z2;exact⟨by rw[hb',z2]; rfl,z1⟩
def z6S.has {N':List Str}{nt:Nat}{js:List Nat}{scope:Scope}(c:z6S X N' nt js scope)(I:Inv X pins σ H s){y:Str}(h:(y,NameKind.free)∈scope.names):∃a,(z4W X.env scope.names []).lookup y=some a:=
 z53 (c:=(X.env.cells.lookup y).getD 0) (zbq.mpr (.inr ⟨h,rfl⟩))
def Inv.compG {scope:Scope}{N':List Str}{nt:Nat}{js:List Nat}{C:Addr}{fp:List Addr}{h1:Heap}{t1:Nat}(I:Inv X pins σ H s)(hk:scope.kind = .function)(c:z6S X N' nt js scope)
  (hC:s.heap.objs.size<=C) (hfp:∀b∈fp,FpOk X pins H b) (hfo:∀b∈fp,b<s.heap.objs.size) (keep:∀b o,s.heap.get? b=some o->h1.get? b=some o) (hns:∃m,h1.Ns C m) (hc:X.calm=true):
  Inv (X.compG scope N' C s H fp) [] (List.replicate nt none++js.map λj=>(σ[j]?).getD none) H { s with heap:=h1,toks:=t1 }:=by
 have nofs:∀b∈fp,b ∉ frs X.stack:=λb hb z=>by
  rcases List.mem_cons.mp (I.stkSub b z) with q | q
  ·exact(hfp b hb).2.1 q
  ·exact(hfp b hb).2.2.1 q
 have nobase:∀b o,X.base.get? b=some o->b ∉ fp:=λb o e hb=>by
  have e2:=(I.ok.bs b o e).1
  rcases(hfp b hb).2.2.2.1 with z | z
  ·exact I.ok.noex b o e z
  ·exact absurd (Nat.lt_of_lt_of_le (Heap.lt_size e2) z) (Nat.lt_irrefl _)
 have kd:∀{y:Str},((compEnvC scope (z4W X.env scope.names []) C X.env).kindOf y=some .cell\/(compEnvC scope (z4W X.env scope.names []) C X.env).kindOf y=some .free)->(y,NameKind.free)∈scope.names:=λ{y} q=>by
  rcases q with q | q
  ·rcases z4k (env:=X.env) q with z | ⟨_,z⟩
   ·exact absurd rfl (c.nocell _ (z2Y z))
   ·exact z2Y z
  ·rcases z4k (env:=X.env) q with z | ⟨z,_⟩
   ·exact z2Y z
   ·cases z
 have cell:∀{a:Addr}{v:Option Value},s.heap.IsCell a v->h1.IsCell a v:=λ⟨o,ho,hd⟩=>⟨o,keep _ _ ho,hd⟩
 obtain⟨m1,hm1⟩:=hns;refine⟨⟨I.ok.mod,hk,I.ok.glob,I.ok.blt,hC,(λy z a e1 e2=>I.ok.inj y z a (c.clo I e1).1 (c.clo I e2).1),(λy q=>c.has I (kd q)),(λy a hf e =>?_),(λ_=>I.ok.hd hc),I.ok.frames,.inl rfl,(λb hb=>⟨Nat.ne_of_lt (Nat.lt_of_lt_of_le (hfo b hb) hC),(λy a e=>(hfp b hb).2.2.2.2.1 y a (c.clo I e).1)⟩),(λb o e=>⟨I.bk b o e,(I.bs b o e).2⟩),Nat.le_trans I.ok.bsz I.sz,nobase,nofs,I.stack,I.stkFree⟩,
  rfl,I.bare,Un.kept keep,⟨m1,hm1,(λi y v e1 e2 hv =>?_)⟩,(λy a e =>?_),I.hok.fresh hC,(λy a e=>I.freeC y a (c.clo I e).1),(λp hp=>by simp at hp),I.hok.kept keep,?_⟩
 ·have hf':((z4W X.env scope.names []).lookup y).isNone=true:=hf;have e':(z4W X.env scope.names []).lookup y=some a:=e;rw[e'] at hf'
  cases hf'
 ·rcases Nat.lt_or_ge i nt with hi | hi
  ·rw[List.getElem?_append_left (by simpa using hi),List.getElem?_replicate] at e2;rw[if_pos hi] at e2
   cases e2
  ·rw[List.getElem?_append_right (by simpa using hi),List.length_replicate,List.getElem?_map] at e2
   cases ej:js[i - nt]? with
   | none=>rw[ej] at e2; cases e2
   | some j=>
    rw[ej] at e2;obtain⟨y',q1,q2,q3⟩:=c.cap _ _ ej;have hi':nt+(i - nt)=i:=by omega
    rw[hi'] at q1;have e1':N'[i]? = some y:=e1;rw[q1] at e1'
    cases e1'
    have e2:some ((σ[j]?).getD none)=some (some v):=e2;have hσ:σ[j]? = some (some v):=by
     cases ez:σ[j]? with
     | none=>rw[ez] at e2; cases e2
     | some z=>rw[ez] at e2; exact congrArg some (Option.some.inj e2)
    have hkX:=c.free _ (z2Y q3) rfl;obtain⟨m,hn,hl⟩:=I.loc;obtain⟨u,r,l⟩:=hl j y v q2 hσ (.inr hkX);refine⟨u,r,.inr ⟨z3M (env:=X.env) q3,?_⟩⟩
    rcases l with ⟨l,_⟩ | ⟨_,a,ha,hcell⟩
    ·have l':X.env.kindOf y=some .local:=l
     rcases hkX with z | z
     ·rw[l'] at z; cases z
     ·rw[l'] at z; cases z
    ·obtain⟨b,hb⟩:=c.has I (z2Y q3);have:=(c.clo I hb).1;rw[ha] at this
     cases this
     exact⟨a,hb,cell hcell⟩
 ·obtain⟨v,z⟩:=I.cell y a (c.clo I e).1;exact⟨v,cell z⟩
 ·show (List.replicate nt none++js.map λj=>(σ[j]?).getD none).length=N'.length;rw[List.length_append,List.length_replicate,List.length_map,c.len]
def zk9 {elt iter target:Expr}{ct:Option Expr}{pos:Pos}{scope:Scope}{wi:TI}{g:TG}{tc:TT}{te:TE}{N':List Str}{nt:Nat}{js:List Nat}(hc:X.calm=true)(hi:PI X target iter wi)(hk:scope.kind = .function)(cp:z6S X N' nt js scope)
  (hg:∀(C:Addr) (s:Shared) (H:Hp) (fp:List Addr),PG (X.compG scope N' C s H fp) target g)
  (ht:match ct with
   | none=>tc=z7E
   | some c=>∀(C:Addr) (s:Shared) (H:Hp) (fp:List Addr),PT (X.compG scope N' C s H fp) c tc)
  (he:∀(C:Addr) (s:Shared) (H:Hp) (fp:List Addr),PE (X.compG scope N' C s H fp) elt te) (hs:∀x,foldedSetIterable iter X.env x=pure x:=by intro _; rfl):PE X (.ListComp elt [⟨target,iter,ct.toList,0⟩] scope pos) (tLcG wi g tc te nt js):=by
 intro pins s σ H Q I h;rw[eval_ListComp];refine wpAny_comprehension_free (use:=none) rfl hs (z6P (cp.cells I)) hk cp.loc (thn (hi pins s σ H _ I h) λv s1 h1=>thn h1 λitv s2 h2 =>?_);obtain⟨it,fp,tn,J,H2,e,I2,T,st2,f2,W,⟨m0,w0⟩,turn⟩:=h2;subst e;have hfo:∀b∈fp,b<s2.heap.objs.size:=λb hb=>by
  obtain⟨o,e,_⟩:=T.obj _ _ st2 b hb;exact Heap.lt_size e
 refine wpAny_newObj_type (wpAny_newFunctionEnv cp.nocell (by intro y hy; simp at hy) (λg1 hns1 hsb1 =>?_) hk);dsimp only at hns1 hsb1 ⊢;generalize hG2:s2.heap.push { cls :=.type "list",dict:=none,data :=.seq ([]:List Value).toArray }=G2 at hns1 hsb1 ⊢;have hC:G2.objs.size=s2.heap.objs.size+1:=by rw[<- hG2,Heap.size_push]
 have hDC:s2.heap.objs.size≠G2.objs.size:=by rw[hC]; exact Nat.ne_of_lt (Nat.lt_succ_self _)
 have below:∀b,b<s2.heap.objs.size->b≠G2.objs.size/\b≠s2.heap.objs.size:=λb hb=>⟨by rw[hC]; exact Nat.ne_of_lt (Nat.lt_succ_of_lt hb),Nat.ne_of_lt hb⟩
 have old:∀b o,s2.heap.get? b=some o->g1.get? b=some o:=λb o e=>hsb1.extBut b o (below b (Heap.lt_size e)).1 (Heap.get?_push_of_some _ (hG2 ▸ Heap.get?_push_of_some _ e));have hacc:g1.get? s2.heap.objs.size=some { cls :=.type "list",data :=.seq ([]:List Value).toArray 0 }:=hsb1.extBut _ _ hDC (Heap.get?_push_of_some _ (hG2 ▸ Heap.get?_push_size _ rfl));have hCge:s2.heap.objs.size<=G2.objs.size:=by rw[hC]; exact Nat.le_succ _
 have cellD:∀y a,X.env.cells.lookup y=some a->a<s2.heap.objs.size:=λy a e=>by
  obtain⟨v,o,ho,_⟩:=I2.cell y a e;exact Heap.lt_size ho
 generalize hCC:G2.objs.size=C at*;generalize hDD:s2.heap.objs.size=D at*
 let Y:Cx:=X.compG scope N' C s2 H2 fp
 have IY:Inv Y [] (List.replicate nt none++js.map λj=>(σ[j]?).getD none) H2 { s2 with heap:=g1,toks:=s2.toks+([]:List (Str × Value)).length }:=I2.compG hk cp (by rw[hDD]; exact hCge) f2 (by rw[hDD]; exact hfo) old ⟨_,hns1⟩ hc;have fpD:∀b∈fp,b≠D:=λb hb=>(below b (hfo b hb)).2;have fpC:∀b∈fp,b≠C:=λb hb=>(below b (hfo b hb)).1;have H2D:H2 D=none:=I2.hok.fresh (by rw[hDD]; exact Nat.le_refl _);have Dnf:D ∉ frs X.stack:=λz=>by
  obtain⟨_,o,e,_⟩:=I2.stack.mem z;exact absurd (Heap.lt_size e) (by rw[hDD]; exact Nat.lt_irrefl _)
 have stat:∀{H':Hp}{pl:List (Addr × Obj)},(∀b∈fp,H' b=none)->(∀p∈pl,p.1=D)->∀b∈fp,FpOk Y pl H' b:=λhn hp b hb=>⟨hn b hb,fpC b hb,(λz=>IY.ok.exfs b hb z),.inl hb,(λy a e=>(f2 b hb).2.2.2.2.1 y a (cp.clo I2 e).1),λp hp' z=>fpD b hb (z.symm.trans (hp p (by simpa[Y] using hp')))⟩
 have loop:∀s3:Shared,s3={ s2 with heap:=g1,toks:=s2.toks+([]:List (Str × Value)).length }->
   codeAny (model X.prog X.w) X.A (.compLoop (.ListComp elt [⟨target,iter,ct.toList,0⟩] scope pos) 0 (.ref it) (.ref D) (compEnvC scope (z4W X.env scope.names []) C X.env)) (compPost (model X.prog X.w) X.A X.xe none (EP X pins σ Q) (.ref D) C) s3:=by
  intro s3 e3;refine z7k (λn s'=>∃i ys its σ' H',Inv Y [] σ' H' s'/\s'.heap.get? D=some { cls :=.type "list",data :=.seq (its:List Value).toArray its.length }/\Vals ys its/\H' D=none/\tn i s'.heap/\(∀b∈fp,H' b=none)/\W i n ys σ' H') ?_ m0 ⟨0,[],[],_,H2,e3 ▸ IY,?_,.nil,H2D,?_,λb hb=>(f2 b hb).1,w0⟩
  ·rintro n s4 ⟨i,ys,its,σ4,H4,I4,hD4,hv4,hn4,st4,fr4,w4⟩;obtain⟨hsz,step⟩:=turn i n ys σ4 H4 w4;have hl4:ys.length=its.length:=hv4.length;have I4p:Inv Y [(D,{ cls :=.type "list",data :=.seq its.toArray its.length })] σ4 H4 s4:=I4.pins_of λp hp=>by
    rw[List.mem_singleton.mp hp];exact⟨hD4,hn4,hDC,Dnf,λv z=>by cases z⟩
   have one:∀p∈[((D:Addr),({ cls :=.type "list",data :=.seq its.toArray its.length }:Obj))],p.1=D:=λp hp=>by rw[List.mem_singleton.mp hp]
   rcases step with ⟨stop,qn⟩ | ⟨go,step⟩
   ·refine wpAny_mono (T.done Y rfl rfl rfl hc i _ s4 σ4 H4 (λ_ _=>False) I4p (stat fr4 one) st4 stop) (λr s5 hr =>?_) λ_ _ z=>z.elim;obtain⟨rfl,I5⟩:=hr;have hD5:s5.heap.get? D=some { cls :=.type "list",data :=.seq its.toArray its.length }:=(I5.pin (D,_) (by simp)).1;obtain⟨m5,hm5,_⟩:=I5.loc;refine⟨m5,hm5,λh' sb =>?_⟩;have U:Un (frs X.stack) fp H2 H4 s2.heap s5.heap:=I5.base;have nC:∀b o,s2.heap.get? b=some o->b≠C:=λb o e=>(below b (hDD ▸ Heap.lt_size e)).1;have nD:∀b o,s2.heap.get? b=some o->b≠D:=λb o e=>(below b (hDD ▸ Heap.lt_size e)).2;have ex:∀b o,b≠C->s5.heap.get? b=some o->h'.get? b=some o:=λb o n e=>sb.extBut b o n e;have U':Un (frs X.stack) fp H2 (upd H4 D (.lst ys)) s2.heap h':=⟨λb o e n hb hx'=>ex b o (nC b o e) (U.keep b o e n hb hx'),λb o e n hb hx'=>by
      obtain⟨sl,q⟩:=U.slot b o e n hb hx';exact⟨sl,ex b _ (nC b o e) q⟩,λb o e n hx'=>by rw[z0o (nD b o e)]; exact U.free b o e n hx',λb o e hx'=>by
      obtain⟨o',q⟩:=U.there b o e hx';exact⟨o',ex b _ (nC b o e) q⟩,λb xs e=>by rw[z0o (z0U (U.tups b xs e) hn4)]; exact U.tups b xs e,λb o xs e=>by rw[z0o (z0U (U.frzs b o xs e) hn4)]; exact U.frzs b o xs e,λb ps e=>by
      obtain⟨more,q⟩:=U.tbls b ps e;exact⟨more,by rw[z0o (z0U q hn4)]; exact q⟩⟩
    have ok1:HOk X.prog X.w H4 h':=HOk.other I5.hok I5.free λb u n e=>ex b u n e;have ok2:HOk X.prog X.w (upd H4 D (.lst ys)) h':=ok1.track hn4 ⟨Nat.le_of_lt hsz,its,_,hv4,ex D _ hDC hD5⟩;exact⟨.ref D,upd H4 D (.lst ys),I2.call' (s':={ s5 with heap:=h' }) I5.os U' ok2 I5.bare (λb hb=>⟨(f2 b hb).2.2.2.1,(f2 b hb).2.1,(f2 b hb).2.2.2.2.1,(f2 b hb).2.2.2.2.2⟩),rfl,qn D hn4⟩
   ·refine wpAny_mono (T.item Y rfl rfl rfl hc i _ s4 σ4 H4 (λ_ _=>False) I4p (stat fr4 one) st4 go) (λr s5 hr =>?_) λ_ _ z=>z.elim;obtain⟨u,rfl,h5⟩:=hr;refine wpAny_mono h5 (λ_ s6 h6 =>?_) λ_ _ z=>z.elim;obtain⟨xv,H6,I6,r6,y6,st6,fr6⟩:=h6;have I6p:=I6.pinned (stat fr6 one) (T.obj _ _ st6);have after:∀{σ8:St}{H8:Hp}{s8:Shared},Inv Y _ σ8 H8 s8->_:=λ{σ8 H8 s8} (I8:Inv Y ([(D,{ cls :=.type "list",data :=.seq its.toArray its.length })]++z7e fp s6.heap) σ8 H8 s8)=>
     (show (s8.heap.get? D=some { cls :=.type "list",data :=.seq its.toArray its.length }/\H8 D=none)/\tn (i+1) s8.heap/\(∀b∈fp,H8 b=none)/\Inv Y [] σ8 H8 s8 from by
      have pD:=I8.pin (D,{ cls :=.type "list",data :=.seq its.toArray its.length }) (by simp);refine⟨⟨pD.1,pD.2.1⟩,T.keep _ _ _ st6 λb hb o e=>(I8.pin (b,o) (List.mem_append_right _ (List.mem_append_right _ (z3D hb e)))).1,λb hb =>?_,I8.pins_of (pins':=[]) λp hp=>by simp at hp⟩;obtain⟨o,e,d⟩:=T.obj _ _ st6 b hb;exact(I8.pin (b,o) (List.mem_append_right _ (List.mem_append_right _ (z3D hb e)))).2.1)
    refine wpAny_mono (hg C s2 H2 fp _ s6 σ4 H6 xv u _ I6p r6 (step xv H6 y6)) (λ_ s7 h7 =>?_) λ_ _ z=>z.elim;obtain⟨σ7,H7,I7,q7⟩:=h7;have yes:∀s7' H7',Inv Y _ σ7 H7' s7'->(te σ7 H7' λy H3=>∃m',m'<n/\W (i+1) m' (ys++[y]) σ7 H3)->_:=λs7' H7' (I7':Inv Y ([(D,{ cls :=.type "list",data :=.seq its.toArray its.length })]++z7e fp s6.heap) σ7 H7' s7') qe=>
     wpAny_mono (Q':=λyv s8=>wpAny (model X.prog X.w) X.A (call (.builtin "list.append") [.ref D,yv]) (λ_ s6=>∃m,m<n/\∃i ys its σ' H',Inv Y [] σ' H' s6/\s6.heap.get? D=some { cls :=.type "list",data :=.seq (its:List Value).toArray its.length }/\Vals ys its/\H' D=none/\tn i s6.heap/\(∀b∈fp,H' b=none)/\W i m ys σ' H') (notedBy (model X.prog X.w) X.A (compEnvC scope (z4W X.env scope.names []) C X.env) λe s'=>compPost (model X.prog X.w) X.A X.xe none (EP X pins σ Q) (.ref D) C (.error e) s') s8) (he C s2 H2 fp _ s7' σ7 H7' _ I7' qe) (λyv s8 h8=>by
      obtain⟨y,H8,I8,r8,m',hm',w8⟩:=h8;obtain⟨⟨pD1,pD2⟩,st8,fr8,I8u⟩:=after I8;refine append_at (hsz:=by rw[List.size_toArray, <- hl4]; exact Nat.le_of_lt hsz) pD1 λh9 sb9 hD9 =>?_;refine⟨m',hm',i+1,ys++[y],its++[yv],σ7,H8,I8u.turned (it:=D) (t':=s8.toks) (λb o n e=>sb9.extBut b o n e) pD2 hDC (.inr (by rw[hDD]; exact Nat.le_refl _)) (λy a e z=>by
        have:=cellD y a (cp.clo I2 e).1;rw[z] at this;exact Nat.lt_irrefl _ this) (λp hp=>by simp[Y] at hp),?_,Vals.append hv4 (.cons r8 .nil),pD2,T.keep _ _ _ st8 λb hb o e=>sb9.extBut b o (fpD b hb) e,fr8,w8⟩
      show h9.get? D=_;rw[hD9];simp) (E':=notedBy (model X.prog X.w) X.A (compEnvC scope (z4W X.env scope.names []) C X.env) λe s'=>compPost (model X.prog X.w) X.A X.xe none (EP X pins σ Q) (.ref D) C (.error e) s') (λ_ _ z=>z.elim)
    cases ct with
    | none=>
     have ht':tc=z7E:=ht;subst ht';simp only[zgx,if_true];have q7':if true=true then te σ7 H7 λy H3=>∃m',m'<n/\W (i+1) m' (ys++[y]) σ7 H3 else ∃m',m'<n/\W (i+1) m' ys σ7 H7:=q7
     rw[if_pos rfl] at q7';exact yes s7 H7 I7 q7'
    | some c=>
     refine wpAny_mono (ht C s2 H2 fp _ s7 σ7 H7 _ I7 q7) (λb s8 h8 =>?_) λ_ _ z=>z.elim;obtain⟨H8,I8,q8⟩:=h8
     cases b with
     | true=>
      rw[if_pos rfl] at q8 ⊢;exact yes s8 H8 I8 q8
     | false=>
      rw[if_neg Bool.false_ne_true] at q8 ⊢;obtain⟨m',hm',w8⟩:=q8;obtain⟨⟨pD1,pD2⟩,st8,fr8,I8u⟩:=after I8;exact⟨m',hm',i+1,ys,its,σ7,H8,I8u,pD1,hv4,pD2,st8,fr8,w8⟩
  ·rw[e3]; exact hacc
  ·rw[e3]; exact T.keep _ _ _ st2 λb _ o e=>old b o e
 exact codeAny_compStart_list (loop _ rfl) (T.self _ 0 _ _ _ (T.keep _ _ _ st2 λb _ o e=>old b o e) (loop _ rfl))
def zjL {elt iter target:Expr}{ct:Option Expr}{pos:Pos}{scope:Scope}{wi:TI}{g:TG}{tc:TT}{te:TE}{N':List Str}{nt:Nat}{js:List Nat}(hc:X.calm=true)(hi:QI X target iter wi)(hk:scope.kind = .function)(cp:z6S X N' nt js scope)
  (hg:∀(C:Addr) (s:Shared) (H:Hp) (fp:List Addr),QG (X.compG scope N' C s H fp) target g)
  (ht:match ct with
   | none=>tc=z7E
   | some c=>∀(C:Addr) (s:Shared) (H:Hp) (fp:List Addr),QT (X.compG scope N' C s H fp) c tc)
  (he:∀(C:Addr) (s:Shared) (H:Hp) (fp:List Addr),QE (X.compG scope N' C s H fp) elt te) (hs:∀x,foldedSetIterable iter X.env x=pure x:=by intro _; rfl):QE X (.ListComp elt [⟨target,iter,ct.toList,0⟩] scope pos) (tLcG wi g tc te nt js):=by
 refine⟨zk9 hc hi.p hk cp (λC s H fp=>(hg C s H fp).p) ?_ (λC s H fp=>(he C s H fp).p) hs⟩
 cases ct with
 | none=>exact ht
 | some c=>exact λC s H fp=>(ht C s H fp).p
def z9q {i:Nat}{x:Str}{pos:Pos}(hN:X.N.Nodup)(hi:X.N[i]? = some x)(hx:X.env.scope.names.lookup x=some .local):QG X (.Name x pos) (z5l i):=⟨ze5 hN hi (.inl hx) (.inr hx)⟩
end
def z7C:∀(ns:List Int) {us:List Value},Vals (ns.map V.int) us->∃l:List (Int × Tok),us=l.map (λp=>Value.int p.1 p.2)/\l.map (·.1)=ns
 | [],_,r=>by cases r; exact⟨[],rfl,rfl⟩
 | n::ns,_,r=>by
  cases r with
  | cons r1 r2=>
   obtain⟨t,rfl⟩:=(show ∃t,_=Value.int n t from r1)
   obtain⟨l,rfl,hl⟩:=z7C ns r2;exact⟨(n,t)::l,rfl,by rw[List.map_cons,hl]⟩
def z9e (bt:Nat->Nat->Bool):∀k,argBest bt k<=k
 | 0=>Nat.le_refl _
 | k+1=>by
  rw[argBest]
  split
  ·exact Nat.le_refl _
  ·exact Nat.le_succ_of_le (z9e bt k)
def z8s (f:Nat->Int):∀k j,j<=k->f j<=f (argBest (λi j=>decide (f i > f j)) k)
 | 0,j,h=>by
  have:j=0:=by omega
  subst this;exact Int.le_refl _
 | k+1,j,h=>by
  have ih:=z8s f k;rw[argBest]
  by_cases hb:f (k+1) > f (argBest (λi j=>decide (f i > f j)) k)
  ·rw[if_pos (decide_eq_true hb)]
   rcases Nat.lt_or_ge j (k+1) with hj | hj
   ·have:=ih j (by omega); omega
   ·have:j=k+1:=by omega
    subst this;exact Int.le_refl _
  ·rw[if_neg (by rw[decide_eq_false hb]; exact Bool.false_ne_true)]
   rcases Nat.lt_or_ge j (k+1) with hj | hj
   ·exact ih j (by omega)
   ·have:j=k+1:=by omega
    subst this;omega
section
variable {X:Cx}
def zls (K:W.Frag):List V->Hp->VK->Prop:=λxs H Q=>∃(a:Addr) (ns:List Int),xs=[.ref a]/\SqL K H a (ns.map V.int)/\ns≠[]/\∀m,m∈ns->(∀x∈ns,x<=m)->Q (.int m) H
def zf3 (hc:X.calm=true):z19 X (.builtin "max") (zls X.K):=by
 intro pins s σ H xs us Q I r h;obtain⟨a,ns,rfl,hs,hne,q⟩:=h;obtain⟨u,rfl,ru⟩:=z4V r
 cases (show u=Value.ref a from ru)
 obtain⟨its,hv,pl,_⟩:=I.list hs;obtain⟨l,rfl,hl⟩:=z7C ns hv;have hll:l.length=ns.length:=by rw[<- hl,List.length_map]
 have hpos:0<l.length:=by
  cases ns with
  | nil=>exact absurd rfl hne
  | cons _ _=>rw[hll]; exact Nat.succ_pos _
 have num:∀i,numAt l.toArray i=(ns[i]?).getD 0:=λi=>by
  unfold numAt;rw[<- hl,List.getElem?_map];simp
 refine max_intList (xs:=l.toArray) (I.ok.hd hc) (by have:=pl.isList; simpa[intItems] using this) (by simpa using hpos) λv h' tk e hk =>?_;obtain⟨t,rfl⟩:=intItems_at e;generalize hk0:argBest (λi j=>decide (numAt l.toArray i > numAt l.toArray j)) (l.toArray.size - 1)=k at*;have hkle:k<=l.length - 1:=by
  have:=z9e (λi j=>decide (numAt l.toArray i > numAt l.toArray j)) (l.toArray.size - 1);rw[hk0] at this;simpa using this
 have hkn:k<ns.length:=by omega
 refine⟨.int _,H,I.kept (t':=tk) hk,⟨t,rfl⟩,q _ ?_ λx hx =>?_⟩
 ·rw[num,List.getElem?_eq_getElem hkn];exact List.getElem_mem hkn
 ·obtain⟨j,hj,rfl⟩:=List.mem_iff_getElem.mp hx;have hsz:l.toArray.size=l.length:=by simp
  have:=z8s (numAt l.toArray) (l.toArray.size - 1) j (by omega);rw[hk0] at this;rw[num j,List.getElem?_eq_getElem hj] at this;exact this
def zlp (K:W.Frag):List V->Hp->VK->Prop:=λxs H Q=>∃(a:Addr) (ns:List Int),xs=[.ref a]/\SqL K H a (ns.map V.int)/\Q (.int ns.sum) H
def zf0 (hc:X.calm=true):z19 X (.builtin "sum") (zlp X.K):=by
 intro pins s σ H xs us Q I r h;obtain⟨a,ns,rfl,hs,q⟩:=h;obtain⟨u,rfl,ru⟩:=z4V r
 cases (show u=Value.ref a from ru)
 obtain⟨its,hv,pl,_⟩:=I.list hs;obtain⟨l,rfl,hl⟩:=z7C ns hv;refine sum_intListG (xs:=l.toArray) (I.ok.hd hc) (by have:=pl.isList; simpa[intItems] using this) λh' tk t' hk =>?_;refine⟨.int _,H,I.kept (t':=tk) hk,⟨t',rfl⟩,?_⟩;rw[preSum_eq,List.take_of_length_le (by simp)];simpa[hl] using q
end
section
variable {X:Cx}
def z19.imp {f:Value}{r r':List V->Hp->VK->Prop}(h:z19 X f r)(i:∀xs H Q,r' xs H Q->r xs H Q):z19 X f r':=λpins s σ H xs us Q I rv q=>h pins s σ H xs us Q I rv (i xs H Q q)
end
def z7l {α:Type}{xs:List α}{i:Int}(h0:0<=i)(h1:i<xs.length):∃v∈xs,atI xs i=some v:=by
 have hk:i.toNat<xs.length:=by omega
 have ek:i=((i.toNat:Nat):Int):=by omega
 refine⟨xs[i.toNat],List.getElem_mem hk,?_⟩;have q:atI xs ((i.toNat:Nat):Int)=some xs[i.toNat]:=ziH (List.getElem?_eq_getElem hk);rw[<- ek] at q;exact q
section
variable {X:Cx}{pins:List (Addr × Obj)}{σ:St}{H:Hp}{s:Shared}
def zjX {elt iter target:Expr}{ct:Option Expr}{pos spos py:Pos}{y:Str}{iy:Nat}(hN:X.N.Nodup)(hiy:X.N[iy]? = some y)(hly:X.env.scope.names.lookup y=some .local){scope:Scope}{wi:TI}{g:TG}{tc:TT}{te:TE}{N':List Str}{nt:Nat}{js:List Nat}(hc:X.calm=true)(hi:PI X target iter wi)(hk:scope.kind = .function)(cp:z6S X N' nt js scope)
  (hg:∀(C:Addr) (s:Shared) (H:Hp) (fp:List Addr),PG (X.compG scope N' C s H fp) target g)
  (ht:match ct with
   | none=>tc=z7E
   | some c=>∀(C:Addr) (s:Shared) (H:Hp) (fp:List Addr),PT (X.compG scope N' C s H fp) c tc)
  (he:∀(C:Addr) (s:Shared) (H:Hp) (fp:List Addr),PE (X.compG scope N' C s H fp) elt te) (hsw:swapsWith (.ListComp elt [⟨target,iter,ct.toList,0⟩] scope pos) (some (.Name y py)) spos.line X.env=pure true:=by rfl) (hs:∀x,foldedSetIterable iter X.env x=pure x:=by intro _; rfl):PS X (.Assign [.Name y py] (.ListComp elt [⟨target,iter,ct.toList,0⟩] scope pos) spos) (tAsg (tLcG wi g tc te nt js) (z5l iy)):=by
 intro pins s σ H Dn I h;rw[exec_Assign_Name_used _ _ _ _ hsw];refine wpAny_bind (wpAny_standAt (wpAny_bind ?_));show wpAny _ X.A (do let _ <- comprehension (.ListComp elt [⟨target,iter,ct.toList,0⟩] scope pos) scope X.env _ (newList []) false (eval iter X.env) (some (assign (.Name y py) X.env))) _ _ s;refine wpAny_bind (wpAny_mono (wpAny_comprehension_free (use:=some (assign (.Name y py) X.env)) (Q:=λ_ s'=>SP X pins Dn .next s') rfl hs (z6P (cp.cells I)) hk cp.loc (thn (hi pins s σ H _ I h) λv s1 h1=>thn h1 λitv s2 h2 =>?_)) (λ_ s' hq=>wpAny_pure (wpAny_pure hq)) λ_ _ e=>e);obtain⟨it,fp,tn,J,H2,e,I2,T,st2,f2,W,⟨m0,w0⟩,turn⟩:=h2;subst e;have hfo:∀b∈fp,b<s2.heap.objs.size:=λb hb=>by
  obtain⟨o,e,_⟩:=T.obj _ _ st2 b hb;exact Heap.lt_size e
 refine wpAny_newObj_type (wpAny_newFunctionEnv cp.nocell (by intro y hy; simp at hy) (λg1 hns1 hsb1 =>?_) hk);dsimp only at hns1 hsb1 ⊢;generalize hG2:s2.heap.push { cls :=.type "list",dict:=none,data :=.seq ([]:List Value).toArray }=G2 at hns1 hsb1 ⊢;have hC:G2.objs.size=s2.heap.objs.size+1:=by rw[<- hG2,Heap.size_push]
 have hDC:s2.heap.objs.size≠G2.objs.size:=by rw[hC]; exact Nat.ne_of_lt (Nat.lt_succ_self _)
 have below:∀b,b<s2.heap.objs.size->b≠G2.objs.size/\b≠s2.heap.objs.size:=λb hb=>⟨by rw[hC]; exact Nat.ne_of_lt (Nat.lt_succ_of_lt hb),Nat.ne_of_lt hb⟩
 have old:∀b o,s2.heap.get? b=some o->g1.get? b=some o:=λb o e=>hsb1.extBut b o (below b (Heap.lt_size e)).1 (Heap.get?_push_of_some _ (hG2 ▸ Heap.get?_push_of_some _ e));have hacc:g1.get? s2.heap.objs.size=some { cls :=.type "list",data :=.seq ([]:List Value).toArray 0 }:=hsb1.extBut _ _ hDC (Heap.get?_push_of_some _ (hG2 ▸ Heap.get?_push_size _ rfl));have hCge:s2.heap.objs.size<=G2.objs.size:=by rw[hC]; exact Nat.le_succ _
 have cellD:∀y a,X.env.cells.lookup y=some a->a<s2.heap.objs.size:=λy a e=>by
  obtain⟨v,o,ho,_⟩:=I2.cell y a e;exact Heap.lt_size ho
 generalize hCC:G2.objs.size=C at*;generalize hDD:s2.heap.objs.size=D at*
 let Y:Cx:=X.compG scope N' C s2 H2 fp
 have IY:Inv Y [] (List.replicate nt none++js.map λj=>(σ[j]?).getD none) H2 { s2 with heap:=g1,toks:=s2.toks+([]:List (Str × Value)).length }:=I2.compG hk cp (by rw[hDD]; exact hCge) f2 (by rw[hDD]; exact hfo) old ⟨_,hns1⟩ hc;have fpD:∀b∈fp,b≠D:=λb hb=>(below b (hfo b hb)).2;have fpC:∀b∈fp,b≠C:=λb hb=>(below b (hfo b hb)).1;have H2D:H2 D=none:=I2.hok.fresh (by rw[hDD]; exact Nat.le_refl _);have Dnf:D ∉ frs X.stack:=λz=>by
  obtain⟨_,o,e,_⟩:=I2.stack.mem z;exact absurd (Heap.lt_size e) (by rw[hDD]; exact Nat.lt_irrefl _)
 have stat:∀{H':Hp}{pl:List (Addr × Obj)},(∀b∈fp,H' b=none)->(∀p∈pl,p.1=D)->∀b∈fp,FpOk Y pl H' b:=λhn hp b hb=>⟨hn b hb,fpC b hb,(λz=>IY.ok.exfs b hb z),.inl hb,(λy a e=>(f2 b hb).2.2.2.2.1 y a (cp.clo I2 e).1),λp hp' z=>fpD b hb (z.symm.trans (hp p (by simpa[Y] using hp')))⟩
 have loop:∀s3:Shared,s3={ s2 with heap:=g1,toks:=s2.toks+([]:List (Str × Value)).length }->
   codeAny (model X.prog X.w) X.A (.compLoop (.ListComp elt [⟨target,iter,ct.toList,0⟩] scope pos) 0 (.ref it) (.ref D) (compEnvC scope (z4W X.env scope.names []) C X.env)) (compPost (model X.prog X.w) X.A X.xe (some (assign (.Name y py) X.env)) (λ_ s'=>SP X pins Dn .next s') (.ref D) C) s3:=by
  intro s3 e3;refine z7k (λn s'=>∃i ys its σ' H',Inv Y [] σ' H' s'/\s'.heap.get? D=some { cls :=.type "list",data :=.seq (its:List Value).toArray its.length }/\Vals ys its/\H' D=none/\tn i s'.heap/\(∀b∈fp,H' b=none)/\W i n ys σ' H') ?_ m0 ⟨0,[],[],_,H2,e3 ▸ IY,?_,.nil,H2D,?_,λb hb=>(f2 b hb).1,w0⟩
  ·rintro n s4 ⟨i,ys,its,σ4,H4,I4,hD4,hv4,hn4,st4,fr4,w4⟩;obtain⟨hsz,step⟩:=turn i n ys σ4 H4 w4;have hl4:ys.length=its.length:=hv4.length;have I4p:Inv Y [(D,{ cls :=.type "list",data :=.seq its.toArray its.length })] σ4 H4 s4:=I4.pins_of λp hp=>by
    rw[List.mem_singleton.mp hp];exact⟨hD4,hn4,hDC,Dnf,λv z=>by cases z⟩
   have one:∀p∈[((D:Addr),({ cls :=.type "list",data :=.seq its.toArray its.length }:Obj))],p.1=D:=λp hp=>by rw[List.mem_singleton.mp hp]
   rcases step with ⟨stop,qn⟩ | ⟨go,step⟩
   ·refine wpAny_mono (T.done Y rfl rfl rfl hc i _ s4 σ4 H4 (λ_ _=>False) I4p (stat fr4 one) st4 stop) (λr s5 hr =>?_) λ_ _ z=>z.elim;obtain⟨rfl,I5⟩:=hr;have hD5:s5.heap.get? D=some { cls :=.type "list",data :=.seq its.toArray its.length }:=(I5.pin (D,_) (by simp)).1;obtain⟨m5,hm5,_⟩:=I5.loc;have U:Un (frs X.stack) fp H2 H4 s2.heap s5.heap:=I5.base;have nC:∀b o,s2.heap.get? b=some o->b≠C:=λb o e=>(below b (hDD ▸ Heap.lt_size e)).1;have nD:∀b o,s2.heap.get? b=some o->b≠D:=λb o e=>(below b (hDD ▸ Heap.lt_size e)).2;have U':Un (frs X.stack) fp H2 (upd H4 D (.lst ys)) s2.heap s5.heap:=⟨U.keep,U.slot,λb o e n hx'=>by rw[z0o (nD b o e)]; exact U.free b o e n hx',U.there,λb xs e=>by rw[z0o (z0U (U.tups b xs e) hn4)]; exact U.tups b xs e,λb o xs e=>by rw[z0o (z0U (U.frzs b o xs e) hn4)]; exact U.frzs b o xs e,λb ps e=>by
      obtain⟨more,q⟩:=U.tbls b ps e;exact⟨more,by rw[z0o (z0U q hn4)]; exact q⟩⟩
    have ok2:HOk X.prog X.w (upd H4 D (.lst ys)) s5.heap:=HOk.track I5.hok hn4 ⟨Nat.le_of_lt hsz,its,_,hv4,hD5⟩;have I6:Inv X pins σ (upd H4 D (.lst ys)) s5:=I2.call' (s':=s5) I5.os U' ok2 I5.bare (λb hb=>⟨(f2 b hb).2.2.2.1,(f2 b hb).2.1,(f2 b hb).2.2.2.2.1,(f2 b hb).2.2.2.2.2⟩);show wpAny _ X.A (assign (.Name y py) X.env (.ref D)) _ _ _;refine wpAny_assign_Name (za9 I6 hN hiy (.inl hly) (show RelV (.ref D) (.ref D) from rfl) (λs7 I7 hs7 =>?_) (.inr hly));obtain⟨c7,sb7,hc7⟩:=hs7;have lt2:X.env.locals<D:=by rw[<- hDD]; exact I2.lt
    have c7C:c7≠C:=by
     rcases hc7 with z | z
     ·rw[z]; exact Nat.ne_of_lt (Nat.lt_of_lt_of_le lt2 hCge)
     ·exact Nat.ne_of_lt (Nat.lt_of_lt_of_le (cellD _ _ z) hCge)
    refine⟨m5,hm5.sameBut sb7 (Ne.symm c7C),λh' sb =>?_⟩;refine⟨_,_,I7.turned (it:=C) (t':=s7.toks) (λb o n e=>sb.extBut b o n e) (by rw[z0o (Ne.symm hDC)]; exact I5.free) (Nat.ne_of_gt (Nat.lt_of_lt_of_le lt2 hCge)) (.inr (Nat.le_trans I2.sz (by rw[hDD]; exact hCge))) (λx a e z =>?_) (λp hp z =>?_),qn D hn4⟩
    ·have:=cellD x a e;rw[z] at this;exact absurd (Nat.lt_of_lt_of_le this hCge) (Nat.lt_irrefl _)
    ·have:=Heap.lt_size (I2.pin p hp).1;rw[z,hDD] at this;exact absurd (Nat.lt_of_lt_of_le this hCge) (Nat.lt_irrefl _)
   ·refine wpAny_mono (T.item Y rfl rfl rfl hc i _ s4 σ4 H4 (λ_ _=>False) I4p (stat fr4 one) st4 go) (λr s5 hr =>?_) λ_ _ z=>z.elim;obtain⟨u,rfl,h5⟩:=hr;refine wpAny_mono h5 (λ_ s6 h6 =>?_) λ_ _ z=>z.elim;obtain⟨xv,H6,I6,r6,y6,st6,fr6⟩:=h6;have I6p:=I6.pinned (stat fr6 one) (T.obj _ _ st6);have after:∀{σ8:St}{H8:Hp}{s8:Shared},Inv Y _ σ8 H8 s8->_:=λ{σ8 H8 s8} (I8:Inv Y ([(D,{ cls :=.type "list",data :=.seq its.toArray its.length })]++z7e fp s6.heap) σ8 H8 s8)=>
     (show (s8.heap.get? D=some { cls :=.type "list",data :=.seq its.toArray its.length }/\H8 D=none)/\tn (i+1) s8.heap/\(∀b∈fp,H8 b=none)/\Inv Y [] σ8 H8 s8 from by
      have pD:=I8.pin (D,{ cls :=.type "list",data :=.seq its.toArray its.length }) (by simp);refine⟨⟨pD.1,pD.2.1⟩,T.keep _ _ _ st6 λb hb o e=>(I8.pin (b,o) (List.mem_append_right _ (List.mem_append_right _ (z3D hb e)))).1,λb hb =>?_,I8.pins_of (pins':=[]) λp hp=>by simp at hp⟩;obtain⟨o,e,d⟩:=T.obj _ _ st6 b hb;exact(I8.pin (b,o) (List.mem_append_right _ (List.mem_append_right _ (z3D hb e)))).2.1)
    refine wpAny_mono (hg C s2 H2 fp _ s6 σ4 H6 xv u _ I6p r6 (step xv H6 y6)) (λ_ s7 h7 =>?_) λ_ _ z=>z.elim;obtain⟨σ7,H7,I7,q7⟩:=h7;have yes:∀s7' H7',Inv Y _ σ7 H7' s7'->(te σ7 H7' λy H3=>∃m',m'<n/\W (i+1) m' (ys++[y]) σ7 H3)->_:=λs7' H7' (I7':Inv Y ([(D,{ cls :=.type "list",data :=.seq its.toArray its.length })]++z7e fp s6.heap) σ7 H7' s7') qe=>
     wpAny_mono (Q':=λyv s8=>wpAny (model X.prog X.w) X.A (call (.builtin "list.append") [.ref D,yv]) (λ_ s6=>∃m,m<n/\∃i ys its σ' H',Inv Y [] σ' H' s6/\s6.heap.get? D=some { cls :=.type "list",data :=.seq (its:List Value).toArray its.length }/\Vals ys its/\H' D=none/\tn i s6.heap/\(∀b∈fp,H' b=none)/\W i m ys σ' H') (notedBy (model X.prog X.w) X.A (compEnvC scope (z4W X.env scope.names []) C X.env) λe s'=>compPost (model X.prog X.w) X.A X.xe (some (assign (.Name y py) X.env)) (λ_ s'=>SP X pins Dn .next s') (.ref D) C (.error e) s') s8) (he C s2 H2 fp _ s7' σ7 H7' _ I7' qe) (λyv s8 h8=>by
      obtain⟨y,H8,I8,r8,m',hm',w8⟩:=h8;obtain⟨⟨pD1,pD2⟩,st8,fr8,I8u⟩:=after I8;refine append_at (hsz:=by rw[List.size_toArray, <- hl4]; exact Nat.le_of_lt hsz) pD1 λh9 sb9 hD9 =>?_;refine⟨m',hm',i+1,ys++[y],its++[yv],σ7,H8,I8u.turned (it:=D) (t':=s8.toks) (λb o n e=>sb9.extBut b o n e) pD2 hDC (.inr (by rw[hDD]; exact Nat.le_refl _)) (λy a e z=>by
        have:=cellD y a (cp.clo I2 e).1;rw[z] at this;exact Nat.lt_irrefl _ this) (λp hp=>by simp[Y] at hp),?_,Vals.append hv4 (.cons r8 .nil),pD2,T.keep _ _ _ st8 λb hb o e=>sb9.extBut b o (fpD b hb) e,fr8,w8⟩
      show h9.get? D=_;rw[hD9];simp) (E':=notedBy (model X.prog X.w) X.A (compEnvC scope (z4W X.env scope.names []) C X.env) λe s'=>compPost (model X.prog X.w) X.A X.xe (some (assign (.Name y py) X.env)) (λ_ s'=>SP X pins Dn .next s') (.ref D) C (.error e) s') (λ_ _ z=>z.elim)
    cases ct with
    | none=>
     have ht':tc=z7E:=ht;subst ht';simp only[zgx,if_true];have q7':if true=true then te σ7 H7 λy H3=>∃m',m'<n/\W (i+1) m' (ys++[y]) σ7 H3 else ∃m',m'<n/\W (i+1) m' ys σ7 H7:=q7
     rw[if_pos rfl] at q7';exact yes s7 H7 I7 q7'
    | some c=>
     refine wpAny_mono (ht C s2 H2 fp _ s7 σ7 H7 _ I7 q7) (λb s8 h8 =>?_) λ_ _ z=>z.elim;obtain⟨H8,I8,q8⟩:=h8
     cases b with
     | true=>
      rw[if_pos rfl] at q8 ⊢;exact yes s8 H8 I8 q8
     | false=>
      rw[if_neg Bool.false_ne_true] at q8 ⊢;obtain⟨m',hm',w8⟩:=q8;obtain⟨⟨pD1,pD2⟩,st8,fr8,I8u⟩:=after I8;exact⟨m',hm',i+1,ys,its,σ7,H8,I8u,pD1,hv4,pD2,st8,fr8,w8⟩
  ·rw[e3]; exact hacc
  ·rw[e3]; exact T.keep _ _ _ st2 λb _ o e=>old b o e
 exact codeAny_compStart_list (loop _ rfl) (T.self _ 0 _ _ _ (T.keep _ _ _ st2 λb _ o e=>old b o e) (loop _ rfl))
def zjD {elt iter target:Expr}{ct:Option Expr}{pos spos py:Pos}{y:Str}{iy:Nat}(hN:X.N.Nodup)(hiy:X.N[iy]? = some y)(hly:X.env.scope.names.lookup y=some .local){scope:Scope}{wi:TI}{g:TG}{tc:TT}{te:TE}{N':List Str}{nt:Nat}{js:List Nat}(hc:X.calm=true)(hi:QI X target iter wi)(hk:scope.kind = .function)(cp:z6S X N' nt js scope)
  (hg:∀(C:Addr) (s:Shared) (H:Hp) (fp:List Addr),QG (X.compG scope N' C s H fp) target g)
  (ht:match ct with
   | none=>tc=z7E
   | some c=>∀(C:Addr) (s:Shared) (H:Hp) (fp:List Addr),QT (X.compG scope N' C s H fp) c tc)
  (he:∀(C:Addr) (s:Shared) (H:Hp) (fp:List Addr),QE (X.compG scope N' C s H fp) elt te) (hsw:swapsWith (.ListComp elt [⟨target,iter,ct.toList,0⟩] scope pos) (some (.Name y py)) spos.line X.env=pure true:=by rfl) (hs:∀x,foldedSetIterable iter X.env x=pure x:=by intro _; rfl):QS X (.Assign [.Name y py] (.ListComp elt [⟨target,iter,ct.toList,0⟩] scope pos) spos) (tAsg (tLcG wi g tc te nt js) (z5l iy)):=by
 refine⟨zjX hN hiy hly hc hi.p hk cp (λC s H fp=>(hg C s H fp).p) ?_ (λC s H fp=>(he C s H fp).p) hsw hs⟩
 cases ct with
 | none=>exact ht
 | some c=>exact λC s H fp=>(ht C s H fp).p
end
end L2
namespace Pu
open PySem PySem.Spec PyProof.Rows L2
inductive D where
 | non | bl (b:Bool) | int (i:Int) | str (x:Str) | tup (l:List D) | lst (l:List D) | dct (ks vs:List D) | fn (n:Nat) | exc (x:Str)
instance:Inhabited D:=⟨.non⟩
def z8k:Nat->Str
 | 0=>"turn_by" | 1=>"turn_among" | 2=>"step_of" | 3=>"step_among" | _=>""
def kD:Key->D
 | .inl i =>.int i
 | .inr x =>.str x
section
variable (K:W.Frag)(mg:Str->Option Value)
mutual
/-- the value v stands for d,in the heap G -/
def RD (G:Hp):D->V->Prop
 | .non,v=>v = .non
 | .bl b,v=>v = .bl b
 | .int i,v=>v = .int i
 | .str x,v=>v = .str x
 | .tup ds,v=>∃a xs,v = .ref a/\SqT K G a xs/\RDs G ds xs
 | .lst ds,v=>∃a xs,v = .ref a/\SqL K G a xs/\RDs G ds xs
 | .dct ks vs,v=>∃a xs,v = .ref a/\RDs G vs xs/\((∃kvs:List (Key × V),G a=some (.dK kvs)/\ks=kvs.map (λp=>kD p.1)/\xs=kvs.map (·.2))\/∃kvs:List (List Key × V),G a=some (.dT kvs)/\ks=kvs.map (λp =>.tup (p.1.map kD))/\xs=kvs.map (·.2))
 | .fn n,v=>∃f,v = .ref f/\mg (z8k n)=some (.ref f)
 | .exc x,v=>∃ea C,v = .ref ea/\G ea=some (.ext (zmt ea C))/\mg x=some (.ref C)
def RDs (G:Hp):List D->List V->Prop
 | [],xs=>xs=[]
 | d::ds,xs=>∃x r,xs=x::r/\RD G d x/\RDs G ds r
end
end
section
variable {K:W.Frag}{mg:Str->Option Value}{G G' H H':Hp}
def Same.refl':Same H H:=λ_ _ h=>h
def z0a {A B C:Hp}(h:Same A B)(h':Same B C):Same A C:=λa o e=>h' a o (h a o e)
def z2q {a:Addr}{xs:List V}(e:Same G G')(h:SqL K G a xs):SqL K G' a xs:=by
 rcases h with (h | ⟨o,h⟩) | h
 ·exact .inl (.inl (e _ _ h))
 ·exact .inl (.inr ⟨o,e _ _ h⟩)
 ·exact .inr h
def z1r {a:Addr}{xs:List V}(e:Same G G')(h:SqT K G a xs):SqT K G' a xs:=by
 rcases h with (h | ⟨o,h⟩) | h
 ·exact .inl (.inl (e _ _ h))
 ·exact .inl (.inr ⟨o,e _ _ h⟩)
 ·exact .inr h
mutual
def RD.same (e:Same G G'):∀(d:D) {v:V},RD K mg G d v->RD K mg G' d v
 | .non,_,h=>by simpa[RD] using h
 | .bl _,_,h=>by simpa[RD] using h
 | .int _,_,h=>by simpa[RD] using h
 | .str _,_,h=>by simpa[RD] using h
 | .fn _,_,h=>by rw[RD] at h ⊢; exact h
 | .exc _,_,h=>by
  rw[RD] at h ⊢;obtain⟨ea,C,h1,h2,h3⟩:=h;exact⟨ea,C,h1,e _ _ h2,h3⟩
 | .tup ds,_,h=>by
  rw[RD] at h ⊢;obtain⟨a,xs,h1,h2,h3⟩:=h;exact⟨a,xs,h1,z1r e h2,RDs.same e ds h3⟩
 | .lst ds,_,h=>by
  rw[RD] at h ⊢;obtain⟨a,xs,h1,h2,h3⟩:=h;exact⟨a,xs,h1,z2q e h2,RDs.same e ds h3⟩
 | .dct ks vs,_,h=>by
  rw[RD] at h ⊢;obtain⟨a,xs,h1,h3,h4⟩:=h;refine⟨a,xs,h1,RDs.same e vs h3,?_⟩
  rcases h4 with ⟨kvs,q,r⟩ | ⟨kvs,q,r⟩
  ·exact .inl ⟨kvs,e _ _ q,r⟩
  ·exact .inr ⟨kvs,e _ _ q,r⟩
def RDs.same (e:Same G G'):∀(ds:List D) {xs:List V},RDs K mg G ds xs->RDs K mg G' ds xs
 | [],_,h=>by simpa[RDs] using h
 | d::ds,_,h=>by
  rw[RDs] at h ⊢;obtain⟨x,r,h1,h2,h3⟩:=h;exact⟨x,r,h1,RD.same e d h2,RDs.same e ds h3⟩
end
def RDs.nil:RDs K mg G [] []:=by rw[RDs]
def RDs.cons {d:D}{v:V}{ds:List D}{vs:List V}(h:RD K mg G d v)(t:RDs K mg G ds vs):RDs K mg G (d::ds) (v::vs):=by rw[RDs]; exact⟨v,vs,rfl,h,t⟩
def RDs.len:∀{ds:List D}{vs:List V},RDs K mg G ds vs->vs.length=ds.length
 | [],_,h=>by rw[RDs] at h; subst h; rfl
 | _::_,_,h=>by
  rw[RDs] at h;obtain⟨x,r,rfl,_,h3⟩:=h;simp[RDs.len h3]
def RDs.app:∀{ds es:List D}{vs us:List V},RDs K mg G ds vs->RDs K mg G es us->RDs K mg G (ds++es) (vs++us)
 | [],_,_,_,h,k=>by rw[RDs] at h; subst h; exact k
 | _::_,_,_,_,h,k=>by
  rw[RDs] at h;obtain⟨x,r,rfl,h2,h3⟩:=h;exact RDs.cons h2 (RDs.app h3 k)
def RDs.get:∀{ds:List D}{vs:List V}{i:Nat}{d:D},RDs K mg G ds vs->ds[i]? = some d->∃v,vs[i]? = some v/\RD K mg G d v
 | [],_,_,_,_,e=>by simp at e
 | _::_,_,0,_,h,e=>by
  rw[RDs] at h;obtain⟨x,r,rfl,h2,h3⟩:=h;simp at e; subst e;exact⟨x,rfl,h2⟩
 | _::_,_,i+1,_,h,e=>by
  rw[RDs] at h;obtain⟨x,r,rfl,h2,h3⟩:=h;obtain⟨v,e1,e2⟩:=RDs.get (i:=i) h3 (by simpa using e);exact⟨v,by simpa using e1,e2⟩
def RDs.take:∀{ds:List D}{vs:List V}(n:Nat),RDs K mg G ds vs->RDs K mg G (ds.take n) (vs.take n)
 | _,_,0,_=>by simp; exact RDs.nil
 | [],_,_+1,h=>by rw[RDs] at h; subst h; exact RDs.nil
 | _::_,_,n+1,h=>by
  rw[RDs] at h;obtain⟨x,r,rfl,h2,h3⟩:=h;exact RDs.cons h2 (RDs.take n h3)
def RDs.drop:∀{ds:List D}{vs:List V}(n:Nat),RDs K mg G ds vs->RDs K mg G (ds.drop n) (vs.drop n)
 | _,_,0,h=>by simpa using h
 | [],_,_+1,h=>by rw[RDs] at h; subst h; exact RDs.nil
 | _::_,_,n+1,h=>by
  rw[RDs] at h;obtain⟨x,r,rfl,h2,h3⟩:=h;exact RDs.drop n h3
def RDs.rev {ds:List D}{vs:List V}(h:RDs K mg G ds vs):RDs K mg G ds.reverse vs.reverse:=by
 induction ds generalizing vs with
 | nil=>rw[RDs] at h; subst h; exact RDs.nil
 | cons d ds ih=>
  rw[RDs] at h;obtain⟨x,r,rfl,h2,h3⟩:=h;rw[List.reverse_cons,List.reverse_cons];exact RDs.app (ih h3) (RDs.cons h2 RDs.nil)
def RDs.set {d:D}{v:V}(q:RD K mg G d v):∀{ds:List D}{vs:List V}(i:Nat),RDs K mg G ds vs->RDs K mg G (ds.set i d) (vs.set i v)
 | [],_,_,h=>by rw[RDs] at h; subst h; exact RDs.nil
 | _::_,_,0,h=>by
  rw[RDs] at h;obtain⟨x,r,rfl,h2,h3⟩:=h;exact RDs.cons q h3
 | _::_,_,i+1,h=>by
  rw[RDs] at h;obtain⟨x,r,rfl,h2,h3⟩:=h;exact RDs.cons h2 (RDs.set q i h3)
def RDs.at {ds:List D}{vs:List V}{i:Int}{d:D}(h:RDs K mg G ds vs)(e:atI ds i=some d):∃v,atI vs i=some v/\RD K mg G d v:=by
 unfold atI at e ⊢;rw[h.len]
 cases q:ixN ds.length i with
 | none=>rw[q] at e; cases e
 | some j=>
  rw[q] at e;exact h.get e
def RDs.cut {ds:List D}{vs:List V}(lo hi:Option Int)(h:RDs K mg G ds vs):RDs K mg G ((ds.drop (HT.sIx ds.length 0 lo)).take (HT.sIx ds.length ds.length hi - HT.sIx ds.length 0 lo)) (cutV vs lo hi):=by
 unfold cutV;rw[h.len];exact(h.drop _).take _
end
inductive B where
 | n | s (d:D) | o (d:D)
abbrev Env:=List B
def B.get:B->Option D
 | .n=>none
 | .s d=>some d
 | .o d=>some d
def Env.get (ρ:Env)(i:Nat):Option D:=match ρ,i with
 | [],_=>none
 | b::_,0=>b.get
 | _::r,i+1=>Env.get r i
def Env.get_eq:∀(ρ:Env) (i:Nat),Env.get ρ i=(ρ[i]?).bind B.get
 | [],i=>by simp[Env.get]
 | b::r,0=>by simp[Env.get]
 | b::r,i+1=>by simp[Env.get,Env.get_eq r i]
abbrev DK:=D->Prop
abbrev XP:=Str->Prop
structure Fn where
 run:List D->DK->XP->Prop
 mono:∀ds (Q Q':DK) (X X':XP),(∀d,Q d->Q' d)->(∀x,X x->X' x)->run ds Q X->run ds Q' X'
structure Ex where
 run:Env->DK->XP->Prop
 mono:∀ρ (Q Q':DK) (X X':XP),(∀d,Q d->Q' d)->(∀x,X x->X' x)->run ρ Q X->run ρ Q' X'
structure Sm where
 run:Env->(Env->Prop)->DK->XP->Prop
 mono:∀ρ (N N':Env->Prop) (Q Q':DK) (X X':XP),(∀ρ,N ρ->N' ρ)->(∀d,Q d->Q' d)->(∀x,X x->X' x)->run ρ N Q X->run ρ N' Q' X'
def onV (o:Option D)(Q:DK):Prop:=match o with
 | some d=>Q d
 | none=>False
def Ex.c (d:D):Ex:=⟨λ_ Q _=>Q d,λ_ _ _ _ _ m _ q=>m _ q⟩
def Ex.v (i:Nat):Ex:=⟨λρ Q _=>onV (ρ.get i) Q,λρ Q Q' _ _ m _ q=>by
 show onV (ρ.get i) Q';have q':onV (ρ.get i) Q:=q
 cases e:ρ.get i with
 | none=>rw[e] at q'; exact q'
 | some d=>rw[e] at q'; exact m _ q'⟩
def runs:List Ex->Env->(List D->Prop)->XP->Prop
 | [],_,Q,_=>Q []
 | e::es,ρ,Q,X=>e.run ρ (λd=>runs es ρ (λds=>Q (d::ds)) X) X
def z4u:∀(es:List Ex) (ρ:Env) (Q Q':List D->Prop) (X X':XP),(∀d,Q d->Q' d)->(∀x,X x->X' x)->runs es ρ Q X->runs es ρ Q' X'
 | [],_,_,_,_,_,m,_,q=>m _ q
 | e::es,ρ,Q,Q',X,X',m,mx,q=>e.mono ρ _ _ X X' (λd q1=>z4u es ρ _ _ X X' (λds q2=>m _ q2) mx q1) mx q
def Ex.op (f:Fn)(es:List Ex):Ex:=⟨λρ Q X=>runs es ρ (λds=>f.run ds Q X) X,λρ Q Q' X X' m mx q=>z4u es ρ _ _ X X' (λds q1=>f.mono ds Q Q' X X' m mx q1) mx q⟩
def tst (d:D)(A B:Prop):Prop:=match d with
 | .bl b=>(b=true->A)/\(b=false->B)
 | _=>False
def z3Z {d:D}{A A' B B':Prop}(ha:A->A')(hb:B->B')(h:tst d A B):tst d A' B':=by
 cases d with
 | bl b=>exact⟨λe=>ha (h.1 e),λe=>hb (h.2 e)⟩
 | _=>exact h.elim
def za6 {d:D}{A B:Prop}(h:tst d A B):∃b,d = .bl b/\(b=true->A)/\(b=false->B):=by
 cases d with
 | bl b=>exact⟨b,rfl,h⟩
 | _=>exact h.elim
def Ex.and (a b:Ex):Ex:=⟨λρ Q X=>a.run ρ (λd=>tst d (b.run ρ Q X) (Q (.bl false))) X,λρ Q Q' X X' m mx q=>a.mono ρ _ _ X X' (λd q1=>z3Z (b.mono ρ Q Q' X X' m mx) (m _) q1) mx q⟩
def Ex.or (a b:Ex):Ex:=⟨λρ Q X=>a.run ρ (λd=>tst d (Q (.bl true)) (b.run ρ Q X)) X,λρ Q Q' X X' m mx q=>a.mono ρ _ _ X X' (λd q1=>z3Z (m _) (b.mono ρ Q Q' X X' m mx) q1) mx q⟩
def Ex.not (a:Ex):Ex:=⟨λρ Q X=>a.run ρ (λd=>match d with | .bl b=>Q (.bl (!b)) | _=>False) X,λρ Q Q' X X' m mx q=>a.mono ρ _ _ X X' (λd q1=>by
 cases d with
 | bl b=>exact m _ q1
 | _=>exact q1.elim) mx q⟩
def Ex.ifx (c a b:Ex):Ex:=⟨λρ Q X=>c.run ρ (λd=>tst d (a.run ρ Q X) (b.run ρ Q X)) X,λρ Q Q' X X' m mx q=>c.mono ρ _ _ X X' (λd q1=>z3Z (a.mono ρ Q Q' X X' m mx) (b.mono ρ Q Q' X X' m mx) q1) mx q⟩
inductive Tg where
 | nm (i:Nat) | tp (is:List Nat)
def z0w:List Nat->List D->Env->Env
 | i::is,d::ds,ρ=>z0w is ds (ρ.set i (.s d))
 | _,_,ρ=>ρ
def Tg.put (t:Tg)(d:D)(ρ:Env)(K:Env->Prop):Prop:=match t,d with
 | .nm i,d=>K (ρ.set i (.s d))
 | .tp is,.tup ds=>is.length=ds.length/\K (z0w is ds ρ)
 | _,_=>False
def Tg.put_mono {t:Tg}{d:D}{ρ:Env}{K K':Env->Prop}(m:∀ρ,K ρ->K' ρ)(h:t.put d ρ K):t.put d ρ K':=by
 cases t with
 | nm i=>exact m _ h
 | tp is=>
  cases d with
  | tup ds=>exact⟨h.1,m _ h.2⟩
  | _=>exact h.elim
def items:D->Option (List D)
 | .lst l=>some l
 | .tup l=>some l
 | .str x=>some (x.cps.toList.map λc =>.str ⟨#[c]⟩)
 | _=>none
def onL (o:Option (List D))(Q:List D->Prop):Prop:=match o with
 | some l=>Q l
 | none=>False
def z9w {o:Option (List D)}{Q Q':List D->Prop}(m:∀l,Q l->Q' l)(h:onL o Q):onL o Q':=by
 cases o with
 | none=>exact h
 | some l=>exact m _ h
def z6g (f:D->(Option D->Prop)->Prop):List D->(List D->Prop)->Prop
 | [],N=>N []
 | x::xs,N=>f x λo=>z6g f xs λr=>N (o.toList++r)
def z5A {f f':D->(Option D->Prop)->Prop}(hf:∀x K K',(∀o,K o->K' o)->f x K->f' x K'):∀(xs:List D) (N N':List D->Prop),(∀l,N l->N' l)->z6g f xs N->z6g f' xs N'
 | [],_,_,m,q=>m _ q
 | x::xs,N,N',m,q=>hf x _ _ (λo q1=>z5A hf xs _ _ (λr q2=>m _ q2) q1) q
def z2f (nt:Nat)(js:List Nat)(ρ:Env):Env:=List.replicate nt .n++js.map λj=>(ρ[j]?).getD .n
def z6O (t:Tg)(c:Option Ex)(elt:Ex)(ρ:Env)(x:D)(K:Option D->Prop):Prop:=
 t.put x ρ λρ'=>match c with
  | none=>elt.run ρ' (λd=>K (some d)) (λ_=>False)
  | some c=>c.run ρ' (λb=>tst b (elt.run ρ' (λd=>K (some d)) (λ_=>False)) (K none)) (λ_=>False)
def z78 {t:Tg}{c:Option Ex}{elt:Ex}{ρ:Env}(x:D)(K K':Option D->Prop)(m:∀o,K o->K' o)(h:z6O t c elt ρ x K):z6O t c elt ρ x K':=by
 refine Tg.put_mono (λρ' q =>?_) h
 cases c with
 | none=>exact elt.mono ρ' _ _ _ _ (λd q1=>m _ q1) (λ_ z=>z) q
 | some c=>exact c.mono ρ' _ _ _ _ (λb q1=>z3Z (elt.mono ρ' _ _ _ _ (λd q2=>m _ q2) (λ_ z=>z)) (m _) q1) (λ_ z=>z) q
def Ex.comp (nt:Nat)(js:List Nat)(t:Tg)(src:Ex)(c:Option Ex)(elt:Ex):Ex:=
 ⟨λρ Q X=>src.run ρ (λd=>onL (items d) λl=>l.length<sizeLine/\z6g (z6O t c elt (z2f nt js ρ)) l λr=>Q (.lst r)) X,λρ Q Q' X X' m mx q=>
  src.mono ρ _ _ X X' (λd q1=>z9w (λl q2=>⟨q2.1,z5A z78 l _ _ (λr q3=>m _ q3) q2.2⟩) q1) mx q⟩
def Sm.skip:Sm:=⟨λρ N _ _=>N ρ,λ_ _ _ _ _ _ _ m _ _ q=>m _ q⟩
def Sm.seq (a b:Sm):Sm:=⟨λρ N Q X=>a.run ρ (λρ'=>b.run ρ' N Q X) Q X,λρ N N' Q Q' X X' mn m mx q=>a.mono ρ _ _ Q Q' X X' (λρ' q1=>b.mono ρ' N N' Q Q' X X' mn m mx q1) m mx q⟩
mutual
def noL:D->Bool
 | .lst _=>false
 | .tup l=>noLs l
 | .dct ks vs=>noLs vs
 | _=>true
def noLs:List D->Bool
 | []=>true
 | d::ds=>noL d && noLs ds
end
mutual
def noD:D->Bool
 | .dct _ _=>false
 | .tup l=>noDs l
 | .lst l=>noDs l
 | _=>true
def noDs:List D->Bool
 | []=>true
 | d::ds=>noD d && noDs ds
end
def zje (d:D):B->Prop
 | .o (.lst _)=>noL d=true
 | .o (.dct _ _)=>noD d=true
 | _=>True
def Safe (d:D):Env->Prop
 | []=>True
 | b::r=>zje d b/\Safe d r
def zfe (d:D)(ρ:Env):Prop:=match d with
 | .lst l=>∀x∈l,Safe x ρ
 | .dct _ vs=>∀x∈vs,Safe x ρ
 | _=>False
def Sm.set (i:Nat)(e:Ex):Sm:=⟨λρ N _ X=>e.run ρ (λd=>Safe d (ρ.set i .n)/\N (ρ.set i (.s d))) X,λρ N N' Q Q' X X' mn m mx q=>e.mono ρ _ _ X X' (λd q1=>⟨q1.1,mn _ q1.2⟩) mx q⟩
def Sm.own (i:Nat)(e:Ex):Sm:=⟨λρ N _ X=>e.run ρ (λd=>zfe d (ρ.set i .n)/\N (ρ.set i (.o d))) X,λρ N N' Q Q' X X' mn m mx q=>e.mono ρ _ _ X X' (λd q1=>⟨q1.1,mn _ q1.2⟩) mx q⟩
def demB:B->B
 | .o d =>.s d
 | b=>b
def dem:List Nat->Env->Env
 | [],ρ=>ρ
 | j::js,ρ=>dem js (ρ.set j (demB ((ρ[j]?).getD .n)))
def visB:B->B
 | .o _ =>.n
 | b=>b
def vis (ρ:Env):Env:=ρ.map visB
def Sm.setx (js:List Nat)(i:Nat)(e:Ex):Sm:=⟨λρ N _ X=>e.run (vis (dem js ρ)) (λd=>N ((dem js ρ).set i (.s d))) X,λρ N N' Q Q' X X' mn m mx q=>e.mono _ _ _ X X' (λd q1=>mn _ q1) mx q⟩
def Sm.ifs (c:Ex)(a b:Sm):Sm:=⟨λρ N Q X=>c.run ρ (λd=>tst d (a.run ρ N Q X) (b.run ρ N Q X)) X,λρ N N' Q Q' X X' mn m mx q=>c.mono ρ _ _ X X' (λd q1=>z3Z (a.mono ρ N N' Q Q' X X' mn m mx) (b.mono ρ N N' Q Q' X X' mn m mx) q1) mx q⟩
def Sm.ret (e:Ex):Sm:=⟨λρ _ Q X=>e.run ρ Q X,λρ N N' Q Q' X X' mn m mx q=>e.mono ρ _ _ X X' m mx q⟩
def Sm.retN:Sm:=⟨λ_ _ Q _=>Q .non,λρ N N' Q Q' X X' mn m mx q=>m _ q⟩
def Sm.ex (e:Ex):Sm:=⟨λρ N _ X=>e.run ρ (λ_=>N ρ) X,λρ N N' Q Q' X X' mn m mx q=>e.mono ρ _ _ X X' (λ_ q1=>mn _ q1) mx q⟩
def Sm.raise (x:Str):Sm:=⟨λ_ _ _ X=>X x,λρ N N' Q Q' X X' mn m mx q=>mx _ q⟩
def wh (c:Ex)(b:Sm)(N:Env->Prop)(Q:DK)(X:XP):Nat->Env->Prop
 | 0,_=>False
 | n+1,ρ=>c.run ρ (λd=>tst d (b.run ρ (wh c b N Q X n) Q X) (N ρ)) X
def zdh {c:Ex}{b:Sm}{N N':Env->Prop}{Q Q':DK}{X X':XP}(mn:∀ρ,N ρ->N' ρ)(m:∀d,Q d->Q' d)(mx:∀x,X x->X' x):∀(n:Nat) (ρ:Env),wh c b N Q X n ρ->wh c b N' Q' X' n ρ
 | 0,_,q=>q
 | n+1,ρ,q=>c.mono ρ _ _ X X' (λd q1=>z3Z (b.mono ρ _ _ Q Q' X X' (λρ' q2=>zdh mn m mx n ρ' q2) m mx) (mn ρ) q1) mx q
def Sm.wh (c:Ex)(b:Sm):Sm:=⟨λρ N Q X=>∃n,Pu.wh c b N Q X n ρ,λρ N N' Q Q' X X' mn m mx ⟨n,q⟩=>⟨n,zdh mn m mx n ρ q⟩⟩
def forL (t:Tg)(b:Sm)(N:Env->Prop)(Q:DK)(X:XP):List D->Env->Prop
 | [],ρ=>N ρ
 | x::xs,ρ=>t.put x ρ λρ'=>b.run ρ' (forL t b N Q X xs) Q X
def z8j {t:Tg}{b:Sm}{N N':Env->Prop}{Q Q':DK}{X X':XP}(mn:∀ρ,N ρ->N' ρ)(m:∀d,Q d->Q' d)(mx:∀x,X x->X' x):∀(l:List D) (ρ:Env),forL t b N Q X l ρ->forL t b N' Q' X' l ρ
 | [],_,q=>mn _ q
 | x::xs,ρ,q=>Tg.put_mono (λρ' q1=>b.mono ρ' _ _ Q Q' X X' (λρ2 q2=>z8j mn m mx xs ρ2 q2) m mx q1) q
def Sm.for_ (js:List Nat)(t:Tg)(src:Ex)(b:Sm):Sm:=⟨λρ N Q X=>src.run (vis (dem js ρ)) (λd=>onL (items d) λl=>forL t b N Q X l (dem js ρ)) X,λρ N N' Q Q' X X' mn m mx q=>src.mono _ _ _ X X' (λd q1=>z9w (λl q2=>z8j mn m mx l _ q2) q1) mx q⟩
def onR (ds:List D)(K:List D->Prop):Prop:=match ds with
 | [.int j]=>(-(2 ^ 62)<=j/\j<2 ^ 62)/\K ((List.range j.toNat).map λ(k:Nat) =>.int (k:Int))
 | [.int i,.int j]=>((-(2 ^ 62)<=i/\i<2 ^ 62) /\ -(2 ^ 62)<=j/\j<2 ^ 62)/\K ((List.range (j - i).toNat).map λ(k:Nat) =>.int (i+(k:Int)))
 | _=>False
def zc4 {ds:List D}{K K':List D->Prop}(m:∀l,K l->K' l)(h:onR ds K):onR ds K':=by
 unfold onR at h ⊢
 split at h
 ·exact⟨h.1,m _ h.2⟩
 ·exact⟨h.1,m _ h.2⟩
 ·exact h.elim
def Sm.forr (es:List Ex)(t:Tg)(b:Sm):Sm:=⟨λρ N Q X=>runs es ρ (λds=>onR ds λl=>forL t b N Q X l ρ) X,λρ N N' Q Q' X X' mn m mx q=>z4u es ρ _ _ X X' (λd q1=>zc4 (λl q2=>z8j mn m mx l _ q2) q1) mx q⟩
def ownL (ρ:Env)(i:Nat)(K:List D->Prop):Prop:=match ρ[i]? with
 | some (.o (.lst l))=>K l
 | _=>False
def z7N {ρ:Env}{i:Nat}{K K':List D->Prop}(m:∀l,K l->K' l)(h:ownL ρ i K):ownL ρ i K':=by
 unfold ownL at h ⊢
 split <;> rename_i e
 ·rw[e] at h; exact m _ h
 ·split at h
  ·rename_i l e'; exact(e l e').elim
  ·exact h
def Sm.app (i:Nat)(e:Ex):Sm:=⟨λρ N _ X=>ownL ρ i λl=>e.run ρ (λd=>l.length<sizeLine/\Safe d ρ/\N (ρ.set i (.o (.lst (l++[d]))))) X,λρ N N' Q Q' X X' mn m mx q=>z7N (λl q1=>e.mono ρ _ _ X X' (λd q2=>⟨q2.1,q2.2.1,mn _ q2.2.2⟩) mx q1) q⟩
def popL (l:List D)(K:List D->D->Prop):Prop:=match l[l.length - 1]? with
 | some d=>K l.dropLast d
 | none=>False
def ze1 {l:List D}{K K':List D->D->Prop}(m:∀l d,K l d->K' l d)(h:popL l K):popL l K':=by
 unfold popL at h ⊢
 split <;> rename_i e
 ·rw[e] at h; exact m _ _ h
 ·rw[e] at h; exact h
def Sm.pop (i:Nat):Sm:=⟨λρ N _ _=>ownL ρ i λl=>popL l λl' _=>N (ρ.set i (.o (.lst l'))),λρ N N' Q Q' X X' mn m mx q=>z7N (λl q1=>ze1 (λ_ _ q2=>mn _ q2) q1) q⟩
def isLs (d:D)(K:List D->Prop):Prop:=match d with
 | .lst l=>K l
 | _=>False
def zez {d:D}{K K':List D->Prop}(m:∀j,K j->K' j)(h:isLs d K):isLs d K':=by
 cases d with
 | lst l=>exact m _ h
 | _=>exact h.elim
def onN (o:Option Nat)(K:Nat->Prop):Prop:=match o with
 | some j=>K j
 | none=>False
def zfY {o:Option Nat}{K K':Nat->Prop}(m:∀j,K j->K' j)(h:onN o K):onN o K':=by
 cases o with
 | none=>exact h
 | some l=>exact m _ h
def isI (d:D)(K:Int->Prop):Prop:=match d with
 | .int i=>K i
 | _=>False
def z6A {d:D}{K K':Int->Prop}(m:∀j,K j->K' j)(h:isI d K):isI d K':=by
 cases d with
 | int i=>exact m _ h
 | _=>exact h.elim
def Sm.put (i:Nat)(k e:Ex):Sm:=⟨λρ N _ X=>ownL ρ i λl=>e.run ρ (λd=>Safe d ρ/\k.run ρ (λkd=>isI kd λz=>onN (ixN l.length z) λj=>N (ρ.set i (.o (.lst (l.set j d))))) X) X,λρ N N' Q Q' X X' mn m mx q=>
 z7N (λl q1=>e.mono ρ _ _ X X' (λd q2=>⟨q2.1,k.mono ρ _ _ X X' (λkd q3=>z6A (λz q4=>zfY (λj q5=>mn _ q5) q4) q3) mx q2.2⟩) mx q1) q⟩
def Fn.mk' (np nn:Nat)(b:Sm):Fn:=⟨λds Q X=>ds.length=np/\b.run (ds.map B.s++List.replicate (nn - np) .n) (λ_=>Q .non) Q X,λds Q Q' X X' m mx q=>⟨q.1,b.mono _ _ _ Q Q' X X' (λ_ q1=>m _ q1) m mx q.2⟩⟩
def Fn.mkN (np nn:Nat)(b:Sm):Fn:=⟨λds Q _=>ds.length=np/\b.run (ds.map B.s++List.replicate (nn - np) .n) (λ_=>Q .non) Q (λ_=>False),λds Q Q' X X' m mx q=>⟨q.1,b.mono _ _ _ Q Q' _ _ (λ_ q1=>m _ q1) m (λ_ z=>z) q.2⟩⟩
def Sm.calm (b:Sm):Sm:=⟨λρ N Q _=>b.run ρ N Q (λ_=>False),λρ N N' Q Q' X X' mn m mx q=>b.mono ρ N N' Q Q' _ _ mn m (λ_ z=>z) q⟩
end Pu
namespace Pu
open PySem PySem.Spec PyProof.Rows L2
def AbE (K:W.Frag)(mg:Str->Option Value)(G:Hp)(ρ:Pu.Env)(σ:L2.St):Prop:=∀i d,ρ.get i=some d->∃v,σ[i]? = some (some v)/\RD K mg G d v
def Gr (G H G':Hp):Prop:=Same G G'/\∀a o,G' a=some o->(∃u,G a=some u)\/H a=none
def Gr.refl {G H:Hp}:Gr G H G:=⟨Same.refl',λa o e =>.inl ⟨o,e⟩⟩
def Gr.trans {G H G1 H1 G2:Hp}(h:Gr G H G1)(k:Same H H1)(h':Gr G1 H1 G2):Gr G H G2:=⟨z0a h.1 h'.1,λa o e=>by
 rcases h'.2 a o e with ⟨u,q⟩ | q
 ·exact h.2 a u q
 ·refine .inr ?_
  cases z:H a with
  | none=>rfl
  | some w=>rw[k a w z] at q; cases q⟩
def Gr.new {G H:Hp}{p:Addr}{o:HO}(g:Same G H)(hp:H p=none):Gr G H (upd G p o):=by
 have gp:G p=none:=by
  cases e:G p with
  | none=>rfl
  | some u=>rw[g p u e] at hp; cases hp
 refine⟨z0G gp o,λa u e =>?_⟩
 by_cases ha:a=p
 ·subst ha; exact .inr hp
 ·rw[z0o ha] at e; exact .inl ⟨u,e⟩
def Kt (K:W.Frag)(mg:Str->Option Value)(G H:Hp)(Q0:DK)(Q:VK):Prop:=∀d v G' H',Q0 d->Gr G H G'->Same G' H'->Same H H'->RD K mg G' d v->Q v H'
def Kts (K:W.Frag)(mg:Str->Option Value)(G H:Hp)(Q0:List D->Prop)(Q:List V->Hp->Prop):Prop:=∀ds vs G' H',Q0 ds->Gr G H G'->Same G' H'->Same H H'->RDs K mg G' ds vs->Q vs H'
def Kx (mg:Str->Option Value)(H:Hp)(X0:XP)(E:XK):Prop:=∀x C H',X0 x->mg x=some (.ref C)->Same H H'->E (.ref C) none H'
def tx (K:W.Frag)(mg:Str->Option Value)(E:XK)(e:Ex):TE:=λσ H Q=>∃G ρ Q0 X0,Same G H/\AbE K mg G ρ σ/\e.run ρ Q0 X0/\Kt K mg G H Q0 Q/\Kx mg H X0 E
def txa (K:W.Frag)(mg:Str->Option Value)(E:XK)(es:List Ex):TA:=λσ H Q=>∃G ρ Q0 X0,Same G H/\AbE K mg G ρ σ/\runs es ρ Q0 X0/\Kts K mg G H Q0 Q/\Kx mg H X0 E
def tt (K:W.Frag)(mg:Str->Option Value)(E:XK)(e:Ex):TT:=λσ H Q=>∃G ρ Q0 X0,Same G H/\AbE K mg G ρ σ/\e.run ρ Q0 X0/\(∀d G' H',Q0 d->Gr G H G'->Same G' H'->Same H H'->∃b,d = .bl b/\Q b H')/\Kx mg H X0 E
section
variable {K:W.Frag}{mg:Str->Option Value}{G G' H H':Hp}{ρ:Pu.Env}{σ:L2.St}{Q0:DK}{Q:VK}{X0:XP}{E:XK}
def AbE.same (h:AbE K mg G ρ σ)(g:Same G G'):AbE K mg G' ρ σ:=λi d e=>by
 obtain⟨v,h1,h2⟩:=h i d e;exact⟨v,h1,h2.same g⟩
def Kt.same (h:Kt K mg G H Q0 Q)(g:Gr G H G')(k:Same H H'):Kt K mg G' H' Q0 Q:=λd v G1 H1 q a b c r=>h d v G1 H1 q (g.trans k a) b (z0a k c) r
def Kx.same (h:Kx mg H X0 E)(k:Same H H'):Kx mg H' X0 E:=λx C H1 q m c=>h x C H1 q m (z0a k c)
def Kx.no {E:XK}:Kx mg H (λ_=>False) E:=λ_ _ _ z=>z.elim
def Kt.now {d:D}{v:V}(h:Kt K mg G H Q0 Q)(g:Same G H)(q:Q0 d)(r:RD K mg G d v):Q v H:=h d v G H q Gr.refl g Same.refl' r
def Kt.new {d:D}{p:Addr}{o:HO}{v:V}(h:Kt K mg G H Q0 Q)(g:Same G H)(hp:H p=none)(q:Q0 d)(r:RD K mg (upd G p o) d v):Q v (upd H p o):=by
 have gp:G p=none:=by
  cases e:G p with
  | none=>rfl
  | some u=>rw[g p u e] at hp; cases hp
 refine h d v (upd G p o) (upd H p o) q (Gr.new g hp) (λb u e =>?_) (z0G hp o) r
 by_cases hb:b=p
 ·subst hb; rw[z0A] at e ⊢; exact e
 ·rw[z0o hb] at e ⊢; exact g b u e
def z1z (g:Same G H){p:Addr}(hp:H p=none):G p=none:=by
 cases e:G p with
 | none=>rfl
 | some u=>rw[g p u e] at hp; cases hp
end
def Lk2 (K:W.Frag)(mg:Str->Option Value)(F:Fn)(r:R2):Prop:=∀(G H:Hp) (d1 d2:D) (v1 v2:V) (Q0:DK) (X0:XP) (Q:VK),Same G H->RD K mg G d1 v1->RD K mg G d2 v2->F.run [d1,d2] Q0 X0->Kt K mg G H Q0 Q->r v1 v2 H Q
def Lk1 (K:W.Frag)(mg:Str->Option Value)(F:Fn)(r:V->Hp->VK->Prop):Prop:=∀(G H:Hp) (d:D) (v:V) (Q0:DK) (X0:XP) (Q:VK),Same G H->RD K mg G d v->F.run [d] Q0 X0->Kt K mg G H Q0 Q->r v H Q
def LkN (K:W.Frag)(mg:Str->Option Value)(F:Fn)(r:List V->Hp->VK->Prop):Prop:=∀(G H:Hp) (ds:List D) (vs:List V) (Q0:DK) (X0:XP) (Q:VK),Same G H->RDs K mg G ds vs->F.run ds Q0 X0->Kt K mg G H Q0 Q->r vs H Q
section
variable {K:W.Frag}{mg:Str->Option Value}{E:XK}{σ:L2.St}{H:Hp}{Q:VK}{a b c:Ex}{F:Fn}{es:List Ex}
def tx2 {r:R2}(lk:Lk2 K mg F r)(h:tx K mg E (.op F [a,b]) σ H Q):tOp r (tx K mg E a) (tx K mg E b) σ H Q:=by
 obtain⟨G,ρ,Q0,X0,hs,ab,hr,hk,hx⟩:=h;refine⟨G,ρ,λd=>b.run ρ (λd'=>F.run [d,d'] Q0 X0) X0,X0,hs,ab,hr,?_,hx⟩;intro d v G1 H1 hb g1 g2 g3 rd;refine⟨G1,ρ,λd'=>F.run [d,d'] Q0 X0,X0,g2,ab.same g1.1,hb,?_,hx.same g3⟩;intro d' v' G2 H2 hF k1 k2 k3 rd';exact lk G2 H2 d d' v v' Q0 X0 Q k2 (rd.same k1.1) rd' hF (hk.same (g1.trans g3 k1) (z0a g3 k3))
def tx1 {r:V->Hp->VK->Prop}(lk:Lk1 K mg F r)(h:tx K mg E (.op F [a]) σ H Q):tUn r (tx K mg E a) σ H Q:=by
 obtain⟨G,ρ,Q0,X0,hs,ab,hr,hk,hx⟩:=h;refine⟨G,ρ,λd=>F.run [d] Q0 X0,X0,hs,ab,hr,?_,hx⟩;intro d v G1 H1 hF g1 g2 g3 rd;exact lk G1 H1 d v Q0 X0 Q g2 rd hF (hk.same g1 g3)
def txN {r:List V->Hp->VK->Prop}(lk:LkN K mg F r)(h:tx K mg E (.op F es) σ H Q):tCB r (txa K mg E es) σ H Q:=by
 obtain⟨G,ρ,Q0,X0,hs,ab,hr,hk,hx⟩:=h;refine⟨G,ρ,λds=>F.run ds Q0 X0,X0,hs,ab,hr,?_,hx⟩;intro ds vs G1 H1 hF g1 g2 g3 rd;exact lk G1 H1 ds vs Q0 X0 Q g2 rd hF (hk.same g1 g3)
end
def QE.imp {X:Cx}{e:Expr}{t t':TE}(h:QE X e t)(i:∀σ H Q,t' σ H Q->t σ H Q):QE X e t':=⟨h.p.imp i⟩
def QT.imp {X:Cx}{e:Expr}{t t':TT}(h:QT X e t)(i:∀σ H Q,t' σ H Q->t σ H Q):QT X e t':=⟨λpins s σ H Q I q=>h.p pins s σ H Q I (i σ H Q q)⟩
def QA.imp {X:Cx}{e:List Expr}{t t':TA}(h:QA X e t)(i:∀σ H Q,t' σ H Q->t σ H Q):QA X e t':=⟨λpos pins s σ H Q I q=>h.p pos pins s σ H Q I (i σ H Q q)⟩
def QW.imp {X:Cx}{e:Expr}{t t':TT}(h:QW X e t)(i:∀σ H Q,t' σ H Q->t σ H Q):QW X e t':=⟨λw pins s σ H Q I q=>h.p w pins s σ H Q I (i σ H Q q)⟩
def QS.imp {X:Cx}{e:Stmt}{t t':TS}(h:QS X e t)(i:∀D σ H,t' D σ H->t D σ H):QS X e t':=⟨λpins s σ H D I q=>h.p pins s σ H D I (i D σ H q)⟩
def QSs.imp {X:Cx}{e:List Stmt}{t t':TS}(h:QSs X e t)(i:∀D σ H,t' D σ H->t D σ H):QSs X e t':=⟨λpins s σ H D I q=>h.p pins s σ H D I (i D σ H q)⟩
def QI.imp {X:Cx}{tg e:Expr}{t t':TI}(h:QI X tg e t)(i:∀σ H R,t' σ H R->t σ H R):QI X tg e t':=⟨λpins s σ H R I q=>h.p pins s σ H R I (i σ H R q)⟩
abbrev QX (X:Cx)(E:XK)(e:Expr)(x:Ex):Prop:=QE X e (tx X.K X.mg E x)
abbrev QXT (X:Cx)(E:XK)(e:Expr)(x:Ex):Prop:=QT X e (tt X.K X.mg E x)
abbrev QXW (X:Cx)(E:XK)(e:Expr)(x:Ex):Prop:=QW X e (tt X.K X.mg E x)
abbrev QXA (X:Cx)(E:XK)(es:List Expr)(x:List Ex):Prop:=QA X es (txa X.K X.mg E x)
section
variable {X:Cx}{E:XK}{e a b c:Expr}{x y z:Ex}{pos:Pos}{es:List Expr}{xs:List Ex}{rest:List Expr}
def qx_c {d:D}{v:V}(h:QE X e (tC v))(r:∀G,RD X.K X.mg G d v):QX X E e (.c d):=QE.imp h λσ H Q ⟨G,ρ,Q0,X0,hs,ab,hr,hk,hx⟩=>hk.now hs hr (r G)
def qx_v {i:Nat}(h:QE X e (tVar i)):QX X E e (.v i):=QE.imp h λσ H Q ⟨G,ρ,Q0,X0,hs,ab,hr,hk,hx⟩=>by
 have hr':onV (ρ.get i) Q0:=hr
 cases q:ρ.get i with
 | none=>rw[q] at hr'; exact hr'.elim
 | some d=>
  rw[q] at hr';obtain⟨v,h1,h2⟩:=ab i d q;exact⟨v,h1,hk.now hs hr' h2⟩
def z02 {i:Int}{j:Nat}:QX X E (.Constant (.int i) j pos) (.c (.int i)):=qx_c zjM λ_=>by rw[RD]
def z9p {i:Bool}{j:Nat}:QX X E (.Constant (.bool i) j pos) (.c (.bl i)):=qx_c zlH λ_=>by rw[RD]
def zgQ {j:Nat}:QX X E (.Constant .none j pos) (.c .non):=qx_c zjJ λ_=>by rw[RD]
def z7L {i:Str}{j:Nat}:QX X E (.Constant (.str i) j pos) (.c (.str i)):=qx_c zjG λ_=>by rw[RD]
def z04 {op:Operator}{F:Fn}{r:R2}(ho:OpR X (binaryOp op) r)(lk:Lk2 X.K X.mg F r)(ha:QX X E a x)(hb:QX X E b y):QX X E (.BinOp a op b pos) (.op F [x,y]):=QE.imp (zjH ho ha hb) λ_ _ _ h=>tx2 lk h
def z7q {op:UnaryOp}{F:Fn}{r:V->Hp->VK->Prop}(ho:UnR X (unaryOp op) r)(lk:Lk1 X.K X.mg F r)(ha:QX X E a x):QX X E (.UnaryOp op a pos) (.op F [x]):=QE.imp (zlD ho ha) λ_ _ _ h=>tx1 lk h
def z7d {op:CmpOp}{F:Fn}{r:R2}(ho:OpR X (compareOp op) r)(lk:Lk2 X.K X.mg F r)(ha:QX X E a x)(hb:QX X E b y)(hm:behindInMarks op b=false):QX X E (.Compare a [op] [b] pos) (.op F [x,y]):=QE.imp (zhO ho ha hb hm) λ_ _ _ h=>tx2 lk h
def zhk {t:TE}{σ:L2.St}{H:Hp}{Q:Bool->Hp->Prop}(m:∀Q,tx X.K X.mg E x σ H Q->t σ H Q)(h:tt X.K X.mg E x σ H Q):zhn t σ H Q:=by
 obtain⟨G,ρ,Q0,X0,hs,ab,hr,hk,hx⟩:=h;refine m _ ⟨G,ρ,Q0,X0,hs,ab,hr,λd v G' H' q g1 g2 g3 rd =>?_,hx⟩;obtain⟨b,rfl,q'⟩:=hk d G' H' q g1 g2 g3;rw[RD] at rd;exact⟨b,rd,q'⟩
def z0z {op:CmpOp}{F:Fn}{r:R2}(ho:OpR X (compareOp op) r)(lk:Lk2 X.K X.mg F r)(ha:QX X E a x)(hb:QX X E b y)(hm:behindInMarks op b=false):QXT X E (.Compare a [op] [b] pos) (.op F [x,y]):=QT.imp (zhJ ho ha hb hm) λσ H Q h=>zhk (λ_ h=>tx2 lk h) h
def zbf (h:QX X E e x)(he:∀whole,isTrue e X.env whole=(do let v <- whole; standAt e.pos; holding [v] (truthy v)):=by intro _; rfl):QXT X E e x:=QT.imp (zjz h he) λσ H Q h=>by
 obtain⟨G,ρ,Q0,X0,hs,ab,hr,hk,hx⟩:=h;refine⟨G,ρ,Q0,X0,hs,ab,hr,λd v G' H' q g1 g2 g3 rd =>?_,hx⟩;obtain⟨b,rfl,q'⟩:=hk d G' H' q g1 g2 g3;rw[RD] at rd;exact⟨b,rd,q'⟩
def zdS (ha:QXT X E a x):QXT X E (.UnaryOp .Not a pos) (.not x):=QT.imp (zjA ha) λσ H Q ⟨G,ρ,Q0,X0,hs,ab,hr,hk,hx⟩=>by
 refine⟨G,ρ,_,X0,hs,ab,hr,λd G' H' q g1 g2 g3 =>?_,hx⟩
 cases d with
 | bl b=>
  obtain⟨b',e,q'⟩:=hk (.bl !b) G' H' q g1 g2 g3
  cases e
  exact⟨b,rfl,q'⟩
 | _=>exact q.elim
def zgP {op}(h:QX X E a x):QX X E (.BoolOp op [a] pos) x:=zjI h
def zbV (ha:QX X E a x)(hb:QX X E (.BoolOp .And (b::rest) pos) y):QX X E (.BoolOp .And (a::b::rest) pos) (.and x y):=QE.imp (zjP ha hb) λσ H Q ⟨G,ρ,Q0,X0,hs,ab,hr,hk,hx⟩=>by
 refine⟨G,ρ,_,X0,hs,ab,hr,λd v G' H' q g1 g2 g3 rd =>?_,hx⟩;obtain⟨k,rfl,q1,q2⟩:=za6 q;rw[RD] at rd;refine⟨k,rd,?_⟩
 cases k with
 | true=>exact iteT ⟨G',ρ,Q0,X0,g2,ab.same g1.1,q1 rfl,hk.same g1 g3,hx.same g3⟩
 | false=>exact iteF (hk (.bl false) (.bl false) G' H' (q2 rfl) g1 g2 g3 (by rw[RD]))
def zbW (ha:QXT X E a x):QXW X E (.BoolOp .And [a] pos) x:=zhI ha
def zhH (ha:QXT X E a x):QXW X E (.BoolOp .Or [a] pos) x:=zjx ha
def zdR (ha:QXT X E a x)(hb:QXW X E (.BoolOp .And (b::rest) pos) y):QXW X E (.BoolOp .And (a::b::rest) pos) (.and x y):=QW.imp (zjy ha hb) λσ H Q ⟨G,ρ,Q0,X0,hs,ab,hr,hk,hx⟩=>by
 refine⟨G,ρ,_,X0,hs,ab,hr,λd G' H' q g1 g2 g3 =>?_,hx⟩;obtain⟨k,rfl,q1,q2⟩:=za6 q;refine⟨k,rfl,?_⟩
 cases k with
 | true=>exact iteT ⟨G',ρ,Q0,X0,g2,ab.same g1.1,q1 rfl,λd G2 H2 q k1 k2 k3=>hk d G2 H2 q (g1.trans g3 k1) k2 (z0a g3 k3),hx.same g3⟩
 | false=>
  obtain⟨b',e,q'⟩:=hk (.bl false) G' H' (q2 rfl) g1 g2 g3
  cases e
  exact iteF q'
def zgS (ha:QXT X E a x)(hb:QXW X E (.BoolOp .Or (b::rest) pos) y):QXW X E (.BoolOp .Or (a::b::rest) pos) (.or x y):=QW.imp (zlA ha hb) λσ H Q ⟨G,ρ,Q0,X0,hs,ab,hr,hk,hx⟩=>by
 refine⟨G,ρ,_,X0,hs,ab,hr,λd G' H' q g1 g2 g3 =>?_,hx⟩;obtain⟨k,rfl,q1,q2⟩:=za6 q;refine⟨k,rfl,?_⟩
 cases k with
 | false=>exact iteF ⟨G',ρ,Q0,X0,g2,ab.same g1.1,q2 rfl,λd G2 H2 q k1 k2 k3=>hk d G2 H2 q (g1.trans g3 k1) k2 (z0a g3 k3),hx.same g3⟩
 | true=>
  obtain⟨b',e,q'⟩:=hk (.bl true) G' H' (q1 rfl) g1 g2 g3
  cases e
  exact iteT q'
def z03:QXA X E [] []:=QA.imp zbY λσ H Q ⟨G,ρ,Q0,X0,hs,ab,hr,hk,hx⟩=>hk [] [] G H hr Gr.refl hs Same.refl' RDs.nil
def z00 (ha:QX X E e x)(hr:QXA X E es xs)(hs:starEach (e::es) X.env=(false,eval e X.env)::starEach es X.env:=by rfl):QXA X E (e::es) (x::xs):=QA.imp (z9s ha hr hs) λσ H Q ⟨G,ρ,Q0,X0,hs,ab,hr,hk,hx⟩=>by
 refine⟨G,ρ,_,X0,hs,ab,hr,λd v G' H' q g1 g2 g3 rd =>?_,hx⟩;refine⟨G',ρ,_,X0,g2,ab.same g1.1,q,λds vs G2 H2 q' k1 k2 k3 rds =>?_,hx.same g3⟩;exact hk (d::ds) (v::vs) G2 H2 q' (g1.trans g3 k1) k2 (z0a g3 k3) (RDs.cons (rd.same k1.1) rds)
def spP (K:W.Frag)(mg:Str->Option Value)(F:Fn):Sp:=λvs H Q E=>∃G ds Q0 X0,Same G H/\RDs K mg G ds vs/\F.run ds Q0 X0/\Kt K mg G H Q0 Q/\Kx mg H X0 E
def zly {CX:CXT}{k:Nat}{ps:List Str}{F:Fn}{f:Str}{pp:Pos}(C:Cal X.prog X.w X.K X.mg X.base CX k f ps (spP X.K X.mg F))(hr:Room k X.A)(hx:z7n CX X E)(ha:QXA X E (e::es) xs)(hg:Gl X f:=by rfl)
  (hdb:(f == ("__debug__":Str))=false:=by decide) (he:starEach (e::es) X.env=(false,eval e X.env)::starEach es X.env:=by rfl) (hpl:(backTo pos (starEach es X.env)).any (·.1)=false:=by rfl):QX X E (.Call (.Name f pp) (e::es) [] pos) (.op F xs):=
 QE.imp (zlF C hr hx ha hg hdb he hpl) λσ H Q ⟨G,ρ,Q0,X0,hs,ab,hr,hk,hx⟩=>by
  refine⟨G,ρ,_,X0,hs,ab,hr,λds vs G' H' q g1 g2 g3 rds =>?_,hx⟩;show spP X.K X.mg F (vs++[]) H' Q E;rw[List.append_nil];exact⟨G',ds,Q0,X0,g2,rds,q,hk.same g1 g3,hx.same g3⟩
def z1I {f:Str}{pp:Pos}{id:String}{F:Fn}{r:List V->Hp->VK->Prop}(hc:z19 X (.builtin id) r)(lk:LkN X.K X.mg F r)(hg:Gl X f)(hm:X.mg f=none)(hv:bootBuiltins f=some (.builtin id))(ha:QXA X E (e::es) xs)(hn:f≠"__name__":=by decide)(hdb:(f == ("__debug__":Str))=false:=by decide)
  (he:starEach (e::es) X.env=(false,eval e X.env)::starEach es X.env:=by rfl) (hpl:(backTo pos (starEach es X.env)).any (·.1)=false:=by rfl):QX X E (.Call (.Name f pp) (e::es) [] pos) (.op F xs):=
 QE.imp (z9r hc hg hm hv ha hn hdb he hpl) λ_ _ _ h=>txN lk h
def z4N {f:Str}{pp:Pos}{id:String}{F:Fn}{r:List V->Hp->VK->Prop}(hc:z19 X (.type id) r)(lk:LkN X.K X.mg F r)(hg:Gl X f)(hm:X.mg f=none)(hv:bootBuiltins f=some (.type id))(ha:QXA X E (e::es) xs)(hn:f≠"__name__":=by decide)(hdb:(f == ("__debug__":Str))=false:=by decide)
  (he:starEach (e::es) X.env=(false,eval e X.env)::starEach es X.env:=by rfl) (hpl:(backTo pos (starEach es X.env)).any (·.1)=false:=by rfl):QX X E (.Call (.Name f pp) (e::es) [] pos) (.op F xs):=
 QE.imp (z4v hc hg hm hv ha hn hdb he hpl) λ_ _ _ h=>txN lk h
end
def z8v (K:W.Frag)(mg:Str->Option Value)(G H:Hp)(a:Addr):D->Prop
 | .lst ds=>∃xs,H a=some (.lst xs)/\RDs K mg G ds xs
 | .dct ks vs=>∃xs,RDs K mg G vs xs/\((∃kvs:List (Key × V),H a=some (.dK kvs)/\ks=kvs.map (λp=>kD p.1)/\xs=kvs.map (·.2))\/∃kvs:List (List Key × V),H a=some (.dT kvs)/\ks=kvs.map (λp =>.tup (p.1.map kD))/\xs=kvs.map (·.2))
 | _=>False
structure AbS (K:W.Frag)(mg:Str->Option Value)(H0 G0 G:Hp)(ρ:Pu.Env)(σ:L2.St)(H:Hp):Prop where
 len:σ.length=ρ.length
 s0:Same H0 H
 g0:Same G0 G
 g:Same G H
 nw:∀a o,G a=some o->(∃u,G0 a=some u)\/H0 a=none
 sh:∀(i:Nat) (d:D),ρ[i]? = some (B.s d)->∃v,σ[i]? = some (some v)/\RD K mg G d v
 ow:∀(i:Nat) (d:D),ρ[i]? = some (B.o d)->∃a,σ[i]? = some (some (V.ref a))/\G a=none/\H0 a=none/\z8v K mg G H a d
 ne:∀(i j:Nat) (d d':D) (a:Addr),i≠j->ρ[i]? = some (B.o d)->ρ[j]? = some (B.o d')->σ[i]? = some (some (V.ref a))->σ[j]? = some (some (V.ref a))->False
open Classical in
def plus (G H:Hp)(O:Addr->Prop):Hp:=λa=>if O a then H a else G a
open Classical in
def minus (G:Hp)(O:Addr->Prop):Hp:=λa=>if O a then none else G a
section
variable {K:W.Frag}{mg:Str->Option Value}{H0 G0 G G' H H' H1:Hp}{ρ:Pu.Env}{σ:L2.St}{O:Addr->Prop}
def z65 (g:Same G H):Same (plus G H O) H:=λa o e=>by
 unfold plus at e
 split at e
 ·exact e
 ·exact g a o e
def z4l (h:∀a,O a->G a=none):Same G (plus G H O):=λa o e=>by
 unfold plus
 split
 ·rename_i z; rw[h a z] at e; cases e
 ·exact e
def ze2 {a:Addr}(h:O a):plus G H O a=H a:=by unfold plus; rw[if_pos h]
def z41:Same (minus G O) G:=λa o e=>by
 unfold minus at e
 split at e
 ·cases e
 ·exact e
def z7w {a:Addr}(h:O a):minus G O a=none:=by unfold minus; rw[if_pos h]
def zas {a:Addr}(h:¬ O a):minus G O a=G a:=by unfold minus; rw[if_neg h]
def z5s (g:Same G G')(h:∀a,O a->G a=none):Same G (minus G' O):=λa o e=>by
 by_cases z:O a
 ·rw[h a z] at e; cases e
 ·rw[zas z]; exact g a o e
def z8v.same {a:Addr}{d:D}(h:z8v K mg G H a d)(g:Same G G')(k:∀o,H a=some o->H1 a=some o):z8v K mg G' H1 a d:=by
 cases d with
 | lst ds=>
  obtain⟨xs,h1,h2⟩:=h;exact⟨xs,k _ h1,h2.same g⟩
 | dct ks vs=>
  obtain⟨xs,h1,h2⟩:=h;refine⟨xs,h1.same g,?_⟩
  rcases h2 with ⟨kvs,q,r⟩ | ⟨kvs,q,r⟩
  ·exact .inl ⟨kvs,k _ q,r⟩
  ·exact .inr ⟨kvs,k _ q,r⟩
 | _=>exact h.elim
def z8v.some {a:Addr}{d:D}(h:z8v K mg G H a d):∃o,H a=some o:=by
 cases d with
 | lst ds=>obtain⟨xs,h1,h2⟩:=h; exact⟨_,h1⟩
 | dct ks vs=>
  obtain⟨xs,h1,h2⟩:=h
  rcases h2 with ⟨kvs,q,r⟩ | ⟨kvs,q,r⟩ <;> exact⟨_,q⟩
 | _=>exact h.elim
def z8v.rd {a:Addr}{d:D}(h:z8v K mg G H a d)(g:Same G G')(e:G' a=H a):RD K mg G' d (.ref a):=by
 cases d with
 | lst ds=>
  obtain⟨xs,h1,h2⟩:=h;rw[RD];exact⟨a,xs,rfl,SqL.of (e.trans h1),h2.same g⟩
 | dct ks vs=>
  obtain⟨xs,h1,h2⟩:=h;rw[RD];refine⟨a,xs,rfl,h1.same g,?_⟩
  rcases h2 with ⟨kvs,q,r⟩ | ⟨kvs,q,r⟩
  ·exact .inl ⟨kvs,e.trans q,r⟩
  ·exact .inr ⟨kvs,e.trans q,r⟩
 | _=>exact h.elim
def OK1 (G:Hp)(O:Addr->Prop)(bL bD:Prop):Prop:=∀a,O a->G a=none\/((∃xs,G a=some (.lst xs))/\bL)\/(((∃kvs,G a=some (.dK kvs))\/∃kvs,G a=some (.dT kvs))/\bD)
def z4E {a:Addr}{o u:HO}{bL bD:Prop}(hO:OK1 G O bL bD)(h:G a=some o)(h1:∀xs,o = .lst xs->¬ bL)(h2:∀k,o = .dK k->¬ bD)(h3:∀k,o = .dT k->¬ bD):minus G O a=some o:=by
 by_cases z:O a
 ·rcases hO a z with q | ⟨⟨xs,q⟩,b⟩ | ⟨⟨k,q⟩ | ⟨k,q⟩,b⟩
  ·rw[q] at h; cases h
  ·rw[q] at h; cases h; exact(h1 _ rfl b).elim
  ·rw[q] at h; cases h; exact(h2 _ rfl b).elim
  ·rw[q] at h; cases h; exact(h3 _ rfl b).elim
 ·rw[zas z]; exact h
mutual
def RD.minus {bL bD:Prop}(hO:OK1 G O bL bD):∀(d:D) {v:V},(bL->noL d=true)->(bD->noD d=true)->RD K mg G d v->RD K mg (Pu.minus G O) d v
 | .non,_,_,_,h=>by simpa[RD] using h
 | .bl _,_,_,_,h=>by simpa[RD] using h
 | .int _,_,_,_,h=>by simpa[RD] using h
 | .str _,_,_,_,h=>by simpa[RD] using h
 | .fn _,_,_,_,h=>by rw[RD] at h ⊢; exact h
 | .exc _,_,_,_,h=>by
  rw[RD] at h ⊢;obtain⟨ea,C,h1,h2,h3⟩:=h;exact⟨ea,C,h1,z4E (u :=.lst []) hO h2 (λ_ z=>by cases z) (λ_ z=>by cases z) (λ_ z=>by cases z),h3⟩
 | .tup ds,_,nl,nd,h=>by
  rw[RD] at h ⊢;obtain⟨a,xs,h1,h2,h3⟩:=h;refine⟨a,xs,h1,?_,RDs.minus hO ds (λb=>by have:=nl b; rwa [noL] at this) (λb=>by have:=nd b; rwa [noD] at this) h3⟩
  rcases h2 with (h2 | ⟨o,h2⟩) | h2
  ·exact .inl (.inl (z4E (u :=.lst []) hO h2 (λ_ z=>by cases z) (λ_ z=>by cases z) (λ_ z=>by cases z)))
  ·exact .inl (.inr ⟨o,z4E (u :=.lst []) hO h2 (λ_ z=>by cases z) (λ_ z=>by cases z) (λ_ z=>by cases z)⟩)
  ·exact .inr h2
 | .lst ds,_,nl,nd,h=>by
  rw[RD] at h ⊢;obtain⟨a,xs,h1,h2,h3⟩:=h;have nb:¬ bL:=λb=>by have:=nl b; rw[noL] at this; cases this
  refine⟨a,xs,h1,?_,RDs.minus hO ds (λb=>(nb b).elim) (λb=>by have:=nd b; rwa [noD] at this) h3⟩
  rcases h2 with (h2 | ⟨o,h2⟩) | h2
  ·exact .inl (.inl (z4E (u :=.lst []) hO h2 (λ_ _=>nb) (λ_ z=>by cases z) (λ_ z=>by cases z)))
  ·exact .inl (.inr ⟨o,z4E (u :=.lst []) hO h2 (λ_ z=>by cases z) (λ_ z=>by cases z) (λ_ z=>by cases z)⟩)
  ·exact .inr h2
 | .dct ks vs,_,nl,nd,h=>by
  rw[RD] at h ⊢;obtain⟨a,xs,h1,h3,h4⟩:=h;have nb:¬ bD:=λb=>by have:=nd b; rw[noD] at this; cases this
  refine⟨a,xs,h1,RDs.minus hO vs (λb=>by have:=nl b; rwa [noL] at this) (λb=>(nb b).elim) h3,?_⟩
  rcases h4 with ⟨kvs,q,r⟩ | ⟨kvs,q,r⟩
  ·exact .inl ⟨kvs,z4E (u :=.lst []) hO q (λ_ z=>by cases z) (λ_ _=>nb) (λ_ _=>nb),r⟩
  ·exact .inr ⟨kvs,z4E (u :=.lst []) hO q (λ_ z=>by cases z) (λ_ _=>nb) (λ_ _=>nb),r⟩
def RDs.minus {bL bD:Prop}(hO:OK1 G O bL bD):∀(ds:List D) {xs:List V},(bL->noLs ds=true)->(bD->noDs ds=true)->RDs K mg G ds xs->RDs K mg (Pu.minus G O) ds xs
 | [],_,_,_,h=>by simpa[RDs] using h
 | d::ds,_,nl,nd,h=>by
  rw[RDs] at h ⊢;obtain⟨x,r,h1,h2,h3⟩:=h;exact⟨x,r,h1,RD.minus hO d (λb=>by have:=nl b; rw[noLs,Bool.and_eq_true] at this; exact this.1) (λb=>by have:=nd b; rw[noDs,Bool.and_eq_true] at this; exact this.1) h2,
   RDs.minus hO ds (λb=>by have:=nl b; rw[noLs,Bool.and_eq_true] at this; exact this.2) (λb=>by have:=nd b; rw[noDs,Bool.and_eq_true] at this; exact this.2) h3⟩
end
def z3i (ρ:Pu.Env)(σ:L2.St)(a:Addr):Prop:=∃(j:Nat) (d:D),ρ[j]? = some (B.o d)/\σ[j]? = some (some (V.ref a))
def AbS.free (h:AbS K mg H0 G0 G ρ σ H):∀a,z3i ρ σ a->G a=none:=λa ⟨j,d,e,q⟩=>by
 obtain⟨b,q',hb,_⟩:=h.ow j d e;rw[q] at q'; cases q';exact hb
def AbS.owned0 (h:AbS K mg H0 G0 G ρ σ H):∀a,z3i ρ σ a->H0 a=none:=λa ⟨j,d,e,q⟩=>by
 obtain⟨b,q',hb,h0,_⟩:=h.ow j d e;rw[q] at q'; cases q';exact h0
def AbS.nw1 {G1:Hp}(h:AbS K mg H0 G0 G ρ σ H)(g:Gr (plus G H (z3i ρ σ)) H G1):∀a o,G1 a=some o->(∃u,G0 a=some u)\/H0 a=none:=λa o e=>by
 rcases g.2 a o e with ⟨u,q⟩ | q
 ·by_cases z:z3i ρ σ a
  ·exact .inr (h.owned0 a z)
  ·unfold plus at q; rw[if_neg z] at q; exact h.nw a u q
 ·refine .inr ?_
  cases z:H0 a with
  | none=>rfl
  | some w=>rw[h.s0 a w z] at q; cases q
def AbS.nw2 {G1:Hp}(h:AbS K mg H0 G0 G ρ σ H)(g:Gr G H G1):∀a o,G1 a=some o->(∃u,G0 a=some u)\/H0 a=none:=λa o e=>by
 rcases g.2 a o e with ⟨u,q⟩ | q
 ·exact h.nw a u q
 ·refine .inr ?_
  cases z:H0 a with
  | none=>rfl
  | some w=>rw[h.s0 a w z] at q; cases q
def AbS.abe (h:AbS K mg H0 G0 G ρ σ H):AbE K mg (plus G H (z3i ρ σ)) ρ σ:=λi d e=>by
 rw[Env.get_eq] at e
 cases q:ρ[i]? with
 | none=>rw[q] at e; cases e
 | some b=>
  rw[q] at e
  cases b with
  | n=>cases e
  | s d'=>
   cases e
   obtain⟨v,h1,h2⟩:=h.sh i d q;exact⟨v,h1,h2.same (z4l h.free)⟩
  | o d'=>
   cases e
   obtain⟨a,h1,h2,h3,h4⟩:=h.ow i d q;exact⟨.ref a,h1,h4.rd (z4l h.free) (ze2 ⟨i,d,q,h1⟩)⟩
def AbS.vis (h:AbS K mg H0 G0 G ρ σ H):AbE K mg G (vis ρ) σ:=λi d e=>by
 rw[Env.get_eq] at e;unfold Pu.vis at e;rw[List.getElem?_map] at e
 cases q:ρ[i]? with
 | none=>rw[q] at e; cases e
 | some b=>
  rw[q] at e
  cases b with
  | n=>cases e
  | s d'=>
   cases e
   exact h.sh i d q
  | o d'=>cases e
def Safe.get {d:D}:∀{ρ:Pu.Env}{j:Nat}{b:B},Safe d ρ->ρ[j]? = some b->zje d b
 | [],_,_,_,e=>by simp at e
 | c::r,0,b,h,e=>by simp at e; subst e; exact h.1
 | c::r,j+1,b,h,e=>Safe.get (j:=j) h.2 (by simpa using e)
def zh0 {G1:Hp}{d:D}{I:Nat->Prop}(h:AbS K mg H0 G0 G ρ σ H)(g2:Same G1 H1)(g3:Same H H1):
  OK1 G1 (λa=>∃(j:Nat) (d:D),I j/\ρ[j]? = some (B.o d)/\σ[j]? = some (some (V.ref a))) (∃(j:Nat) (l:List D),I j/\ρ[j]? = some (B.o (.lst l))) (∃(j:Nat) (k v:List D),I j/\ρ[j]? = some (B.o (.dct k v))):=λa ⟨j,d',hI,e,q⟩=>by
 obtain⟨b,q',hb,h0,hw⟩:=h.ow j d' e;rw[q] at q'; cases q'
 cases e1:G1 a with
 | none=>exact .inl rfl
 | some o=>
  have e2:=g2 a o e1
  cases d' with
  | lst ds=>
   obtain⟨xs,h1,h2⟩:=hw;rw[g3 a _ h1] at e2
   cases e2
   exact .inr (.inl ⟨⟨xs,rfl⟩,j,ds,hI,e⟩)
  | dct ks vs=>
   obtain⟨xs,h1,h2⟩:=hw
   rcases h2 with ⟨kvs,z,r⟩ | ⟨kvs,z,r⟩
   ·rw[g3 a _ z] at e2
    cases e2
    exact .inr (.inr ⟨.inl ⟨kvs,rfl⟩,j,ks,vs,hI,e⟩)
   ·rw[g3 a _ z] at e2
    cases e2
    exact .inr (.inr ⟨.inr ⟨kvs,rfl⟩,j,ks,vs,hI,e⟩)
  | _=>exact hw.elim
def z8Z {G1:Hp}{d:D}{v:V}{i:Nat}(h:AbS K mg H0 G0 G ρ σ H)(g2:Same G1 H1)(g3:Same H H1)(sf:Safe d (ρ.set i .n))(rd:RD K mg G1 d v):
  RD K mg (Pu.minus G1 (λa=>∃(j:Nat) (d:D),j≠i/\ρ[j]? = some (B.o d)/\σ[j]? = some (some (V.ref a)))) d v:=by
 refine RD.minus (zh0 (d:=d) (I:=λj=>j≠i) h g2 g3) d (λ⟨j,l,hj,e⟩ =>?_) (λ⟨j,k,v,hj,e⟩ =>?_) rd
 ·exact Safe.get sf (j:=j) (b :=.o (.lst l)) (by rw[List.getElem?_set_ne (Ne.symm hj)]; exact e)
 ·exact Safe.get sf (j:=j) (b :=.o (.dct k v)) (by rw[List.getElem?_set_ne (Ne.symm hj)]; exact e)
def zbc {G1:Hp}{d:D}{v:V}(h:AbS K mg H0 G0 G ρ σ H)(g2:Same G1 H1)(g3:Same H H1)(sf:Safe d ρ)(rd:RD K mg G1 d v):
  RD K mg (Pu.minus G1 (λa=>∃(j:Nat) (d:D),True/\ρ[j]? = some (B.o d)/\σ[j]? = some (some (V.ref a)))) d v:=by
 refine RD.minus (zh0 (d:=d) (I:=λ_=>True) h g2 g3) d (λ⟨j,l,hj,e⟩ =>?_) (λ⟨j,k,v,hj,e⟩ =>?_) rd
 ·exact Safe.get sf (j:=j) (b :=.o (.lst l)) e
 ·exact Safe.get sf (j:=j) (b :=.o (.dct k v)) e
def AbS.put {G1:Hp}{i:Nat}{d:D}{v:V}(h:AbS K mg H0 G0 G ρ σ H)(nw:∀a o,G1 a=some o->(∃u,G0 a=some u)\/H0 a=none)(g1:Same G G1)(g2:Same G1 H1)(g3:Same H H1)(hO:∀(j:Nat) (d':D) (a:Addr),j≠i->ρ[j]? = some (B.o d')->σ[j]? = some (some (V.ref a))->G1 a=none)(rd:RD K mg G1 d v):
  AbS K mg H0 G0 G1 (ρ.set i (.s d)) (σ.set i (some v)) H1 where
 len:=by simp[h.len]
 s0:=z0a h.s0 g3
 g0:=z0a h.g0 g1
 g:=g2
 nw:=nw
 sh:=λj e q=>by
  by_cases hj:j=i
  ·subst hj;have hl:j < ρ.length:=by
    have:=(List.getElem?_eq_some_iff.mp q).1;simpa using this
   rw[List.getElem?_set_self hl] at q
   cases q
   exact⟨v,by rw[List.getElem?_set_self (by rw[h.len]; exact hl)],rd⟩
  ·rw[List.getElem?_set_ne (Ne.symm hj)] at q;obtain⟨w,h1,h2⟩:=h.sh j e q;exact⟨w,by rw[List.getElem?_set_ne (Ne.symm hj)]; exact h1,h2.same g1⟩
 ow:=λj e q=>by
  by_cases hj:j=i
  ·subst hj;have hl:j < ρ.length:=by
    have:=(List.getElem?_eq_some_iff.mp q).1;simpa using this
   rw[List.getElem?_set_self hl] at q
   cases q
  ·rw[List.getElem?_set_ne (Ne.symm hj)] at q;obtain⟨a,h1,h2,h3,h4⟩:=h.ow j e q;exact⟨a,by rw[List.getElem?_set_ne (Ne.symm hj)]; exact h1,hO j e a hj q h1,h3,h4.same g1 (g3 a)⟩
 ne:=λj k e e' a hjk q q' s s'=>by
  have hl:∀{j:Nat}{e:D},(ρ.set i (.s d))[j]? = some (B.o e)->j≠i:=λ{j e} q hj=>by
   subst hj;have hl:j < ρ.length:=by
    have:=(List.getElem?_eq_some_iff.mp q).1;simpa using this
   rw[List.getElem?_set_self hl] at q
   cases q
  have hj:=hl q;have hk:=hl q';rw[List.getElem?_set_ne (Ne.symm hj)] at q s;rw[List.getElem?_set_ne (Ne.symm hk)] at q' s';exact h.ne j k e e' a hjk q q' s s'
def AbS.own {G1:Hp}{i:Nat}{d:D}{a:Addr}(h:AbS K mg H0 G0 G ρ σ H)(nw:∀a o,G1 a=some o->(∃u,G0 a=some u)\/H0 a=none)(g1:Same G G1)(g2:Same G1 H1)(g3:Same H H1)(hO:∀(j:Nat) (d':D) (a:Addr),j≠i->ρ[j]? = some (B.o d')->σ[j]? = some (some (V.ref a))->G1 a=none)(hn:H a=none)(ga:G1 a=none)(hw:z8v K mg G1 H1 a d):
  AbS K mg H0 G0 G1 (ρ.set i (.o d)) (σ.set i (some (.ref a))) H1 where
 len:=by simp[h.len]
 s0:=z0a h.s0 g3
 g0:=z0a h.g0 g1
 g:=g2
 nw:=nw
 sh:=λj e q=>by
  by_cases hj:j=i
  ·subst hj;have hl:j < ρ.length:=by
    have:=(List.getElem?_eq_some_iff.mp q).1;simpa using this
   rw[List.getElem?_set_self hl] at q
   cases q
  ·rw[List.getElem?_set_ne (Ne.symm hj)] at q;obtain⟨w,h1,h2⟩:=h.sh j e q;exact⟨w,by rw[List.getElem?_set_ne (Ne.symm hj)]; exact h1,h2.same g1⟩
 ow:=λj e q=>by
  by_cases hj:j=i
  ·subst hj;have hl:j < ρ.length:=by
    have:=(List.getElem?_eq_some_iff.mp q).1;simpa using this
   rw[List.getElem?_set_self hl] at q
   cases q
   refine⟨a,by rw[List.getElem?_set_self (by rw[h.len]; exact hl)],ga,?_,hw⟩;exact z1z h.s0 hn
  ·rw[List.getElem?_set_ne (Ne.symm hj)] at q;obtain⟨b,h1,h2,h3,h4⟩:=h.ow j e q;exact⟨b,by rw[List.getElem?_set_ne (Ne.symm hj)]; exact h1,hO j e b hj q h1,h3,h4.same g1 (g3 b)⟩
 ne:=λj k e e' b hjk q q' s s'=>by
  have old:∀{j:Nat}{e:D},j≠i->(ρ.set i (.o d))[j]? = some (B.o e)->(σ.set i (some (.ref a)))[j]? = some (some (V.ref b))->ρ[j]? = some (B.o e)/\σ[j]? = some (some (V.ref b)):=λ{j e} hj q s=>by
   rw[List.getElem?_set_ne (Ne.symm hj)] at q s;exact⟨q,s⟩
  have new:∀{j:Nat}{e:D},j=i->(ρ.set i (.o d))[j]? = some (B.o e)->(σ.set i (some (.ref a)))[j]? = some (some (V.ref b))->b=a:=λ{j e} hj q s=>by
   subst hj;have hl:j < σ.length:=by
    have:=(List.getElem?_eq_some_iff.mp s).1;simpa using this
   rw[List.getElem?_set_self hl] at s
   cases s; rfl
  have none:∀{j:Nat}{e:D},ρ[j]? = some (B.o e)->σ[j]? = some (some (V.ref b))->b≠a:=λ{j e} q s z=>by
   obtain⟨b',h1,h2,h3,h4⟩:=h.ow j e q;rw[s] at h1; cases h1;obtain⟨o,ho⟩:=h4.some;rw[z,hn] at ho; cases ho
  by_cases hj:j=i
  ·have hb:=new hj q s;have hk:k≠i:=λz=>hjk (hj.trans z.symm);obtain⟨q1,s1⟩:=old hk q' s';exact none q1 s1 hb
  ·obtain⟨q1,s1⟩:=old hj q s
   by_cases hk:k=i
   ·exact none q1 s1 (new hk q' s')
   ·obtain⟨q2,s2⟩:=old hk q' s';exact h.ne j k e e' b hjk q1 q2 s1 s2
def AbS.wr {G1:Hp}{i:Nat}{d d':D}{a:Addr}{o:HO}(h:AbS K mg H0 G0 G ρ σ H)(nw:∀a o,G1 a=some o->(∃u,G0 a=some u)\/H0 a=none)(g1:Same G G1)(g2:Same G1 H1)(g3:Same H H1)(hO:∀(j:Nat) (d':D) (a:Addr),ρ[j]? = some (B.o d')->σ[j]? = some (some (V.ref a))->G1 a=none)(hi:ρ[i]? = some (B.o d))(hs:σ[i]? = some (some (V.ref a)))
  (hw:z8v K mg G1 (upd H1 a o) a d'):AbS K mg H0 G0 G1 (ρ.set i (.o d')) σ (upd H1 a o):=by
 obtain⟨a',e1,ga,h0a,hw0⟩:=h.ow i d hi;rw[hs] at e1; cases e1;have hl:i < ρ.length:=(List.getElem?_eq_some_iff.mp hi).1;refine⟨by simp[h.len],λb u e =>?_,z0a h.g0 g1,λb u e =>?_,nw,λj e q =>?_,λj e q =>?_,λj k e e' b hjk q q' s s' =>?_⟩
 ·have hb:b≠a:=λz=>by rw[z,h0a] at e; cases e
  rw[z0o hb]; exact g3 b u (h.s0 b u e)
 ·have hb:b≠a:=λz=>by rw[z,hO i d a hi hs] at e; cases e
  rw[z0o hb]; exact g2 b u e
 ·by_cases hj:j=i
  ·subst hj;rw[List.getElem?_set_self hl] at q; cases q
  ·rw[List.getElem?_set_ne (Ne.symm hj)] at q;obtain⟨w,h1,h2⟩:=h.sh j e q;exact⟨w,h1,h2.same g1⟩
 ·by_cases hj:j=i
  ·subst hj;rw[List.getElem?_set_self hl] at q; cases q;exact⟨a,hs,hO j d a hi hs,h0a,hw⟩
  ·rw[List.getElem?_set_ne (Ne.symm hj)] at q;obtain⟨b,h1,h2,h3,h4⟩:=h.ow j e q;have hb:b≠a:=λz=>by subst z; exact h.ne j i e d b hj q hi h1 hs
   exact⟨b,h1,hO j e b q h1,h3,h4.same g1 (λu e=>by rw[z0o hb]; exact g3 b u e)⟩
 ·have old:∀{j:Nat}{e:D},(ρ.set i (.o d'))[j]? = some (B.o e)->∃e',ρ[j]? = some (B.o e'):=λ{j e} q=>by
   by_cases hj:j=i
   ·subst hj; exact⟨d,hi⟩
   ·rw[List.getElem?_set_ne (Ne.symm hj)] at q; exact⟨e,q⟩
  obtain⟨x,q1⟩:=old q;obtain⟨y,q2⟩:=old q';exact h.ne j k x y b hjk q1 q2 s s'
def AbS.dem1 (h:AbS K mg H0 G0 G ρ σ H)(j:Nat):∃G',AbS K mg H0 G0 G' (ρ.set j (demB ((ρ[j]?).getD .n))) σ H/\Same G G':=by
 cases q:ρ[j]? with
 | none=>
  have:ρ.set j (demB ((none:Option B).getD .n))=ρ:=by
   apply List.set_eq_of_length_le;exact List.getElem?_eq_none_iff.mp q
  rw[this];exact⟨G,h,Same.refl'⟩
 | some b=>
  have hl:j < ρ.length:=(List.getElem?_eq_some_iff.mp q).1;have same:∀b',b=b'->demB b'=b'->∃G',AbS K mg H0 G0 G' (ρ.set j (demB ((some b).getD .n))) σ H/\Same G G':=λb' e e'=>by
   subst e;have:ρ.set j (demB ((some b).getD .n))=ρ:=by
    show ρ.set j (demB b)=ρ;rw[e'];apply List.ext_getElem?;intro k
    by_cases hk:k=j
    ·subst hk; rw[List.getElem?_set_self hl,q]
    ·rw[List.getElem?_set_ne (Ne.symm hk)]
   rw[this];exact⟨G,h,Same.refl'⟩
  cases b with
  | n=>exact same .n rfl rfl
  | s d=>exact same (.s d) rfl rfl
  | o d=>
   obtain⟨a,s1,ga,h0a,hw⟩:=h.ow j d q;show ∃G',AbS K mg H0 G0 G' (ρ.set j (.s d)) σ H/\Same G G';have lp:Same G (plus G H (· = a)):=z4l (λb z=>by rw[z]; exact ga);refine⟨plus G H (· = a),⟨by simp[h.len],h.s0,z0a h.g0 lp,z65 h.g,λb o e=>(by
     by_cases hb:b=a
     ·exact .inr (by rw[hb]; exact h0a)
     ·unfold plus at e; rw[if_neg hb] at e; exact h.nw b o e),λk e z =>?_,λk e z =>?_,λk l e e' b hkl z z' s s' =>?_⟩,lp⟩
   ·by_cases hk:k=j
    ·subst hk;rw[List.getElem?_set_self hl] at z; cases z;exact⟨.ref a,s1,hw.rd lp (ze2 rfl)⟩
    ·rw[List.getElem?_set_ne (Ne.symm hk)] at z;obtain⟨w,h1,h2⟩:=h.sh k e z;exact⟨w,h1,h2.same lp⟩
   ·by_cases hk:k=j
    ·subst hk;rw[List.getElem?_set_self hl] at z; cases z
    ·rw[List.getElem?_set_ne (Ne.symm hk)] at z;obtain⟨b,h1,h2,h3,h4⟩:=h.ow k e z;have hb:b≠a:=λy=>by subst y; exact h.ne k j e d b hk z q h1 s1
     refine⟨b,h1,?_,h3,h4.same lp (λ_ e=>e)⟩;unfold plus;rw[if_neg hb]; exact h2
   ·have old:∀{k:Nat}{e:D},(ρ.set j (.s d))[k]? = some (B.o e)->ρ[k]? = some (B.o e):=λ{k e} z=>by
     by_cases hk:k=j
     ·subst hk; rw[List.getElem?_set_self hl] at z; cases z
     ·rw[List.getElem?_set_ne (Ne.symm hk)] at z; exact z
    exact h.ne k l e e' b hkl (old z) (old z') s s'
def AbS.dem (js:List Nat):∀{G:Hp}{ρ:Pu.Env},AbS K mg H0 G0 G ρ σ H->∃G',AbS K mg H0 G0 G' (dem js ρ) σ H/\Same G G':=by
 induction js with
 | nil=>intro G ρ h; exact⟨G,h,Same.refl'⟩
 | cons j js ih=>
  intro G ρ h;obtain⟨G1,h1,g1⟩:=h.dem1 j;obtain⟨G2,h2,g2⟩:=ih h1;exact⟨G2,h2,z0a g1 g2⟩
end
end Pu
namespace Pu
open PySem PySem.Spec PyProof.Rows L2
def Kn (K:W.Frag)(mg:Str->Option Value)(H0 G0 G:Hp)(N0:Pu.Env->Prop)(N:L2.St->Hp->Prop):Prop:=∀ρ' σ' H' G',N0 ρ'->AbS K mg H0 G0 G' ρ' σ' H'->Same G G'->N σ' H'
def Kr (K:W.Frag)(mg:Str->Option Value)(H0 G0:Hp)(R0:DK)(R:VK):Prop:=∀d v G' H',R0 d->Gr G0 H0 G'->Same G' H'->Same H0 H'->RD K mg G' d v->R v H'
def ts (K:W.Frag)(mg:Str->Option Value)(E:XK)(t:Sm):TS:=λD σ H=>∃H0 G0 G ρ N0 R0 X0,AbS K mg H0 G0 G ρ σ H/\t.run ρ N0 R0 X0/\Kn K mg H0 G0 G N0 D.nx/\Kr K mg H0 G0 R0 D.rt/\Kx mg H0 X0 E
def Kn.same {K:W.Frag}{mg:Str->Option Value}{H0 G0 G G1:Hp}{N0:Pu.Env->Prop}{N:L2.St->Hp->Prop}(h:Kn K mg H0 G0 G N0 N)(g:Same G G1):Kn K mg H0 G0 G1 N0 N:=λρ' σ' H' G' a b c=>h ρ' σ' H' G' a b (z0a g c)
abbrev QZ (X:Cx)(E:XK)(st:Stmt)(t:Sm):Prop:=QS X st (ts X.K X.mg E t)
abbrev QZs (X:Cx)(E:XK)(st:List Stmt)(t:Sm):Prop:=QSs X st (ts X.K X.mg E t)
section
variable {X:Cx}{E:XK}{st:Stmt}{rest body la lb:List Stmt}{t u:Sm}{e a b c:Expr}{x y z:Ex}{pos:Pos}
def z15:QZs X E [] .skip:=QSs.imp zhL λD σ H ⟨H0,G0,G,ρ,N0,R0,X0,ab,hr,hn,hR,hx⟩=>hn ρ σ H G hr ab Same.refl'
def z07 (h:QZ X E st t):QZs X E [st] t:=zhK h
def z05 (h:QZ X E st t)(h':QZs X E rest u):QZs X E (st::rest) (.seq t u):=QSs.imp (zfD h h') λD σ H ⟨H0,G0,G,ρ,N0,R0,X0,ab,hr,hn,hR,hx⟩=>
 ⟨H0,G0,G,ρ,λρ'=>u.run ρ' N0 R0 X0,R0,X0,ab,hr,λρ' σ' H' G' q ab' g=>⟨H0,G0,G',ρ',N0,R0,X0,ab',q,hn.same g,hR,hx⟩,hR,hx⟩
def ziV {K:W.Frag}{mg:Str->Option Value}{H0 G0 G H:Hp}{ρ:Pu.Env}{σ:L2.St}{Q0:DK}{X0:XP}{Q:VK}(ab:AbS K mg H0 G0 G ρ σ H)(hr:x.run ρ Q0 X0)(hx:Kx mg H0 X0 E)(hk:Kt K mg (plus G H (z3i ρ σ)) H Q0 Q):tx K mg E x σ H Q:=
 ⟨plus G H (z3i ρ σ),ρ,Q0,X0,z65 ab.g,ab.abe,hr,hk,hx.same ab.s0⟩
def AbS.back {K:W.Frag}{mg:Str->Option Value}{H0 G0 G G1 H H1:Hp}{ρ:Pu.Env}{σ:L2.St}(ab:AbS K mg H0 G0 G ρ σ H)(g1:Gr (plus G H (z3i ρ σ)) H G1)(g2:Same G1 H1)(g3:Same H H1):AbS K mg H0 G0 (minus G1 (z3i ρ σ)) ρ σ H1/\Same G (minus G1 (z3i ρ σ)):=by
 have hf:=ab.free;have lm:Same G (minus G1 (z3i ρ σ)):=z5s (z0a (z4l hf) g1.1) hf;exact⟨⟨ab.len,z0a ab.s0 g3,z0a ab.g0 lm,z0a z41 g2,λa o e=>ab.nw1 g1 a o (z41 a o e),λi d e=>by
   obtain⟨v,h1,h2⟩:=ab.sh i d e;exact⟨v,h1,h2.same lm⟩,λi d e=>by
   obtain⟨a,h1,h2,h3,h4⟩:=ab.ow i d e;exact⟨a,h1,z7w ⟨i,d,e,h1⟩,h3,h4.same lm (g3 a)⟩,ab.ne⟩,lm⟩
def ziW {K:W.Frag}{mg:Str->Option Value}{H0 G0 G H:Hp}{ρ:Pu.Env}{σ:L2.St}{A B:Prop}{X0:XP}{Q:Bool->Hp->Prop}(ab:AbS K mg H0 G0 G ρ σ H)(hr:x.run ρ (λd=>tst d A B) X0)(hx:Kx mg H0 X0 E)
  (ha:A->∀H' G',AbS K mg H0 G0 G' ρ σ H'->Same G G'->Q true H') (hb:B->∀H' G',AbS K mg H0 G0 G' ρ σ H'->Same G G'->Q false H'):tt K mg E x σ H Q:=by
 refine⟨plus G H (z3i ρ σ),ρ,_,X0,z65 ab.g,ab.abe,hr,λd G1 H1 q g1 g2 g3 =>?_,hx.same ab.s0⟩;obtain⟨b,rfl,q1,q2⟩:=za6 q;refine⟨b,rfl,?_⟩;obtain⟨ab',lm⟩:=ab.back g1 g2 g3
 cases b with
 | true=>exact ha (q1 rfl) H1 _ ab' lm
 | false=>exact hb (q2 rfl) H1 _ ab' lm
def z2h (hc:QXT X E c z)(ha:QZs X E la t)(hb:QZs X E lb u):QZ X E (.If c la lb pos) (.ifs z t u):=QS.imp (zlB hc ha hb) λD σ H ⟨H0,G0,G,ρ,N0,R0,X0,ab,hr,hn,hR,hx⟩=>by
 refine ziW ab hr hx (λq H' G' ab' g =>?_) (λq H' G' ab' g =>?_)
 ·exact iteT ⟨H0,G0,G',ρ,N0,R0,X0,ab',q,hn.same g,hR,hx⟩
 ·exact iteF ⟨H0,G0,G',ρ,N0,R0,X0,ab',q,hn.same g,hR,hx⟩
def z0e (he:QX X E e x):QZ X E (.Return (some e) pos) (.ret x):=QS.imp (zjB he) λD σ H ⟨H0,G0,G,ρ,N0,R0,X0,ab,hr,hn,hR,hx⟩=>
 ziV ab hr hx λd v G1 H1 q g1 g2 g3 rd=>hR d v G1 H1 q ⟨z0a ab.g0 (z0a (z4l ab.free) g1.1),ab.nw1 g1⟩ g2 (z0a ab.s0 g3) rd
def z5B (i:Nat)(ρ:Pu.Env)(σ:L2.St)(a:Addr):Prop:=∃(j:Nat) (d:D),j≠i/\ρ[j]? = some (B.o d)/\σ[j]? = some (some (V.ref a))
def z09 {i:Nat}{tg:Expr}(h:QS X (.Assign [tg] e pos) (tAsg (tx X.K X.mg E x) (z5l i))):QZ X E (.Assign [tg] e pos) (.set i x):=QS.imp h λD σ H ⟨H0,G0,G,ρ,N0,R0,X0,ab,hr,hn,hR,hx⟩=>
 ziV ab hr hx λd v G1 H1 q g1 g2 g3 rd=>by
  have hf:∀a,z5B i ρ σ a->G a=none:=λa ⟨j,d,_,h1,h2⟩=>ab.free a ⟨j,d,h1,h2⟩;have lm:Same G (minus G1 (z5B i ρ σ)):=z5s (z0a (z4l ab.free) g1.1) hf;exact hn (ρ.set i (.s d)) (σ.set i (some v)) H1 _ q.2 (ab.put (λa o e=>ab.nw1 g1 a o (z41 a o e)) lm (z0a z41 g2) g3 (λj d' a hj e s=>z7w ⟨j,d',hj,e,s⟩) (z8Z ab g2 g3 q.1 rd)) lm
def Kf (K:W.Frag)(mg:Str->Option Value)(G H:Hp)(Q0:DK)(Q:VK):Prop:=∀d a G' H',Q0 d->Gr G H G'->Same G' H'->Same H H'->H a=none->G' a=none->z8v K mg G' H' a d->Q (.ref a) H'
def tf (K:W.Frag)(mg:Str->Option Value)(E:XK)(e:Ex):TE:=λσ H Q=>∃G ρ Q0 X0,Same G H/\AbE K mg G ρ σ/\e.run ρ Q0 X0/\Kf K mg G H Q0 Q/\Kx mg H X0 E
abbrev QF (X:Cx)(E:XK)(e:Expr)(x:Ex):Prop:=QE X e (tf X.K X.mg E x)
def Kt.kf {K:W.Frag}{mg:Str->Option Value}{G H:Hp}{Q0:DK}{Q:VK}(h:Kt K mg G H Q0 Q):Kf K mg G H Q0 Q:=λd a G' H' q g1 g2 g3 hn gn hw=>by
 obtain⟨o,ho⟩:=hw.some;have lp:Same G' (upd G' a o):=z0G gn o;refine h d (.ref a) (upd G' a o) H' q ⟨z0a g1.1 lp,λb u e =>?_⟩ (λb u e =>?_) g3 (hw.rd lp (by rw[z0A]; exact ho.symm))
 ·by_cases hb:b=a
  ·subst hb; exact .inr hn
  ·rw[z0o hb] at e; exact g1.2 b u e
 ·by_cases hb:b=a
  ·subst hb; rw[z0A] at e; rw[ho]; exact e
  ·rw[z0o hb] at e; exact g2 b u e
def QF.qx (h:QF X E e x):QX X E e x:=QE.imp h λσ H Q ⟨G,ρ,Q0,X0,hs,ab,hr,hk,hx⟩=>⟨G,ρ,Q0,X0,hs,ab,hr,hk.kf,hx⟩
def z51 {i:Nat}{tg:Expr}(h:QS X (.Assign [tg] e pos) (tAsg (tf X.K X.mg E x) (z5l i))):QZ X E (.Assign [tg] e pos) (.own i x):=QS.imp h λD σ H ⟨H0,G0,G,ρ,N0,R0,X0,ab,hr,hn,hR,hx⟩=>by
 refine⟨plus G H (z3i ρ σ),ρ,_,X0,z65 ab.g,ab.abe,hr,λd a G1 H1 q g1 g2 g3 ha ga hw =>?_,hx.same ab.s0⟩;have hf:∀a,z5B i ρ σ a->G a=none:=λa ⟨j,d,_,h1,h2⟩=>ab.free a ⟨j,d,h1,h2⟩;have lm:Same G (minus G1 (z5B i ρ σ)):=z5s (z0a (z4l ab.free) g1.1) hf;have items:∀(l:List Pu.D) (xs:List V),(∀x∈l,Safe x (ρ.set i .n))->RDs X.K X.mg G1 l xs->RDs X.K X.mg (minus G1 (z5B i ρ σ)) l xs:=by
  intro l
  induction l with
  | nil=>intro xs _ h; rw[RDs] at h ⊢; exact h
  | cons y l ih=>
   intro xs hs h;rw[RDs] at h ⊢;obtain⟨v,r,h1,h2,h3⟩:=h;exact⟨v,r,h1,z8Z ab g2 g3 (hs y List.mem_cons_self) h2,ih r (λz hz=>hs z (List.mem_cons_of_mem _ hz)) h3⟩
 have na:minus G1 (z5B i ρ σ) a=none:=by
  unfold minus
  split
  ·rfl
  ·exact ga
 refine hn (ρ.set i (.o d)) (σ.set i (some (.ref a))) H1 _ q.2 (ab.own (λa o e=>ab.nw1 g1 a o (z41 a o e)) lm (z0a z41 g2) g3 (λj d' a hj e s=>z7w ⟨j,d',hj,e,s⟩) ha na ?_) lm;have q1:=q.1
 cases d with
 | lst l=>
  obtain⟨xs,h1,h2⟩:=hw;exact⟨xs,h1,items l xs q1 h2⟩
 | dct ks vs=>
  obtain⟨xs,h1,h2⟩:=hw;exact⟨xs,items vs xs q1 h1,h2⟩
 | _=>exact q1.elim
end
section
variable {X:Cx}{E:XK}{st:Stmt}{rest body la lb:List Stmt}{t u:Sm}{e a b c tg iter:Expr}{x y z:Ex}{pos:Pos}
def zc5 {o:Option (List D)}{Q:List D->Prop}(h:onL o Q):∃l,o=some l/\Q l:=by
 cases o with
 | none=>exact h.elim
 | some l=>exact⟨l,rfl,h⟩
def z4B (hp:PassesOwn (model X.prog X.w) X.A X.env X.xe)(hc:QXT X E c z)(hb:QZs X E body t):QZ X E (.While c body [] pos) (.wh z t):=QS.imp (zfE hp hc hb) λD σ H ⟨H0,G0,G,ρ,N0,R0,X0,ab,⟨n,hr⟩,hn,hR,hx⟩=>by
 refine⟨λm σ' H'=>∃G' ρ',AbS X.K X.mg H0 G0 G' ρ' σ' H'/\Same G G'/\wh z t N0 R0 X0 m ρ',⟨n,G,ρ,ab,Same.refl',hr⟩,?_⟩;rintro m σ1 H1 ⟨G1,ρ1,ab1,g1,h1⟩
 cases m with
 | zero=>exact h1.elim
 | succ m=>
  refine ziW ab1 h1 hx (λq H2 G2 ab2 g2 =>?_) (λq H2 G2 ab2 g2 =>?_)
  ·refine iteT ⟨λσ' H'=>∃G' ρ',AbS X.K X.mg H0 G0 G' ρ' σ' H'/\Same G G'/\wh z t N0 R0 X0 m ρ',λσ' H' w=>⟨m,Nat.lt_succ_self _,w⟩,?_⟩;exact⟨H0,G0,G2,ρ1,wh z t N0 R0 X0 m,R0,X0,ab2,q,λρ' σ' H' G' w ab' g'=>⟨G',ρ',ab',z0a g1 (z0a g2 g'),w⟩,hR,hx⟩
  ·exact iteF (hn ρ1 σ1 H2 G2 q ab2 (z0a g1 g2))
def Walk (K:W.Frag)(mg:Str->Option Value)(G:Hp)(l:List D)(J:It):Prop:=∀(i:Nat) (G1 H:Hp),Same G G1->Same G1 H->
 (∀d,l[i]? = some d->J.go i H/\∀v H',J.yld i H v H'->Same H H'/\∃G2,Gr G1 H G2/\Same G2 H'/\RD K mg G2 d v)/\(l.length<=i->J.stop i H)
def ti (K:W.Frag)(mg:Str->Option Value)(E:XK)(e:Ex):TI:=λσ H R=>∃G ρ Q0 X0,Same G H/\AbE K mg G ρ σ/\e.run ρ Q0 X0/\(∀d,Q0 d->∃l,items d=some l)/\(∀d G' H',Q0 d->Gr G H G'->Same G' H'->Same H H'->∀l J,items d=some l->Walk K mg G' l J->R J H')/\Kx mg H X0 E
abbrev QXI (X:Cx)(E:XK)(tg e:Expr)(x:Ex):Prop:=QI X tg e (ti X.K X.mg E x)
def tgt (K:W.Frag):Tg->TG
 | .nm i=>z5l i
 | .tp is=>gTup K is.length (is.foldr (λi r=>zd2 (z5l i) r) gNil)
def z6K {K:W.Frag}:∀(is:List Nat) (vs:List V) (σ:L2.St) (H:Hp) (Q:L2.St->Hp->Prop),is.length=vs.length->Q ((is.zip vs).foldl (λσ p=>σ.set p.1 (some p.2)) σ) H->(is.foldr (λi r=>zd2 (z5l i) r) gNil) vs σ H Q
 | [],[],_,_,_,_,q=>⟨rfl,q⟩
 | [],_::_,_,_,_,h,_=>by simp at h
 | _::_,[],_,_,_,h,_=>by simp at h
 | i::is,v::vs,σ,H,Q,h,q=>⟨v,vs,rfl,z6K (K:=K) is vs _ H Q (by simpa using h) q⟩
def AbS.putAll {K:W.Frag}{mg:Str->Option Value}{H0 G0 H:Hp}:∀(is:List Nat) (ds:List D) (vs:List V) {G:Hp}{ρ:Pu.Env}{σ:L2.St},is.length=ds.length->RDs K mg G ds vs->AbS K mg H0 G0 G ρ σ H->
  AbS K mg H0 G0 G (z0w is ds ρ) ((is.zip vs).foldl (λσ p=>σ.set p.1 (some p.2)) σ) H
 | [],[],vs,G,ρ,σ,_,h,ab=>by rw[RDs] at h; subst h; exact ab
 | [],_::_,_,_,_,_,h,_,_=>by simp at h
 | _::_,[],_,_,_,_,h,_,_=>by simp at h
 | i::is,d::ds,vs,G,ρ,σ,h,r,ab=>by
  rw[RDs] at r;obtain⟨v,vs',rfl,h1,h2⟩:=r;exact AbS.putAll is ds vs' (by simpa using h) h2 (ab.put ab.nw Same.refl' ab.g Same.refl' (λj d' a hj e s=>ab.free a ⟨j,d',e,s⟩) h1)
def zhm {K:W.Frag}{mg:Str->Option Value}{H0 G0 G H:Hp}{ρ:Pu.Env}{σ:L2.St}{tg:Tg}{d:D}{v:V}{N0:Pu.Env->Prop}{N:L2.St->Hp->Prop}(ab:AbS K mg H0 G0 G ρ σ H)(rd:RD K mg G d v)(hp:tg.put d ρ N0)(hn:∀ρ' σ',N0 ρ'->AbS K mg H0 G0 G ρ' σ' H->N σ' H):tgt K tg v σ H N:=by
 cases tg with
 | nm i=>exact hn _ _ hp (ab.put ab.nw Same.refl' ab.g Same.refl' (λj d' a hj e s=>ab.free a ⟨j,d',e,s⟩) rd)
 | tp is=>
  cases d with
  | tup ds=>
   obtain⟨hl,hp⟩:=hp;rw[RD] at rd;obtain⟨a,xs,rfl,h1,h2⟩:=rd;exact⟨a,xs,rfl,z1r ab.g h1,by rw[h2.len,hl],z6K (K:=K) is xs σ H N (by rw[h2.len,hl]) (hn _ _ hp (ab.putAll is ds xs hl h2))⟩
  | _=>exact hp.elim
def AbS.over {K:W.Frag}{mg:Str->Option Value}{H0 G0 G G2 H H2:Hp}{ρ:Pu.Env}{σ:L2.St}(ab:AbS K mg H0 G0 G ρ σ H)(g2:Gr G H G2)(k2:Same G2 H2)(s2:Same H H2):AbS K mg H0 G0 G2 ρ σ H2 where
 len:=ab.len
 s0:=z0a ab.s0 s2
 g0:=z0a ab.g0 g2.1
 g:=k2
 nw:=ab.nw2 g2
 sh:=λi d e=>by
  obtain⟨v,h1,h2⟩:=ab.sh i d e;exact⟨v,h1,h2.same g2.1⟩
 ow:=λi d e=>by
  obtain⟨a,h1,h2,h3,h4⟩:=ab.ow i d e;refine⟨a,h1,?_,h3,h4.same g2.1 (s2 a)⟩
  cases z:G2 a with
  | none=>rfl
  | some o=>
   obtain⟨u,hu⟩:=h4.some
   rcases g2.2 a o z with ⟨w,q⟩ | q
   ·rw[h2] at q; cases q
   ·rw[hu] at q; cases q
 ne:=ab.ne
def z8i {K:W.Frag}{mg:Str->Option Value}{H0 G0 G H:Hp}{ρ:Pu.Env}{σ:L2.St}{l:List D}{J:It}{tg:Tg}{N0:Pu.Env->Prop}{R0:DK}{X0:XP}{De:Ends}(ab:AbS K mg H0 G0 G ρ σ H)(hw:Walk K mg G l J)(hr:forL tg t N0 R0 X0 l ρ)
  (hn:Kn K mg H0 G0 G N0 De.nx) (hR:Kr K mg H0 G0 R0 De.rt) (hx:Kx mg H0 X0 E):
  ∃W:Nat->Nat->L2.St->Hp->Prop,(∃m,W 0 m σ H)/\∀i m σ H,W i m σ H->
   (J.stop i H/\De.nx σ H)\/(J.go i H/\∃N:L2.St->Hp->Prop,(∀σ' H',N σ' H'->∃m',m'<m/\W (i+1) m' σ' H')/\∀x H',J.yld i H x H'->tgt K tg x σ H' λσ2 H2=>ts K mg E t { De with nx:=N,ct:=N,bk:=De.nx } σ2 H2):=by
 refine⟨λi m σ H=>m=l.length - i/\i<=l.length/\∃G1 ρ1,AbS K mg H0 G0 G1 ρ1 σ H/\Same G G1/\forL tg t N0 R0 X0 (l.drop i) ρ1,⟨l.length,by simp,Nat.zero_le _,G,ρ,ab,Same.refl',by simpa using hr⟩,?_⟩;rintro i m σ1 H1 ⟨rfl,hi,G1,ρ1,ab1,g1,h1⟩;obtain⟨w1,w2⟩:=hw i G1 H1 g1 ab1.g
 by_cases hlt:i<l.length
 ·have e:l[i]? = some l[i]:=by simp[hlt]
  obtain⟨go,yl⟩:=w1 _ e;rw[List.drop_eq_getElem_cons hlt] at h1;refine .inr ⟨go,λσ' H'=>∃G2 ρ2,AbS K mg H0 G0 G2 ρ2 σ' H'/\Same G G2/\forL tg t N0 R0 X0 (l.drop (i+1)) ρ2,λσ' H' w=>⟨l.length - (i+1),by omega,rfl,hlt,w⟩,λv H2 y =>?_⟩;obtain⟨s2,G2,g2,k2,rd⟩:=yl v H2 y;have ab2:=ab1.over g2 k2 s2;refine zhm ab2 rd h1 λρ3 σ3 hb ab3 =>?_;exact⟨H0,G0,G2,ρ3,_,R0,X0,ab3,hb,λρ' σ' H' G' w ab' g'=>⟨G',ρ',ab',z0a g1 (z0a g2.1 g'),w⟩,hR,hx⟩
 ·have e:i=l.length:=by omega
  subst e;rw[List.drop_length] at h1;exact .inl ⟨w2 (Nat.le_refl _),hn ρ1 σ1 H1 G1 h1 ab1 g1⟩
def z52 {js:List Nat}{g:Tg}(hp:PassesOwn (model X.prog X.w) X.A X.env X.xe)(hc:X.calm=true)(hi:QXI X E tg iter x)(hg:QG X tg (tgt X.K g))(hb:QZs X E body t)(hs:∀x,foldedSetIterable iter X.env x=pure x:=by intro _; rfl):
  QZ X E (.For tg iter body [] pos) (.for_ js g x t):=QS.imp (zgT hp hc hi hg hb hs) λD σ H ⟨H0,G0,G,ρ,N0,R0,X0,ab,hr,hn,hR,hx⟩=>by
 obtain⟨G',ab',g'⟩:=ab.dem js;refine⟨G',vis (dem js ρ),_,X0,ab'.g,ab'.vis,hr,λd q=>(zc5 q).imp λ_ z=>z.1,λd G1 H1 q g1 g2 g3 l J el hw =>?_,hx.same ab.s0⟩;have q':onL (items d) λl=>forL g t N0 R0 X0 l (dem js ρ):=q;rw[el] at q';exact z8i (E:=E) (ab'.over g1 g2 g3) hw q' (hn.same (z0a g' g1.1)) hR hx
def z5o {K:W.Frag}{mg:Str->Option Value}{G:Hp}{lo:Int}{n:Nat}:Walk K mg G ((List.range n).map λ(k:Nat)=>D.int (lo+(k:Int))) (Itr lo n):=λi G1 H g1 g2=>by
 refine⟨λd e =>?_,λhi=>(show n<=i by simpa using hi)⟩;obtain⟨h,e'⟩:=List.getElem?_eq_some_iff.mp e;have hi:i<n:=by simpa using h
 refine⟨hi,λv H' y =>?_⟩;obtain⟨rfl,rfl⟩:=y;refine⟨Same.refl',G1,Gr.refl,g2,?_⟩;rw[<- e'];simp only[List.getElem_map,List.getElem_range];rw[RD]
def z94:Fn:=⟨λds Q _=>onR ds λl=>Q (.lst l),λds Q Q' X X' m _ q=>zc4 (λ_ q=>m _ q) q⟩
def z0Y {K:W.Frag}{mg:Str->Option Value}{G:Hp}{i:Int}{v:V}(h:RD K mg G (.int i) v):v = .int i:=by rw[RD] at h; exact h
def rds1 {K:W.Frag}{mg:Str->Option Value}{G:Hp}{d:D}{vs:List V}(h:RDs K mg G [d] vs):∃v,vs=[v]/\RD K mg G d v:=by
 rw[RDs] at h;obtain⟨x,r,rfl,h1,h2⟩:=h;rw[RDs] at h2;subst h2;exact⟨x,rfl,h1⟩
def rds2 {K:W.Frag}{mg:Str->Option Value}{G:Hp}{d e:D}{vs:List V}(h:RDs K mg G [d,e] vs):∃v w,vs=[v,w]/\RD K mg G d v/\RD K mg G e w:=by
 rw[RDs] at h;obtain⟨x,r,rfl,h1,h2⟩:=h;obtain⟨y,rfl,h3⟩:=rds1 h2;exact⟨x,y,rfl,h1,h3⟩
def zc3 {K:W.Frag}{mg:Str->Option Value}{G:Hp}{ds:List D}{vs:List V}{Kk:List D->Prop}(rds:RDs K mg G ds vs)(h:onR ds Kk):
  (∃j:Int,vs=[.int j] /\ -(2 ^ 62)<=j/\j<2 ^ 62/\Kk ((List.range j.toNat).map λ(k:Nat)=>D.int (0+(k:Int))))\/∃i j:Int,vs=[.int i,.int j]/\(-(2 ^ 62)<=i/\i<2 ^ 62 /\ -(2 ^ 62)<=j/\j<2 ^ 62)/\Kk ((List.range (j - i).toNat).map λ(k:Nat)=>D.int (i+(k:Int))):=by
 unfold onR at h
 split at h
 ·obtain⟨v,rfl,r1⟩:=rds1 rds;refine .inl ⟨_,by rw[z0Y r1],h.1.1,h.1.2,?_⟩;simpa using h.2
 ·obtain⟨v,w,rfl,r1,r2⟩:=rds2 rds;exact .inr ⟨_,_,by rw[z0Y r1,z0Y r2],⟨h.1.1.1,h.1.1.2,h.1.2.1,h.1.2.2⟩,h.2⟩
 ·exact h.elim
def zfl {K:W.Frag}{mg:Str->Option Value}{es:List Ex}{σ:L2.St}{H:Hp}{R:It->Hp->Prop}(h:ti K mg E (.op z94 es) σ H R):txa K mg E es σ H λvs H1=>(∃j:Int,vs=[.int j] /\ -(2 ^ 62)<=j/\j<2 ^ 62/\R (Itr 0 j.toNat) H1)\/∃i j:Int,vs=[.int i,.int j]/\(-(2 ^ 62)<=i/\i<2 ^ 62 /\ -(2 ^ 62)<=j/\j<2 ^ 62)/\R (Itr i (j - i).toNat) H1:=by
 obtain⟨G,ρ,Q0,X0,hs,ab,hr,_,hk,hx⟩:=h;refine⟨G,ρ,λds=>z94.run ds Q0 X0,X0,hs,ab,hr,λds vs G1 H1 q g1 g2 g3 rds =>?_,hx⟩
 rcases zc3 rds (show onR ds (λl=>Q0 (.lst l)) from q) with ⟨j,e,h1,h2,q'⟩ | ⟨i,j,e,h1,q'⟩
 ·exact .inl ⟨j,e,h1,h2,hk _ G1 H1 q' g1 g2 g3 _ _ rfl z5o⟩
 ·exact .inr ⟨i,j,e,h1,hk _ G1 H1 q' g1 g2 g3 _ _ rfl z5o⟩
def zdl {K:W.Frag}{mg:Str->Option Value}{es:List Ex}{n:Nat}{σ:L2.St}{H:Hp}{Q Q':List V->Hp->Prop}(hl:es.length=n)(m:∀vs H1,vs.length=n->Q vs H1->Q' vs H1)(h:txa K mg E es σ H Q):txa K mg E es σ H Q':=by
 obtain⟨G,ρ,Q0,X0,hs,ab,hr,hk,hx⟩:=h;have len:∀(es:List Ex) (Q:List D->Prop),runs es ρ Q X0->runs es ρ (λds=>ds.length=es.length/\Q ds) X0:=by
  intro es
  induction es with
  | nil=>intro Q h; exact⟨rfl,h⟩
  | cons e es ih=>
   intro Q h;exact e.mono ρ _ _ X0 X0 (λd q=>z4u es ρ _ _ X0 X0 (λds q=>⟨by simp[q.1],q.2⟩) (λ_ z=>z) (ih _ q)) (λ_ z=>z) h
 exact⟨G,ρ,_,X0,hs,ab,len es Q0 hr,λds vs G1 H1 q g1 g2 g3 rds=>m vs H1 (by rw[rds.len,q.1,hl]) (hk ds vs G1 H1 q.2 g1 g2 g3 rds),hx⟩
def z91 {p:Pos}(hg:Gl X "range")(hm:X.mg "range"=none)(ha:QXA X E [a] [x])(hs:starEach [a] X.env=[(false,eval a X.env)]:=by rfl):QXI X E tg (.Call (.Name "range" p) [a] [] pos) (.op z94 [x]):=QI.imp (zaf hg hm ha hs) λσ H R h=>
 zdl (n:=1) rfl (λvs H1 hl q=>by
  rcases q with q | ⟨i,j,e,_⟩
  ·exact q
  ·rw[e] at hl; simp at hl) (zfl h)
def zhG {g:Tg}{es:List Ex}{wi:TI}(hp:PassesOwn (model X.prog X.w) X.A X.env X.xe)(hc:X.calm=true)(hg:QG X tg (tgt X.K g))(hb:QZs X E body t)
  (hri:∀σ H R,(txa X.K X.mg E es σ H λvs H1=>(∃j:Int,vs=[.int j] /\ -(2 ^ 62)<=j/\j<2 ^ 62/\R (Itr 0 j.toNat) H1)\/∃i j:Int,vs=[.int i,.int j]/\(-(2 ^ 62)<=i/\i<2 ^ 62 /\ -(2 ^ 62)<=j/\j<2 ^ 62)/\R (Itr i (j - i).toNat) H1)->wi σ H R) (hi':QI X tg iter wi)
  (hs:∀x,foldedSetIterable iter X.env x=pure x:=by intro _; rfl):
  QZ X E (.For tg iter body [] pos) (.forr es g t):=QS.imp (zgT hp hc hi' hg hb hs) λDe σ H ⟨H0,G0,G,ρ,N0,R0,X0,ab,hr,hn,hR,hx⟩=>by
 refine hri σ H _ ⟨plus G H (z3i ρ σ),ρ,λds=>onR ds λl=>forL g t N0 R0 X0 l ρ,X0,z65 ab.g,ab.abe,hr,λds vs G1 H1 q g1 g2 g3 rds =>?_,hx.same ab.s0⟩;obtain⟨ab',lm⟩:=ab.back g1 g2 g3
 rcases zc3 rds q with ⟨j,e,h1,h2,q'⟩ | ⟨i,j,e,h1,q'⟩
 ·exact .inl ⟨j,e,h1,h2,z8i (E:=E) ab' z5o q' (hn.same lm) hR hx⟩
 ·exact .inr ⟨i,j,e,h1,z8i (E:=E) ab' z5o q' (hn.same lm) hR hx⟩
def z7u {g:Tg}{p pos2:Pos}(hp:PassesOwn (model X.prog X.w) X.A X.env X.xe)(hc:X.calm=true)(hgr:Gl X "range")(hm:X.mg "range"=none)(ha:QXA X E [a] [x])(hg:QG X tg (tgt X.K g))(hb:QZs X E body t)(hst:starEach [a] X.env=[(false,eval a X.env)]:=by rfl)
  (hs:∀x,foldedSetIterable (.Call (.Name "range" p) [a] [] pos2) X.env x=pure x:=by intro _; rfl):QZ X E (.For tg (.Call (.Name "range" p) [a] [] pos2) body [] pos) (.forr [x] g t):=
 zhG hp hc hg hb (λσ H R h=>zdl (n:=1) rfl (λvs H1 hl q=>by
  rcases q with q | ⟨i,j,e,_⟩
  ·exact q
  ·rw[e] at hl; simp at hl) h) (zaf hgr hm ha hst) hs
def iAny (K:W.Frag)(tl:TE):TI:=λσ H R=>tl σ H λx H1=>(∃a,x = .ref a/\(∃xs,SqL K H1 a xs)/\R (Itl K a) H1)\/(∃a,x = .ref a/\(∃xs,SqT K H1 a xs)/\R (Itt K a) H1)\/∃y,x = .str y/\R (Its y) H1
def zjE {l:Expr}{tl:TE}(hl:QE X l tl):QI X tg l (iAny X.K tl):=by
 constructor
 intro pins s σ H R I h;refine thn (hl.p pins s σ H _ I h) λv s1 ⟨x,H1,I1,r1,q1⟩ =>?_;have fp:∀b∈[s1.heap.objs.size],FpOk X pins H1 b:=λb hb=>by
  have e:b=s1.heap.objs.size:=by simpa using hb
  subst e;exact I1.fpOk (Nat.le_refl _) (I1.hok.fresh (Nat.le_refl _))
 rcases q1 with ⟨a,e,⟨xs,hq⟩,q⟩ | ⟨a,e,⟨xs,hq⟩,q⟩ | ⟨y,rfl,q⟩
 ·subst e
  cases r1
  obtain⟨its,rv,p,hz⟩:=I1.list hq;refine wpAny_pyIter_list p.isList ?_;exact⟨s1.heap.objs.size,[s1.heap.objs.size],_,_,H1,rfl,I1.kept (t':=s1.toks) λb o e=>Heap.get?_push_of_some _ e,zdo a _,⟨_,Heap.get?_push_size _ rfl,rfl,rfl⟩,fp,q⟩
 ·subst e
  cases r1
  obtain⟨its,rv,p,hz⟩:=I1.tuple hq;refine wpAny_pyIter_tuple (show s1.heap.IsTuple a its.toArray from p) ?_;exact⟨s1.heap.objs.size,[s1.heap.objs.size],_,_,H1,rfl,I1.kept (t':=s1.toks) λb o e=>Heap.get?_push_of_some _ e,zcx a _,⟨_,Heap.get?_push_size _ rfl,rfl,rfl⟩,fp,q⟩
 ·obtain⟨t,rfl⟩:=r1
  cases ha:y.cps.all (· < 128)
  ·exact wpAny_pyIter_wide ha ⟨s1.heap.objs.size,[s1.heap.objs.size],_,_,H1,rfl,I1.kept (t':=s1.toks) λb o e=>Heap.get?_push_of_some _ e,zbK y t _ (by decide) (λA' hA=>Walks.strWide hA _ y t) (λA i s Q E st h=>wpAny_pyIter_striter_wide st h),⟨Nat.zero_le _,_,Heap.get?_push_size _ rfl,rfl,rfl⟩,fp,q⟩
  ·exact wpAny_pyIter_ascii ha ⟨s1.heap.objs.size,[s1.heap.objs.size],_,_,H1,rfl,I1.kept (t':=s1.toks) λb o e=>Heap.get?_push_of_some _ e,zbK y t _ (by decide) (λA' hA=>Walks.strAscii hA _ y t) (λA i s Q E st h=>wpAny_pyIter_striter_ascii st h),⟨Nat.zero_le _,_,Heap.get?_push_size _ rfl,rfl,rfl⟩,fp,q⟩
def zdi {K:W.Frag}{mg:Str->Option Value}{G:Hp}{a:Addr}{xs:List V}{l:List D}(h:SqL K G a xs)(r:RDs K mg G l xs):Walk K mg G l (Itl K a):=λi G1 H g1 g2=>by
 have hH:=z2q (z0a g1 g2) h;refine⟨λd e =>?_,λhi=>⟨xs,hH,by rw[r.len]; exact hi⟩⟩;obtain⟨v,ev,rv⟩:=r.get e;refine⟨⟨xs,v,hH,ev⟩,λv' H' y =>?_⟩;obtain⟨rfl,y⟩:=y;have:=y xs hH;rw[ev] at this
 cases this
 exact⟨Same.refl',G1,Gr.refl,g2,rv.same g1⟩
def zfg {K:W.Frag}{mg:Str->Option Value}{G:Hp}{a:Addr}{xs:List V}{l:List D}(h:SqT K G a xs)(r:RDs K mg G l xs):Walk K mg G l (Itt K a):=λi G1 H g1 g2=>by
 have hH:=z1r (z0a g1 g2) h;refine⟨λd e =>?_,λhi=>⟨xs,hH,by rw[r.len]; exact hi⟩⟩;obtain⟨v,ev,rv⟩:=r.get e;refine⟨⟨xs,v,hH,ev⟩,λv' H' y =>?_⟩;obtain⟨rfl,y⟩:=y;have:=y xs hH;rw[ev] at this
 cases this
 exact⟨Same.refl',G1,Gr.refl,g2,rv.same g1⟩
def zfh {K:W.Frag}{mg:Str->Option Value}{G:Hp}{y:Str}:Walk K mg G (y.cps.toList.map λc =>.str ⟨#[c]⟩) (Its y):=λi G1 H g1 g2=>by
 refine⟨λd e =>?_,λhi=>(show y.cps.size<=i by simpa using hi)⟩;rw[List.getElem?_map] at e
 cases q:y.cps.toList[i]? with
 | none=>rw[q] at e; cases e
 | some c=>
  rw[q] at e
  cases e
  have hi:i<y.cps.size:=by
   have:=(List.getElem?_eq_some_iff.mp q).1;simpa using this
  refine⟨hi,λv H' yl =>?_⟩;obtain⟨rfl,c',ec,rfl⟩:=yl;have:c'=c:=by
   have q':y.cps[i]? = some c:=by simpa using q
   rw[q'] at ec; exact(Option.some.inj ec).symm
  subst this;exact⟨Same.refl',G1,Gr.refl,g2,by rw[RD]⟩
def qi_x (h:QX X E iter x):QXI X E tg iter x:=QI.imp (zjE h) λσ H R ⟨G,ρ,Q0,X0,hs,ab,hr,hz,hk,hx⟩=>by
 refine⟨G,ρ,Q0,X0,hs,ab,hr,λd v G1 H1 q g1 g2 g3 rd =>?_,hx⟩
 cases d with
 | lst l=>
  rw[RD] at rd;obtain⟨a,xs,rfl,h1,h2⟩:=rd;exact .inl ⟨a,rfl,⟨xs,z2q g2 h1⟩,hk _ G1 H1 q g1 g2 g3 l _ rfl (zdi h1 h2)⟩
 | tup l=>
  rw[RD] at rd;obtain⟨a,xs,rfl,h1,h2⟩:=rd;exact .inr (.inl ⟨a,rfl,⟨xs,z1r g2 h1⟩,hk _ G1 H1 q g1 g2 g3 l _ rfl (zfg h1 h2)⟩)
 | str y=>
  rw[RD] at rd;subst rd;exact .inr (.inr ⟨y,rfl,hk _ G1 H1 q g1 g2 g3 _ _ rfl zfh⟩)
 | _=>
  obtain⟨l,e⟩:=hz _ q
  cases e
end
section
variable {K:W.Frag}{mg:Str->Option Value}{H0 G0 G G1 H H1:Hp}{ρ:Pu.Env}{σ:L2.St}{i:Nat}
def z7M {Kk:List D->Prop}(h:ownL ρ i Kk):∃l,ρ[i]? = some (B.o (.lst l))/\Kk l:=by
 unfold ownL at h
 split at h
 ·rename_i l e; exact⟨l,e,h⟩
 ·exact h.elim
def zfU:(λa=>∃(j:Nat) (d:D),True/\ρ[j]? = some (B.o d)/\σ[j]? = some (some (V.ref a)))=z3i ρ σ:=by
 funext a
 exact propext ⟨λ⟨j,d,_,h⟩=>⟨j,d,h⟩,λ⟨j,d,h⟩=>⟨j,d,trivial,h⟩⟩
def z8Y {d:D}{v:V}(h:AbS K mg H0 G0 G ρ σ H)(g2:Same G1 H1)(g3:Same H H1)(sf:Safe d ρ)(rd:RD K mg G1 d v):RD K mg (minus G1 (z3i ρ σ)) d v:=by
 have:=zbc h g2 g3 sf rd;rw[zfU] at this;exact this
def AbS.wrB {l l':List D}{a:Addr}{ys:List V}(ab:AbS K mg H0 G0 G ρ σ H)(g1:Gr (plus G H (z3i ρ σ)) H G1)(g2:Same G1 H1)(g3:Same H H1)(hi:ρ[i]? = some (B.o (.lst l)))(hs:σ[i]? = some (some (V.ref a)))(hr:RDs K mg (minus G1 (z3i ρ σ)) l' ys):
  AbS K mg H0 G0 (minus G1 (z3i ρ σ)) (ρ.set i (.o (.lst l'))) σ (upd H1 a (.lst ys))/\Same G (minus G1 (z3i ρ σ)):=by
 have lm:Same G (minus G1 (z3i ρ σ)):=z5s (z0a (z4l ab.free) g1.1) ab.free;exact⟨ab.wr (λa o e=>ab.nw1 g1 a o (z41 a o e)) lm (z0a z41 g2) g3 (λj d' a e s=>z7w ⟨j,d',e,s⟩) hi hs ⟨ys,z0A,hr⟩,lm⟩
end
section
variable {X:Cx}{E:XK}{st:Stmt}{t:Sm}{e o tg:Expr}{x y z:Ex}{pos cpos apos:Pos}{i j:Nat}
def z6p (ho:QE X o (tVar i))(ha:QXA X E [e] [x])
  (hs:swapsWith (.Call (.Attribute o "append" apos) [e] [] cpos) none pos.line X.env=pure false:=by rfl)
  (hbase:attributeBase o "append" X.env (eval o X.env)=eval o X.env:=by rfl)
  (hfew:((backTo cpos (starEach [e] X.env)).all (λx => !x.1) && (backToKw cpos (keywordEach [] X.env)).all (λx=>x.1.isSome)
   && decide ([e].length+([]:List Keyword).length+(if ([]:List Keyword).isEmpty then 0 else 1)<30))=true:=by rfl)
  (hline:(apos.endLine == cpos.line)=true:=by rfl) (hst:starEach [e] X.env=(false,eval e X.env)::starEach [] X.env:=by rfl) (hplain:(backTo cpos (starEach [] X.env)).any (·.1)=false:=by rfl):
  QZ X E (.Expr (.Call (.Attribute o "append" apos) [e] [] cpos) pos) (.app i x):=
 QS.imp (zdT (zlG PySem.F.plainAttrs_list PySem.F.slot_list_append PySem.F.type_list_append z8L ho ha hbase hfew hline hst hplain) hs) λDe σ H ⟨H0,G0,G,ρ,N0,R0,X0,ab,hr,hn,hR,hx⟩=>by
  obtain⟨l,hl,hr⟩:=z7M hr;obtain⟨a,s1,ga,h0,xs,hw,hrd⟩:=ab.ow i _ hl;refine⟨.ref a,s1,.inl ⟨rfl,xs,SqL.of hw⟩,?_⟩;refine⟨plus G H (z3i ρ σ),ρ,λds=>∃d,ds=[d]/\l.length<sizeLine/\Safe d ρ/\N0 (ρ.set i (.o (.lst (l++[d])))),X0,z65 ab.g,ab.abe,x.mono ρ _ _ X0 X0 (λd q=>⟨d,rfl,q⟩) (λ_ z=>z) hr,?_,hx.same ab.s0⟩;rintro ds vs G1 H1 ⟨d,rfl,hsz,sf,hN⟩ g1 g2 g3 rds;obtain⟨v,rfl,rd⟩:=rds1 rds;refine⟨a,xs,v,rfl,rfl,g3 _ _ hw,by rw[hrd.len]; exact hsz,?_⟩;have lm:Same G (minus G1 (z3i ρ σ)):=z5s (z0a (z4l ab.free) g1.1) ab.free;obtain⟨ab',g'⟩:=ab.wrB (i:=i) (l':=l++[d]) (ys:=xs++[v]) g1 g2 g3 hl s1 ((hrd.same lm).app (RDs.cons (z8Y ab g2 g3 sf rd) RDs.nil));exact hn _ σ _ _ hN ab' g'
def RDs.last {K:W.Frag}{mg:Str->Option Value}{G:Hp}{l:List D}{xs:List V}(h:RDs K mg G l xs):RDs K mg G l.dropLast xs.dropLast:=by
 rw[List.dropLast_eq_take,List.dropLast_eq_take,h.len];exact h.take _
def ze0 {l:List D}{Kk:List D->D->Prop}(h:popL l Kk):∃d,l[l.length - 1]? = some d/\Kk l.dropLast d:=by
 unfold popL at h
 split at h
 ·rename_i d e; exact⟨d,e,h⟩
 ·exact h.elim
def ziN {K:W.Frag}{mg:Str->Option Value}{H0 G0 G H:Hp}{ρ:Pu.Env}{σ:L2.St}{l l':List D}{a:Addr}{ys:List V}(ab:AbS K mg H0 G0 G ρ σ H)(hi:ρ[i]? = some (B.o (.lst l)))(hs:σ[i]? = some (some (V.ref a)))(hr:RDs K mg G l' ys):AbS K mg H0 G0 G (ρ.set i (.o (.lst l'))) σ (upd H a (.lst ys)):=
 ab.wr ab.nw Same.refl' ab.g Same.refl' (λj d' a e s=>ab.free a ⟨j,d',e,s⟩) hi hs ⟨ys,z0A,hr⟩
def zgO (ho:QE X o (tVar i))(hs:swapsWith (.Call (.Attribute o "pop" apos) [] [] cpos) none pos.line X.env=pure false:=by rfl)(hbase:attributeBase o "pop" X.env (eval o X.env)=eval o X.env:=by rfl)(hline:(apos.endLine == cpos.line)=true:=by rfl):
  QZ X E (.Expr (.Call (.Attribute o "pop" apos) [] [] cpos) pos) (.pop i):=
 QS.imp (zdT (zjO PySem.F.plainAttrs_list PySem.F.slot_list_pop PySem.F.type_list_pop zkL ho hbase hline) hs) λDe σ H ⟨H0,G0,G,ρ,N0,R0,X0,ab,hr,hn,hR,hx⟩=>by
  obtain⟨l,hl,hr⟩:=z7M hr;obtain⟨d,hd,hN⟩:=ze0 hr;obtain⟨a,s1,ga,h0,xs,hw,hrd⟩:=ab.ow i _ hl;refine⟨.ref a,s1,.inl ⟨rfl,xs,SqL.of hw⟩,?_⟩;obtain⟨v,hv,rv⟩:=hrd.get hd;exact⟨a,xs,v,rfl,rfl,hw,by rw[hrd.len]; exact hv,hn _ σ _ G hN (ziN ab hl s1 hrd.last) Same.refl'⟩
def z9M {d:D}{Kk:Int->Prop}(h:isI d Kk):∃k,d = .int k/\Kk k:=by
 cases d with
 | int k=>exact⟨k,rfl,h⟩
 | _=>exact h.elim
def zfX {o:Option Nat}{Kk:Nat->Prop}(h:onN o Kk):∃k,o=some k/\Kk k:=by
 cases o with
 | none=>exact h.elim
 | some k=>exact⟨k,rfl,h⟩
def zdQ {k:Expr}{p2:Pos}(ho:QE X o (tVar i))(hk:QX X E k y)(he:QX X E e x)(h:∀{te:TE}{g:TG},QE X e te->QG X (.Subscript o k p2) g->QS X (.Assign [.Subscript o k p2] e pos) (tAsg te g))
  (ha:∀v,assign (.Subscript o k p2) X.env v=(do
   let ov <- holding [v] (eval o X.env)
   let iv <- holding [v,ov] (eval k X.env)
   standAt p2
   holding [v,ov,iv] (setItem ov iv v)
   release [v,ov,iv] []):=by intro _; rfl):QZ X E (.Assign [.Subscript o k p2] e pos) (.put i y x):=
 QS.imp (h he ⟨zk2 ho.p hk.p zfr ha⟩) λDe σ H ⟨H0,G0,G,ρ,N0,R0,X0,ab,hr,hn,hR,hx⟩=>by
  obtain⟨l,hl,hr⟩:=z7M hr;obtain⟨a,s1,ga,h0,xs,hw,hrd⟩:=ab.ow i _ hl;refine⟨plus G H (z3i ρ σ),ρ,_,X0,z65 ab.g,ab.abe,hr,λd v G1 H1 q g1 g2 g3 rd =>?_,hx.same ab.s0⟩;obtain⟨sf,q⟩:=q;refine⟨.ref a,s1,?_⟩;refine⟨G1,ρ,_,X0,g2,ab.abe.same g1.1,q,λkd kv G2 H2 q' k1 k2 k3 rk =>?_,hx.same (z0a ab.s0 g3)⟩;obtain⟨kk,rfl,q'⟩:=z9M q';obtain⟨jj,ej,hN⟩:=zfX q';have g12:Gr (plus G H (z3i ρ σ)) H G2:=g1.trans g3 k1;have g33:Same H H2:=z0a g3 k3;have lm:Same G (minus G2 (z3i ρ σ)):=z5s (z0a (z4l ab.free) g12.1) ab.free;refine⟨a,xs,kk,jj,rfl,z0Y rk,g33 _ _ hw,by rw[hrd.len]; exact ej,?_⟩;obtain⟨ab',g'⟩:=ab.wrB (i:=i) (l':=l.set jj d) (ys:=xs.set jj v) g12 k2 g33 hl s1 (RDs.set (z8Y ab k2 g33 sf (rd.same k1.1)) jj (hrd.same lm));exact hn _ σ _ _ hN ab' g'
end
section
variable {P:Program}{w:World}{K:W.Frag}{mg:Str->Option Value}{base:Heap}{N:List Str}{qual:Str}{f:Addr}
def zfo {G H:Hp}{ds:List D}{vs:List V}{np nn:Nat}(hs:Same G H)(r:RDs K mg G ds vs)(hl:ds.length=np)(hN:N.length=nn):AbS K mg H G G (ds.map B.s++List.replicate (nn - np) .n) (L2.z3r N vs) H:=by
 have hn:∀(i:Nat) (b:B),(ds.map B.s++List.replicate (nn - np) .n)[i]? = some b->(∃d,b = .s d/\ds[i]? = some d)\/b = .n:=λi b e=>by
  by_cases hi:i<ds.length
  ·rw[List.getElem?_append_left (by simpa using hi),List.getElem?_map] at e;rw[List.getElem?_eq_getElem hi] at e ⊢
   cases e
   exact .inl ⟨_,rfl,rfl⟩
  ·rw[List.getElem?_append_right (by simpa using hi)] at e;have:=List.getElem?_eq_some_iff.mp e;obtain⟨h1,h2⟩:=this;simp at h2;exact .inr h2.symm
 refine⟨?_,Same.refl',Same.refl',hs,λa o e =>.inl ⟨o,e⟩,λi d e =>?_,λi d e =>?_,λi j d d' a _ e =>?_⟩
 ·unfold L2.z3r;rw[List.length_append,List.length_append,List.length_map,List.length_map,List.length_replicate,List.length_replicate,r.len,hl,hN]
 ·rcases hn i _ e with ⟨d',e1,e2⟩ | e1
  ·cases e1
   obtain⟨v,h1,h2⟩:=r.get e2;refine⟨v,?_,h2⟩;unfold L2.z3r;have hi:i<vs.length:=(List.getElem?_eq_some_iff.mp h1).1;rw[List.getElem?_append_left (by simpa using hi),List.getElem?_map,h1]
   rfl
  ·cases e1
 ·rcases hn i _ e with ⟨d',e1,e2⟩ | e1 <;> cases e1
 ·rcases hn i _ e with ⟨d',e1,e2⟩ | e1 <;> cases e1
def fnN {x:Str}{st:Stmt}{fd:FuncData}{ps:List Str}{k np nn:Nat}{b:Sm}(F:Fun K x qual st f fd)(S:z0c N ps (z01 st))(hp:ps.length=np)(hN:N.length=nn)
  (hb:∀(cdv:Value) (A:Around) (outer:List PySem.Env) (s:Shared) (H:Hp) (E:XK),Room k (A.deeper (envOfC qual (z01 st) s.heap.objs.size f cdv))->QZs ((cxOf (CXe P w) P w K mg base N qual (z01 st) f cdv A outer s H E).wish λ_ _=>False) E0 (z3W st) b):
  FnOk P w K mg base (CXe P w) (k+1) f fd ps (spP K mg (Fn.mkN np nn b)):=by
 refine F.okN S (λvs H Q E ⟨G,ds,Q0,X0,hs,rds,⟨hl,hr⟩,hk,hx⟩=>by rw[rds.len,hl,hp]) λcdv A outer s H vs Q E hroom ⟨G,ds,Q0,X0,hs,rds,⟨hl,hr⟩,hk,hx⟩=>⟨_,hb cdv A outer s H E hroom,?_⟩
 refine⟨H,G,G,_,λ_=>Q0 .non,Q0,λ_=>False,zfo hs rds hl hN,hr,λρ' σ' H' G' q ab _ =>?_,hk,Kx.no⟩;exact hk .non .non G' H' q ⟨ab.g0,ab.nw⟩ ab.g ab.s0 (by rw[RD])
end
def Tg.slots:Tg->List Nat
 | .nm i=>[i]
 | .tp is=>is
section
variable {K:W.Frag}{mg:Str->Option Value}{G G1 H H1:Hp}{ρ:Pu.Env}{σ:L2.St}
def AbE.put {i:Nat}{d:D}{v:V}(h:AbE K mg G ρ σ)(hi:i < σ.length)(r:RD K mg G d v):AbE K mg G (ρ.set i (.s d)) (σ.set i (some v)):=λj e q=>by
 rw[Env.get_eq] at q
 by_cases hj:j=i
 ·subst hj
  cases z:(ρ.set j (.s d))[j]? with
  | none=>rw[z] at q; cases q
  | some b=>
   have hl:j < ρ.length:=by
    have:=(List.getElem?_eq_some_iff.mp z).1;simpa using this
   rw[List.getElem?_set_self hl] at q
   cases q
   exact⟨v,by rw[List.getElem?_set_self hi],r⟩
 ·rw[List.getElem?_set_ne (Ne.symm hj), <- Env.get_eq] at q;obtain⟨w,h1,h2⟩:=h j e q;exact⟨w,by rw[List.getElem?_set_ne (Ne.symm hj)]; exact h1,h2⟩
def AbE.keep {i:Nat}{v:V}(h:AbE K mg G ρ σ)(hn:ρ.get i=none):AbE K mg G ρ (σ.set i (some v)):=λj e q=>by
 have hj:j≠i:=λz=>by rw[z,hn] at q; cases q
 obtain⟨w,h1,h2⟩:=h j e q;exact⟨w,by rw[List.getElem?_set_ne (Ne.symm hj)]; exact h1,h2⟩
def AbE.putAll {base:Pu.Env}:∀(is:List Nat) (ds:List D) (vs:List V) {ρ:Pu.Env}{σ:L2.St},is.length=ds.length->RDs K mg G ds vs->(∀i∈is,i < σ.length)->(∀i∈is,base.get i=none)->AbE K mg G ρ σ->AbE K mg G base σ->
  AbE K mg G (z0w is ds ρ) ((is.zip vs).foldl (λσ p=>σ.set p.1 (some p.2)) σ)/\AbE K mg G base ((is.zip vs).foldl (λσ p=>σ.set p.1 (some p.2)) σ)/\((is.zip vs).foldl (λσ p=>σ.set p.1 (some p.2)) σ).length=σ.length
 | [],[],vs,ρ,σ,_,h,_,_,ab,bb=>by rw[RDs] at h; subst h; exact⟨ab,bb,rfl⟩
 | [],_::_,_,_,_,h,_,_,_,_,_=>by simp at h
 | _::_,[],_,_,_,h,_,_,_,_,_=>by simp at h
 | i::is,d::ds,vs,ρ,σ,h,r,hl,hn,ab,bb=>by
  rw[RDs] at r;obtain⟨v,vs',rfl,h1,h2⟩:=r;obtain⟨a1,a2,a3⟩:=AbE.putAll (base:=base) is ds vs' (ρ:=ρ.set i (.s d)) (σ:=σ.set i (some v)) (by simpa using h) h2 (λj hj=>by rw[List.length_set]; exact hl j (List.mem_cons_of_mem _ hj)) (λj hj=>hn j (List.mem_cons_of_mem _ hj)) (ab.put (hl i List.mem_cons_self) h1) (bb.keep (hn i List.mem_cons_self));exact⟨a1,a2,by rw[List.zip_cons_cons,List.foldl_cons,a3,List.length_set]⟩
def zfm {tg:Tg}{d:D}{v:V}{N0:Pu.Env->Prop}{N:L2.St->Hp->Prop}(ab:AbE K mg G ρ σ)(g:Same G H)(rd:RD K mg G d v)(hl:∀i∈tg.slots,i < σ.length)(hf:∀i∈tg.slots,ρ.get i=none)(hp:tg.put d ρ N0)
  (hn:∀ρ' σ',N0 ρ'->AbE K mg G ρ' σ'->AbE K mg G ρ σ'->σ'.length=σ.length->N σ' H):tgt K tg v σ H N:=by
 cases tg with
 | nm i=>
  have h1:=hl i (by simp[Tg.slots]);have h2:=hf i (by simp[Tg.slots]);exact hn _ _ hp (ab.put h1 rd) (ab.keep h2) (by simp)
 | tp is=>
  cases d with
  | tup ds=>
   obtain⟨hle,hp⟩:=hp;rw[RD] at rd;obtain⟨a,xs,rfl,h1,h2⟩:=rd;obtain⟨a1,a2,a3⟩:=AbE.putAll (base:=ρ) is ds xs (ρ:=ρ) (σ:=σ) hle h2 hl hf ab ab;exact⟨a,xs,rfl,z1r g h1,by rw[h2.len,hle],z6K (K:=K) is xs σ H N (by rw[h2.len,hle]) (hn _ _ hp a1 a2 a3)⟩
  | _=>exact hp.elim
def zd9 {nt:Nat}{js:List Nat}(h:AbE K mg G ρ σ):AbE K mg G (z2f nt js ρ) (List.replicate nt none++js.map λj=>(σ[j]?).getD none):=λi d e=>by
 rw[Env.get_eq] at e;unfold z2f at e
 by_cases hi:i<nt
 ·rw[List.getElem?_append_left (by simpa using hi),List.getElem?_replicate,if_pos hi] at e
  cases e
 ·rw[List.getElem?_append_right (by simpa using hi),List.length_replicate,List.getElem?_map] at e;rw[List.getElem?_append_right (by simpa using hi),List.length_replicate,List.getElem?_map]
  cases q:js[i - nt]? with
  | none=>rw[q] at e; cases e
  | some j=>
   rw[q] at e;have e':((ρ[j]?).getD .n).get=some d:=e;have e2:ρ.get j=some d:=by
    rw[Env.get_eq]
    cases z:ρ[j]? with
    | none=>rw[z] at e'; cases e'
    | some b=>rw[z] at e'; exact e'
   obtain⟨v,h1,h2⟩:=h j d e2;refine⟨v,?_,h2⟩;show some ((σ[j]?).getD none)=some (some v);rw[h1]; rfl
def zaK {nt:Nat}{js:List Nat}{i:Nat}(hi:i<nt):(z2f nt js ρ).get i=none:=by
 rw[Env.get_eq];unfold z2f;rw[List.getElem?_append_left (by simpa using hi),List.getElem?_replicate,if_pos hi]
 rfl
def TcOk (K:W.Frag)(mg:Str->Option Value)(c:Option Ex)(tc:TT):Prop:=match c with
 | none=>tc=z7E
 | some c=>tc=tt K mg E0 c
def zg8 {nt:Nat}{js:List Nat}{tg:Tg}{c:Option Ex}{elt:Ex}{l:List D}{J:It}{tc:TT}{Q0:List D->Prop}{Q:VK}(hts:∀i∈tg.slots,i<nt)(ab:AbE K mg G ρ σ)(g:Same G H)(hw:Walk K mg G l J)(hsz:l.length<sizeLine)
  (hr:z6g (z6O tg c elt (z2f nt js ρ)) l Q0)
  (htc:TcOk K mg c tc)
  (hk:∀rs ys p G2 H2,Q0 rs->Gr G H G2->Same G2 H2->Same H H2->RDs K mg G2 rs ys->H2 p=none->Q (.ref p) (upd H2 p (.lst ys))):
  LcG J (tgt K tg) tc (tx K mg E0 elt) Q (List.replicate nt none++js.map λj=>(σ[j]?).getD none) H:=by
 refine⟨λi m ys σ' H'=>m=l.length - i/\i<=l.length/\ys.length<=i/\σ'.length=nt+js.length/\∃G' rs,Gr G H G'/\Same G' H'/\Same H H'/\RDs K mg G' rs ys/\AbE K mg G' (z2f nt js ρ) σ'/\z6g (z6O tg c elt (z2f nt js ρ)) (l.drop i) λr=>Q0 (rs++r),
  ⟨l.length,by simp,Nat.zero_le _,by simp,by simp,G,[],Gr.refl,g,Same.refl',RDs.nil,zd9 ab,by simpa using hr⟩,?_⟩
 rintro i m ys σ1 H1 ⟨rfl,hi,hyl,hsl,G1,rs,g1,g2,g3,rds,ab1,h1⟩;refine⟨by omega,?_⟩;obtain⟨w1,w2⟩:=hw i G1 H1 g1.1 g2
 by_cases hlt:i<l.length
 ·have e:l[i]? = some l[i]:=by simp[hlt]
  obtain⟨go,yl⟩:=w1 _ e;rw[List.drop_eq_getElem_cons hlt] at h1;have h1':z6O tg c elt (z2f nt js ρ) l[i] (λo=>z6g (z6O tg c elt (z2f nt js ρ)) (l.drop (i+1)) λr=>Q0 (rs++(o.toList++r))):=h1;unfold z6O at h1';refine .inr ⟨go,λv H2 y =>?_⟩;obtain⟨s2,G2,k1,k2,rd⟩:=yl v H2 y;refine zfm (ab1.same k1.1) k2 rd (λj hj=>by rw[hsl]; have:=hts j hj; omega) (λj hj=>zaK (hts j hj)) h1' λρ3 σ3 hb ab3 bb3 hl3 =>?_;have el:∀{G3 H3:Hp},Gr G2 H2 G3->Same G3 H3->Same H2 H3->(elt.run ρ3 (λd=>z6g (z6O tg c elt (z2f nt js ρ)) (l.drop (i+1)) λr=>Q0 (rs++((some d:Option D).toList++r))) λ_=>False)->
    tx K mg E0 elt σ3 H3 λy H4=>∃m',m'<l.length - i/\m'=l.length - (i+1)/\i+1<=l.length/\(ys++[y]).length<=i+1/\σ3.length=nt+js.length/\∃G' rs',Gr G H G'/\Same G' H4/\Same H H4/\RDs K mg G' rs' (ys++[y])/\AbE K mg G' (z2f nt js ρ) σ3/\z6g (z6O tg c elt (z2f nt js ρ)) (l.drop (i+1)) λr=>Q0 (rs'++r):=λ{G3 H3} k3 k4 k5 he=>by
   refine⟨G3,ρ3,_,λ_=>False,k4,ab3.same k3.1,he,λd v' G4 H4 q n1 n2 n3 rd' =>?_,Kx.no⟩;refine⟨l.length - (i+1),by omega,rfl,hlt,by simp; omega,by rw[hl3,hsl],G4,rs++[d],g1.trans g3 (k1.trans s2 (k3.trans k5 n1)),n2,z0a g3 (z0a s2 (z0a k5 n3)),((rds.same (z0a k1.1 (z0a k3.1 n1.1))).app (RDs.cons rd' RDs.nil)),bb3.same (z0a k3.1 n1.1),?_⟩;refine z5A z78 _ _ _ (λr q =>?_) q;simpa using q
  cases c with
  | none=>
   have:tc=z7E:=htc;subst this;unfold z7E; dsimp only;rw[if_pos rfl];exact el Gr.refl k2 Same.refl' hb
  | some c=>
   have:tc=tt K mg E0 c:=htc;subst this;refine⟨G2,ρ3,_,λ_=>False,k2,ab3,hb,λd G3 H3 q k3 k4 k5 =>?_,Kx.no⟩;obtain⟨b,rfl,q1,q2⟩:=za6 q;refine⟨b,rfl,?_⟩
   cases b with
   | true=>exact iteT (el k3 k4 k5 (q1 rfl))
   | false=>
    refine iteF ⟨l.length - (i+1),by omega,rfl,hlt,by omega,by rw[hl3,hsl],G3,rs,g1.trans g3 (k1.trans s2 k3),k4,z0a g3 (z0a s2 k5),rds.same (z0a k1.1 k3.1),bb3.same k3.1,?_⟩;refine z5A z78 _ _ _ (λr q =>?_) (q2 rfl);simpa using q
 ·have e:i=l.length:=by omega
  subst e;rw[List.drop_length] at h1;refine .inl ⟨w2 (Nat.le_refl _),λp hp=>hk rs ys p G1 H1 ?_ g1 g2 g3 rds hp⟩;have h1':Q0 (rs++[]):=h1;simpa using h1'
def zdr {E:XK}{nt:Nat}{js:List Nat}{tg:Tg}{src:Ex}{c:Option Ex}{elt:Ex}{tc:TT}{Q:VK}(hts:∀i∈tg.slots,i<nt)(htc:TcOk K mg c tc)(h:tf K mg E (.comp nt js tg src c elt) σ H Q):tLcG (ti K mg E src) (tgt K tg) tc (tx K mg E0 elt) nt js σ H Q:=by
 obtain⟨G,ρ,Q0,X0,hs,ab,hr,hk,hx⟩:=h;refine⟨G,ρ,_,X0,hs,ab,hr,λd q=>(zc5 q).imp λ_ z=>z.1,λd G1 H1 q g1 g2 g3 l J el hw =>?_,hx⟩;have q':onL (items d) λl=>l.length<sizeLine/\z6g (z6O tg c elt (z2f nt js ρ)) l λr=>Q0 (.lst r):=q;rw[el] at q';refine zg8 hts (ab.same g1.1) g2 hw q'.1 q'.2 htc λrs ys p G2 H2 hq k1 k2 k3 rds hp =>?_;have hn:∀{A:Hp},Same A H2->A p=none:=λs=>z1z s hp;refine hk (.lst rs) p G2 (upd H2 p (.lst ys)) hq (g1.trans g3 k1) (z0a k2 (z0G hp _)) (z0a g3 (z0a k3 (z0G hp _))) (hn (z0a g3 k3)) (hn k2) ⟨ys,z0A,rds⟩
end
section
variable {X:Cx}{E:XK}{elt iter target:Expr}{ct:Option Expr}{pos spos py:Pos}{scope:Scope}{N':List Str}{nt:Nat}{js:List Nat}{tg:Tg}{src x:Ex}{c:Option Ex}{y:Str}{iy:Nat}
def CtOk (X:Cx)(scope:Scope)(N':List Str)(ct:Option Expr)(c:Option Ex):Prop:=match ct,c with
 | none,none=>True
 | some e,some x=>∀(C:Addr) (s:Shared) (H:Hp) (fp:List Addr),QXT (X.compG scope N' C s H fp) E0 e x
 | _,_=>False
def CtQ (X:Cx)(scope:Scope)(N':List Str)(ct:Option Expr)(tc:TT):Prop:=match ct with
      | none=>tc=z7E
      | some c=>∀(C:Addr) (s:Shared) (H:Hp) (fp:List Addr),QT (X.compG scope N' C s H fp) c tc
def zcp (h:CtOk X scope N' ct c):∃tc:TT,CtQ X scope N' ct tc/\TcOk X.K X.mg c tc:=by
 cases ct with
 | none=>
  cases c with
  | none=>exact⟨z7E,rfl,rfl⟩
  | some c=>exact h.elim
 | some e=>
  cases c with
  | none=>exact h.elim
  | some c=>exact⟨tt X.K X.mg E0 c,h,rfl⟩
def z4j (hc:X.calm=true)(hi:QXI X E target iter src)(hk:scope.kind = .function)(cp:z6S X N' nt js scope)(hts:tg.slots.all (· < nt)=true)
  (hg:∀(C:Addr) (s:Shared) (H:Hp) (fp:List Addr),QG (X.compG scope N' C s H fp) target (tgt X.K tg)) (ht:CtOk X scope N' ct c)
  (he:∀(C:Addr) (s:Shared) (H:Hp) (fp:List Addr),QX (X.compG scope N' C s H fp) E0 elt x) (hs:∀x,foldedSetIterable iter X.env x=pure x:=by intro _; rfl):QF X E (.ListComp elt [⟨target,iter,ct.toList,0⟩] scope pos) (.comp nt js tg src c x):=by
 obtain⟨tc,h1,h2⟩:=zcp ht;exact QE.imp (zjL hc hi hk cp hg h1 he hs) λσ H Q h=>zdr (λi hi=>of_decide_eq_true (List.all_eq_true.mp hts i hi)) h2 h
def zbg (hN:X.N.Nodup)(hiy:X.N[iy]? = some y)(hly:X.env.scope.names.lookup y=some .local)(hc:X.calm=true)(hi:QXI X E target iter src)(hk:scope.kind = .function)(cp:z6S X N' nt js scope)(hts:tg.slots.all (· < nt)=true)
  (hg:∀(C:Addr) (s:Shared) (H:Hp) (fp:List Addr),QG (X.compG scope N' C s H fp) target (tgt X.K tg)) (ht:CtOk X scope N' ct c)
  (he:∀(C:Addr) (s:Shared) (H:Hp) (fp:List Addr),QX (X.compG scope N' C s H fp) E0 elt x) (hsw:swapsWith (.ListComp elt [⟨target,iter,ct.toList,0⟩] scope pos) (some (.Name y py)) spos.line X.env=pure true:=by rfl) (hs:∀x,foldedSetIterable iter X.env x=pure x:=by intro _; rfl):
  QS X (.Assign [.Name y py] (.ListComp elt [⟨target,iter,ct.toList,0⟩] scope pos) spos) (tAsg (tf X.K X.mg E (.comp nt js tg src c x)) (z5l iy)):=by
 obtain⟨tc,h1,h2⟩:=zcp ht;exact QS.imp (zjD hN hiy hly hc hi hk cp hg h1 he hsw hs) λD σ H h=>zdr (λi hi=>of_decide_eq_true (List.all_eq_true.mp hts i hi)) h2 h
def zfn {K:W.Frag}{mg:Str->Option Value}{σ:L2.St}{H:Hp}{Q:VK}(h:tx K mg E x σ H Q):tf K mg E x σ H Q:=by
 obtain⟨G,ρ,Q0,X0,hs,ab,hr,hk,hx⟩:=h;exact⟨G,ρ,Q0,X0,hs,ab,hr,hk.kf,hx⟩
def QS.sh {st:Stmt}(h:QS X st (tAsg (tf X.K X.mg E x) (z5l iy))):QS X st (tAsg (tx X.K X.mg E x) (z5l iy)):=QS.imp h λD σ H h=>zfn h
def z6q {i:Nat}{z:Str}{pos:Pos}(hN:X.N.Nodup)(hi:X.N[i]? = some z)(hx:X.env.scope.names.lookup z=some .local):QG X (.Name z pos) (tgt X.K (.nm i)):=z9q hN hi hx
def pTup:Fn:=⟨λds Q _=>ds.length<=sizeLine/\Q (.tup ds),λds Q Q' X X' m _ q=>⟨q.1,m _ q.2⟩⟩
def pLst:Fn:=⟨λds Q _=>ds.length<=sizeLine/\Q (.lst ds),λds Q Q' X X' m _ q=>⟨q.1,m _ q.2⟩⟩
def z0y {es:List Expr}{xs:List Ex}{x1}(h:QXA X E es xs):QX X E (.Tuple es x1 pos) (.op pTup xs):=QE.imp (⟨zk4 h.p⟩:QE X (.Tuple es x1 pos) _) λσ H Q ⟨G,ρ,Q0,X0,hs,ab,hr,hk,hx⟩=>by
 refine⟨G,ρ,_,X0,hs,ab,hr,λds vs G1 H1 q g1 g2 g3 rds=>⟨by rw[rds.len]; exact q.1,λp hp =>?_⟩,hx⟩;refine(hk.same g1 g3).new g2 hp q.2 ?_;rw[RD];exact⟨p,vs,rfl,SqT.of z0A,rds.same (z0G (z1z g2 hp) _)⟩
def z3q {es:List Expr}{xs:List Ex}(h:QXA X E es xs):QF X E (.List es pos) (.op pLst xs):=QE.imp (zjK h) λσ H Q ⟨G,ρ,Q0,X0,hs,ab,hr,hk,hx⟩=>by
 refine⟨G,ρ,_,X0,hs,ab,hr,λds vs G1 H1 q g1 g2 g3 rds=>⟨by rw[rds.len]; exact q.1,λp hp =>?_⟩,hx⟩;exact hk (.lst ds) p G1 (upd H1 p (.lst vs)) q.2 g1 (z0a g2 (z0G hp _)) (z0a g3 (z0G hp _)) (z1z g3 hp) (z1z g2 hp) ⟨vs,z0A,rds⟩
end
def fn2 (g:D->D->DK->Prop)(m:∀a b (Q Q':DK),(∀d,Q d->Q' d)->g a b Q->g a b Q'):Fn:=⟨λds Q _=>match ds with
 | [a,b]=>g a b Q
 | _=>False,λds Q Q' X X' mm _ q=>by
 match ds,q with
 | [a,b],q=>exact m a b Q Q' mm q
 | [],q=>exact q.elim
 | [_],q=>exact q.elim
 | _::_::_::_,q=>exact q.elim⟩
def fn1 (g:D->DK->Prop)(m:∀a (Q Q':DK),(∀d,Q d->Q' d)->g a Q->g a Q'):Fn:=⟨λds Q _=>match ds with
 | [a]=>g a Q
 | _=>False,λds Q Q' X X' mm _ q=>by
 match ds,q with
 | [a],q=>exact m a Q Q' mm q
 | [],q=>exact q.elim
 | _::_::_,q=>exact q.elim⟩
def zc2 {o:Option D}{Q Q':DK}(m:∀d,Q d->Q' d)(h:onV o Q):onV o Q':=by
 cases o with
 | none=>exact h
 | some d=>exact m _ h
def zc1 {o:Option D}{Q:DK}(h:onV o Q):∃d,o=some d/\Q d:=by
 cases o with
 | none=>exact h.elim
 | some d=>exact⟨d,rfl,h⟩
def gAdd (a b:D)(Q:DK):Prop:=match a,b with
 | .int i,.int j=>Q (.int (i+j))
 | .str x,.str y=>x.length+y.length<=sizeLine/\Q (.str (x++y))
 | .lst l,.lst m=>l.length+m.length<=sizeLine/\Q (.lst (l++m))
 | .tup l,.tup m=>l.length+m.length<=sizeLine/\Q (.tup (l++m))
 | _,_=>False
def zeL (a b:D)(Q Q':DK)(m:∀d,Q d->Q' d)(h:gAdd a b Q):gAdd a b Q':=by
 unfold gAdd at h ⊢
 split at h
 ·exact m _ h
 ·exact⟨h.1,m _ h.2⟩
 ·exact⟨h.1,m _ h.2⟩
 ·exact⟨h.1,m _ h.2⟩
 ·exact h.elim
def pAdd:Fn:=fn2 gAdd zeL
def gI (g:Int->Int->DK->Prop)(a b:D)(Q:DK):Prop:=match a,b with
 | .int i,.int j=>g i j Q
 | _,_=>False
def zeK {g:Int->Int->DK->Prop}(hg:∀i j (Q Q':DK),(∀d,Q d->Q' d)->g i j Q->g i j Q')(a b:D)(Q Q':DK)(m:∀d,Q d->Q' d)(h:gI g a b Q):gI g a b Q':=by
 unfold gI at h ⊢
 split at h
 ·exact hg _ _ _ _ m h
 ·exact h.elim
def fnI (g:Int->Int->DK->Prop)(hg:∀i j (Q Q':DK),(∀d,Q d->Q' d)->g i j Q->g i j Q'):Fn:=fn2 (gI g) (zeK hg)
def pSub:Fn:=fnI (λi j Q=>Q (.int (i - j))) λ_ _ _ _ m h=>m _ h
def z2e:Fn:=fnI (λi j Q=>zlf i j/\Q (.int (i.fdiv j))) λ_ _ _ _ m h=>⟨h.1,m _ h.2⟩
def pMod:Fn:=fnI (λi j Q=>j≠0/\Q (.int (i.fmod j))) λ_ _ _ _ m h=>⟨h.1,m _ h.2⟩
def pPow:Fn:=fnI (λi j Q=>CPow i j/\Q (.int (i ^ j.toNat))) λ_ _ _ _ m h=>⟨h.1,m _ h.2⟩
def gNeg (a:D)(Q:DK):Prop:=match a with
 | .int i=>Q (.int (-i))
 | _=>False
def pNeg:Fn:=fn1 gNeg λa Q Q' m h=>by
 unfold gNeg at h ⊢
 split at h
 ·exact m _ h
 ·exact h.elim
section
variable {X:Cx}{K:W.Frag}{mg:Str->Option Value}
def r2 (K:W.Frag)(mg:Str->Option Value)(F:Fn):R2:=λv1 v2 H Q=>∃G d1 d2 Q0 X0,Same G H/\RD K mg G d1 v1/\RD K mg G d2 v2/\F.run [d1,d2] Q0 X0/\Kt K mg G H Q0 Q
def r1 (K:W.Frag)(mg:Str->Option Value)(F:Fn):V->Hp->VK->Prop:=λv H Q=>∃G d Q0 X0,Same G H/\RD K mg G d v/\F.run [d] Q0 X0/\Kt K mg G H Q0 Q
def rN (K:W.Frag)(mg:Str->Option Value)(F:Fn):List V->Hp->VK->Prop:=λvs H Q=>∃G ds Q0 X0,Same G H/\RDs K mg G ds vs/\F.run ds Q0 X0/\Kt K mg G H Q0 Q
def lk2 {F:Fn}:Lk2 K mg F (r2 K mg F):=λG H d1 d2 v1 v2 Q0 X0 Q a b c d e=>⟨G,d1,d2,Q0,X0,a,b,c,d,e⟩
def lk1 {F:Fn}:Lk1 K mg F (r1 K mg F):=λG H d v Q0 X0 Q a b c d=>⟨G,_,Q0,X0,a,b,c,d⟩
def lkN {F:Fn}:LkN K mg F (rN K mg F):=λG H d v Q0 X0 Q a b c d=>⟨G,_,Q0,X0,a,b,c,d⟩
def zgp {prog:Program}{w:World}{A:Around}{E:Value->Shared->Prop}{s:Shared}{t b:Addr}{ws:List Value}{Q:Value->Shared->Prop}(ht:IsTup s.heap t ([]:List Value).toArray)(hb:IsTup s.heap b ws.toArray)(h:Q (.ref b) s):wpAny (model prog w) A (binaryOp .Add (.ref t) (.ref b)) Q E s:=by
 obtain⟨⟨cls,dd,data,sl⟩,ho,hc,n,hd⟩:=id ht;obtain⟨⟨cls2,dd2,data2,sl2⟩,ho2,hc2,n2,hd2⟩:=id hb;simp only at hc hd hc2 hd2;subst hc hd hc2 hd2;exact concat_meets ⟨_,ho,rfl⟩ ⟨_,ho2,rfl⟩ noFill_tuple_add seq_tuple_add PySem.F.slot_tuple_add PySem.F.entry_tuple_add (PySem.F.args_tuple_add_2 _ _)
   (tuple_addW0 t b _ ws.toArray n n2 dd dd2 sl sl2 (by simp)) ⟨ho,ho2,h⟩
def zfW:OpR X (binaryOp .Add) (λx y H Q=>∃a b ys,x = .ref a/\y = .ref b/\SqT X.K H a []/\SqT X.K H b ys/\Q (.ref b) H):=by
 intro pins s σ H x y v u Q I rx ry h;obtain⟨a,b,ys,rfl,rfl,ha,hb,q⟩:=h
 cases rx
 cases ry
 obtain⟨its,r1,p1,_⟩:=I.tuple ha;obtain⟨its2,r2,p2,_⟩:=I.tuple hb
 cases r1
 exact zgp p1 p2 ⟨.ref b,H,I,rfl,q⟩
def zlx (K:W.Frag):R2:=λx y H Q=>∃l b xs zs,x = .ref l/\y = .ref b/\SqL K H l xs/\SqL K H b zs/\xs.length+zs.length<=sizeLine/\∀p,H p=none->Q (.ref p) (upd H p (.lst (xs++zs)))
def zed:OpR X (binaryOp .Add) (zlx X.K):=by
 intro pins s σ H x y v u Q I rx ry h;obtain⟨l,b,xs,zs,rfl,rfl,hH,hB,hz,q⟩:=h
 cases rx
 cases ry
 obtain⟨its,r,⟨⟨cls,dd,data,sl⟩,n,e,hc,_,hd⟩,z1⟩:=I.list hH;obtain⟨its2,r2,⟨⟨cls2,dd2,data2,sl2⟩,n2,e2,hc2,_,hd2⟩,z2⟩:=I.list hB;dsimp only at hc hd hc2 hd2;subst hc hd hc2 hd2;have l1:=r.length;have l2:=r2.length;have ea:its.toArray++its2.toArray=(its++its2).toArray:=by simp
 refine concat_meets ⟨_,e,rfl⟩ ⟨_,e2,rfl⟩ noFill_list_add seq_list_add PySem.F.slot_list_add PySem.F.entry_list_add (PySem.F.args_list_add_2 _ _) (list_addW l b its.toArray its2.toArray n n2 dd dd2 sl sl2 (by simp only[List.size_toArray]; omega)) ⟨e,e2,?_⟩;rw[ea];exact⟨.ref _,_,I.lnew (t':=s.toks) (r.append r2) (by rw[List.length_append]; omega),rfl,q _ I.fresh⟩
def z3b {G:Hp}{l:List D}{v:V}(h:RD K mg G (.tup l) v):∃a xs,v = .ref a/\SqT K G a xs/\RDs K mg G l xs:=by rw[RD] at h; exact h
def z3c {G:Hp}{l:List D}{v:V}(h:RD K mg G (.lst l) v):∃a xs,v = .ref a/\SqL K G a xs/\RDs K mg G l xs:=by rw[RD] at h; exact h
def z50 {G:Hp}{x:Str}{v:V}(h:RD K mg G (.str x) v):v = .str x:=by rw[RD] at h; exact h
def z9o {G:Hp}{x:Bool}{v:V}(h:RD K mg G (.bl x) v):v = .bl x:=by rw[RD] at h; exact h
def zbR {G:Hp}{v:V}(h:RD K mg G .non v):v = .non:=by rw[RD] at h; exact h
def RD.newT {G H:Hp}{p:Addr}{l:List D}{xs:List V}(r:RDs K mg G l xs)(g:Same G H)(hp:H p=none):RD K mg (upd G p (.tup xs)) (.tup l) (.ref p):=by
 rw[RD];exact⟨p,xs,rfl,SqT.of z0A,r.same (z0G (z1z g hp) _)⟩
def RD.newL {G H:Hp}{p:Addr}{l:List D}{xs:List V}(r:RDs K mg G l xs)(g:Same G H)(hp:H p=none):RD K mg (upd G p (.lst xs)) (.lst l) (.ref p):=by
 rw[RD];exact⟨p,xs,rfl,SqL.of z0A,r.same (z0G (z1z g hp) _)⟩
def RD.ofT {G:Hp}{a:Addr}{l:List D}{xs:List V}(h:SqT K G a xs)(r:RDs K mg G l xs):RD K mg G (.tup l) (.ref a):=by rw[RD]; exact⟨a,xs,rfl,h,r⟩
def RD.ofL {G:Hp}{a:Addr}{l:List D}{xs:List V}(h:SqL K G a xs)(r:RDs K mg G l xs):RD K mg G (.lst l) (.ref a):=by rw[RD]; exact⟨a,xs,rfl,h,r⟩
def RD.int' {G:Hp}{i:Int}:RD K mg G (.int i) (.int i):=by rw[RD]
def RD.bl' {G:Hp}{i:Bool}:RD K mg G (.bl i) (.bl i):=by rw[RD]
def RD.str' {G:Hp}{i:Str}:RD K mg G (.str i) (.str i):=by rw[RD]
def RDs.ne_nil {G:Hp}{l:List D}{xs:List V}(r:RDs K mg G l xs):xs=[]↔l=[]:=by
 have:=r.len
 constructor
 ·rintro rfl; exact List.length_eq_zero_iff.mp this.symm
 ·rintro rfl; exact List.length_eq_zero_iff.mp this
def z0E:OpR X (binaryOp .Add) (r2 X.K X.mg pAdd):=by
 intro pins s σ H x y v u Q I rx ry ⟨G,d1,d2,Q0,X0,g,h1,h2,hr,hk⟩;have hr':gAdd d1 d2 Q0:=hr;unfold gAdd at hr'
 split at hr'
 ·exact zkn pins s σ H x y v u Q I rx ry ⟨_,_,z0Y h1,z0Y h2,hk.now g hr' RD.int'⟩
 ·exact zcN pins s σ H x y v u Q I rx ry ⟨_,_,z50 h1,z50 h2,hr'.1,hk.now g hr'.2 RD.str'⟩
 ·obtain⟨a,xs,rfl,s1,r1⟩:=z3c h1;obtain⟨b,zs,rfl,s2,r2⟩:=z3c h2;exact zed pins s σ H _ _ v u Q I rx ry ⟨a,b,xs,zs,rfl,rfl,z2q g s1,z2q g s2,by rw[r1.len,r2.len]; exact hr'.1,λp hp=>hk.new g hp hr'.2 (RD.newL (r1.app r2) g hp)⟩
 ·obtain⟨a,xs,rfl,s1,r1⟩:=z3b h1;obtain⟨b,zs,rfl,s2,r2⟩:=z3b h2
  by_cases hx:xs=[]
  ·subst hx;have e:=r1.ne_nil.mp rfl;subst e;exact zfW pins s σ H _ _ v u Q I rx ry ⟨a,b,zs,rfl,rfl,z1r g s1,z1r g s2,hk.now g hr'.2 (RD.ofT s2 r2)⟩
  ·refine zic pins s σ H _ _ v u Q I rx ry ⟨a,b,xs,zs,rfl,rfl,z1r g s1,z1r g s2,hx,by rw[r1.len,r2.len]; exact hr'.1,λe =>?_,λe p hp=>hk.new g hp hr'.2 (RD.newT (r1.app r2) g hp)⟩;have e:=r2.ne_nil.mp e;subst e;refine hk.now g hr'.2 ?_;rw[List.append_nil];exact RD.ofT s1 r1
 ·exact hr'.elim
def z9R {g:Int->Int->DK->Prop}{a b:D}{Q:DK}(h:gI g a b Q):∃i j,a = .int i/\b = .int j/\g i j Q:=by
 unfold gI at h
 split at h
 ·exact⟨_,_,rfl,rfl,h⟩
 ·exact h.elim
def zg1 {f:Value->Value->Sem Value}{C:Int->Int->Prop}{gv:Int->Int->Int}{hg}(h:OpR X f (rI C λi j =>.int (gv i j))):OpR X f (r2 X.K X.mg (fnI (λi j Q=>C i j/\Q (.int (gv i j))) hg)):=h.imp λx y H Q ⟨G,d1,d2,Q0,X0,g,h1,h2,hr,hk⟩=>by
 obtain⟨i,j,rfl,rfl,c,q⟩:=z9R (show gI (λi j Q=>C i j/\Q (.int (gv i j))) d1 d2 Q0 from hr);exact⟨i,j,z0Y h1,z0Y h2,c,hk.now g q RD.int'⟩
def z1x:OpR X (binaryOp .Sub) (r2 X.K X.mg pSub):=zkj.imp λx y H Q ⟨G,d1,d2,Q0,X0,g,h1,h2,hr,hk⟩=>by
 obtain⟨i,j,rfl,rfl,q⟩:=z9R (show gI (λi j Q=>Q (.int (i - j))) d1 d2 Q0 from hr);exact⟨i,j,z0Y h1,z0Y h2,hk.now g q RD.int'⟩
def z0J:OpR X (binaryOp .FloorDiv) (r2 X.K X.mg z2e):=zg1 zfV
def z0S:OpR X (binaryOp .Mod) (r2 X.K X.mg pMod):=zg1 zib
def z2U:OpR X (binaryOp .Pow) (r2 X.K X.mg pPow):=zg1 zkk
def z4O:UnR X (unaryOp .USub) (r1 X.K X.mg pNeg):=by
 intro pins s σ H x v Q I rx ⟨G,d,Q0,X0,g,h1,hr,hk⟩;have hr':gNeg d Q0:=hr;unfold gNeg at hr'
 split at hr'
 ·exact ziR pins s σ H x v Q I rx ⟨_,z0Y h1,hk.now g hr' RD.int'⟩
 ·exact hr'.elim
def z0u:Fn:=fnI (λi j Q=>ziK i j/\Q (.int (i*j))) λ_ _ _ _ m h=>⟨h.1,m _ h.2⟩
def z0j:OpR X (binaryOp .Mult) (r2 X.K X.mg z0u):=zg1 zia
end
def ints? : List D->Option (List Int)
 | []=>some []
 | .int i::r=>match ints? r with
  | some l=>some (i::l)
  | none=>none
 | _::_=>none
def z80:∀{l:List D}{ns:List Int},ints? l=some ns->l=ns.map D.int
 | [],ns,h=>by
  have:ns=[]:=by simpa[ints?] using h.symm
  subst this; rfl
 | .int i::r,ns,h=>by
  unfold ints? at h
  cases q:ints? r with
  | none=>rw[q] at h; cases h
  | some l=>
   rw[q] at h
   cases h
   rw[z80 q]; rfl
 | .non::_,_,h=>by simp[ints?] at h
 | .bl _::_,_,h=>by simp[ints?] at h
 | .str _::_,_,h=>by simp[ints?] at h
 | .tup _::_,_,h=>by simp[ints?] at h
 | .lst _::_,_,h=>by simp[ints?] at h
 | .dct _ _::_,_,h=>by simp[ints?] at h
 | .fn _::_,_,h=>by simp[ints?] at h
 | .exc _::_,_,h=>by simp[ints?] at h
def zcf (ns:List Int):ints? (ns.map D.int)=some ns:=by
 induction ns with
 | nil=>rfl
 | cons n ns ih=>rw[List.map_cons,ints?, ih]
def onI (o:Option (List Int))(Q:List Int->Prop):Prop:=match o with
 | some l=>Q l
 | none=>False
def zc7 {o:Option (List Int)}{Q Q':List Int->Prop}(m:∀d,Q d->Q' d)(h:onI o Q):onI o Q':=by
 cases o with
 | none=>exact h
 | some d=>exact m _ h
def zc6 {o:Option (List Int)}{Q:List Int->Prop}(h:onI o Q):∃d,o=some d/\Q d:=by
 cases o with
 | none=>exact h.elim
 | some d=>exact⟨d,rfl,h⟩
def gCmp (f:Int->Int->Bool)(a b:D)(Q:DK):Prop:=match a,b with
 | .int i,.int j=>Q (.bl (f i j))
 | _,_=>False
def z8h {f:Int->Int->Bool}(a b:D)(Q Q':DK)(m:∀d,Q d->Q' d)(h:gCmp f a b Q):gCmp f a b Q':=by
 unfold gCmp at h ⊢
 split at h
 ·exact m _ h
 ·exact h.elim
def pLt:Fn:=fn2 (gCmp (λi j=>decide (i<j))) z8h
def pGt:Fn:=fn2 (gCmp (λi j=>decide (j<i))) z8h
def pLe:Fn:=fn2 (gCmp (λi j=>decide (i<=j))) z8h
section
variable {X:Cx}{K:W.Frag}{mg:Str->Option Value}
def z7t {G:Hp}:∀(ns:List Int) {xs:List V},RDs K mg G (ns.map D.int) xs->xs=ns.map V.int
 | [],xs,h=>by rw[List.map_nil,RDs] at h; subst h; rfl
 | n::ns,xs,h=>by
  rw[List.map_cons,RDs] at h;obtain⟨x,r,rfl,h1,h2⟩:=h;rw[z0Y h1,z7t ns h2]; rfl
def z9N {G:Hp}:∀(ns:List Int),RDs K mg G (ns.map D.int) (ns.map V.int)
 | []=>RDs.nil
 | n::ns=>RDs.cons RD.int' (z9N ns)
def zif {op:CmpOp}{f:Int->Int->Bool}{hm}(hi:OpR X (compareOp op) (rI0 λi j =>.bl (f i j))):OpR X (compareOp op) (r2 X.K X.mg (fn2 (gCmp f) hm)):=by
 intro pins s σ H x y v u Q I rx ry ⟨G,d1,d2,Q0,X0,g,h1,h2,hr,hk⟩;have hr':gCmp f d1 d2 Q0:=hr;unfold gCmp at hr'
 split at hr'
 ·exact hi pins s σ H x y v u Q I rx ry ⟨_,_,z0Y h1,z0Y h2,hk.now g hr' RD.bl'⟩
 ·exact hr'.elim
def zbp (hu:X.A.units+64<cLine):OpR X (compareOp .Lt) (r2 X.K X.mg pLt):=zif zlR
def zao (hu:X.A.units+64<cLine):OpR X (compareOp .Gt) (r2 X.K X.mg pGt):=zif zlT
def zih (hu:X.A.units+64<cLine):OpR X (compareOp .LtE) (r2 X.K X.mg pLe):=zif zlS
def pGeI:Fn:=fnI (λi j Q=>Q (.bl (decide (j<=i)))) λ_ _ _ _ m h=>m _ h
def zlW:OpR X (compareOp .GtE) (r2 X.K X.mg pGeI):=zlU.imp λx y H Q ⟨G,d1,d2,Q0,X0,g,h1,h2,hr,hk⟩=>by
 obtain⟨i,j,rfl,rfl,q⟩:=z9R (show gI (λi j Q=>Q (.bl (decide (j<=i)))) d1 d2 Q0 from hr);exact⟨i,j,z0Y h1,z0Y h2,hk.now g q RD.bl'⟩
end
mutual
def py:D->PyData
 | .non =>.none
 | .bl b =>.bool b
 | .int i =>.int i
 | .str x =>.str x
 | .tup l =>.tuple (pys l)
 | .lst l =>.list (pys l)
 | _ =>.none
def pys:List D->List PyData
 | []=>[]
 | d::ds=>py d::pys ds
end
def Da:Nat->D->Prop
 | _,.non=>True
 | _,.bl _=>True
 | _,.int _=>True
 | _,.str x=>PyData.strOk x=true
 | 0,.tup _=>False
 | n+1,.tup l=>∀d∈l,Da n d
 | 0,.lst _=>False
 | n+1,.lst l=>∀d∈l,Da n d
 | _,.dct _ _=>False
 | _,.fn _=>False
 | _,.exc _=>False
section
variable {X:Cx}{K:W.Frag}{mg:Str->Option Value}
def Da.tup {n:Nat}{l:List D}:Da (n+1) (.tup l)↔∀d∈l,Da n d:=by rw[Da]
def Da.lst {n:Nat}{l:List D}:Da (n+1) (.lst l)↔∀d∈l,Da n d:=by rw[Da]
def Da.int {n:Nat}{i:Int}:Da n (.int i):=by cases n <;> (rw[Da]; trivial)
def Da.str {n:Nat}{x:Str}:Da n (.str x)↔PyData.strOk x=true:=by cases n <;> rw[Da]
def Da.canLay:∀(n:Nat) (d:D),Da n d->(py d).canLay0=true/\(py d).depth<=n:=by
 intro n
 induction n with
 | zero=>
  intro d h
  cases d with
  | non=>exact⟨rfl,Nat.le_refl _⟩
  | bl _=>exact⟨rfl,Nat.le_refl _⟩
  | int _=>exact⟨rfl,Nat.le_refl _⟩
  | str x=>exact⟨by rw[py,PyData.canLay0]; exact Da.str.mp h,by rw[py,PyData.depth]; exact Nat.le_refl _⟩
  | _=>rw[Da] at h; exact h.elim
 | succ n ih=>
  have all:∀l:List D,(∀d∈l,Da n d)->PyData.canLayAll0 (pys l)=true/\PyData.depthAll (pys l)<=n:=by
   intro l
   induction l with
   | nil=>intro _; exact⟨rfl,Nat.zero_le _⟩
   | cons d l ihl=>
    intro h;obtain⟨a1,a2⟩:=ih d (h d List.mem_cons_self);obtain⟨b1,b2⟩:=ihl λx hx=>h x (List.mem_cons_of_mem _ hx);rw[pys,PyData.canLayAll0,PyData.depthAll,a1,b1];exact⟨rfl,Nat.max_le.mpr ⟨a2,b2⟩⟩
  intro d h
  cases d with
  | non=>exact⟨rfl,Nat.zero_le _⟩
  | bl _=>exact⟨rfl,Nat.zero_le _⟩
  | int _=>exact⟨rfl,Nat.zero_le _⟩
  | str x=>exact⟨by rw[py,PyData.canLay0]; exact Da.str.mp h,by rw[py,PyData.depth]; exact Nat.zero_le _⟩
  | tup l=>
   obtain⟨a,b⟩:=all l (Da.tup.mp h);exact⟨by rw[py,PyData.canLay0]; exact a,by rw[py,PyData.depth]; omega⟩
  | lst l=>
   obtain⟨a,b⟩:=all l (Da.lst.mp h);exact⟨by rw[py,PyData.canLay0]; exact a,by rw[py,PyData.depth]; omega⟩
  | _=>rw[Da] at h; exact h.elim
def Da.shaped {n:Nat}{d:D}(h:Da n d)(hn:n<=64):PySem.SeqAt.shaped (py d)=true:=by
 obtain⟨a,b⟩:=Da.canLay n d h;unfold PySem.SeqAt.shaped;rw[a,decide_eq_true (Nat.le_trans b hn)]
 rfl
def Da.rp {G:Hp}:∀(n:Nat) (d:D) {v:V},Da n d->RD K mg G d v->Rp K G (py d) v:=by
 intro n
 induction n with
 | zero=>
  intro d v h r
  cases d with
  | non=>rw[py,Rp]; exact zbR r
  | bl _=>rw[py,Rp]; exact z9o r
  | int _=>rw[py,Rp]; exact z0Y r
  | str x=>rw[py,Rp]; exact z50 r
  | _=>rw[Da] at h; exact h.elim
 | succ n ih=>
  have all:∀(l:List D) {xs:List V},(∀d∈l,Da n d)->RDs K mg G l xs->RpL K G (pys l) xs:=by
   intro l
   induction l with
   | nil=>intro xs _ r; rw[RDs] at r; subst r; rw[pys,RpL]
   | cons d l ihl=>
    intro xs h r;rw[RDs] at r;obtain⟨x,r',rfl,r1,r2⟩:=r;rw[pys,RpL];exact⟨x,r',rfl,ih d (h d List.mem_cons_self) r1,ihl (λx hx=>h x (List.mem_cons_of_mem _ hx)) r2⟩
  intro d v h r
  cases d with
  | non=>rw[py,Rp]; exact zbR r
  | bl _=>rw[py,Rp]; exact z9o r
  | int _=>rw[py,Rp]; exact z0Y r
  | str x=>rw[py,Rp]; exact z50 r
  | tup l=>
   obtain⟨a,xs,rfl,h1,h2⟩:=z3b r;rw[py,Rp];exact⟨a,xs,rfl,h1,all l (Da.tup.mp h) h2⟩
  | lst l=>
   obtain⟨a,xs,rfl,h1,h2⟩:=z3c r;rw[py,Rp];exact⟨a,xs,rfl,h1,all l (Da.lst.mp h) h2⟩
  | _=>rw[Da] at h; exact h.elim
end
def deq (a b:D):Bool:=PyData.eqv (py a) (py b)
def gEq (neg:Bool)(a b:D)(Q:DK):Prop:=match a,b with
 | .int i,.int j=>Q (.bl (if neg then !decide (i=j) else decide (i=j)))
 | .str x,.str y=>Q (.bl (if neg then !decide (x=y) else decide (x=y)))
 | .bl x,.bl y=>Q (.bl (if neg then !decide (x=y) else decide (x=y)))
 | a,b=>Da 60 a/\Da 60 b/\Q (.bl (if neg then !deq a b else deq a b))
def z9S {neg:Bool}(a b:D)(Q Q':DK)(m:∀d,Q d->Q' d)(h:gEq neg a b Q):gEq neg a b Q':=by
 unfold gEq at h ⊢
 split at h
 ·exact m _ h
 ·exact m _ h
 ·exact m _ h
 ·exact⟨h.1,h.2.1,m _ h.2.2⟩
def pEq:Fn:=fn2 (gEq false) z9S
def pNe:Fn:=fn2 (gEq true) z9S
section
variable {X:Cx}{K:W.Frag}{mg:Str->Option Value}
def zbB {p q:Prop}[Decidable p][Decidable q](h:p↔q):decide p=decide q:=by rw[decide_eq_decide]; exact h
def zh1 {op:CmpOp}{neg:Bool}(h1:OpR X (compareOp op) (λx y H Q=>scal x y=true/\Q (.bl (if neg then !decide (x=y) else decide (x=y))) H))(h2:OpR X (compareOp op) (rEqD X.K neg)):OpR X (compareOp op) (r2 X.K X.mg (fn2 (gEq neg) z9S)):=by
 intro pins s σ H x y v u Q I rx ry ⟨G,d1,d2,Q0,X0,g,r1,r2,hr,hk⟩;have hr':gEq neg d1 d2 Q0:=hr;unfold gEq at hr'
 split at hr'
 ·have e1:=z0Y r1; have e2:=z0Y r2;subst e1; subst e2;refine h1 pins s σ H _ _ v u Q I rx ry ⟨rfl,?_⟩;rw[zbB (⟨λh=>V.int.inj h,λh=>congrArg V.int h⟩:V.int _=V.int _↔_)];exact hk.now g hr' RD.bl'
 ·have e1:=z50 r1; have e2:=z50 r2;subst e1; subst e2;refine h1 pins s σ H _ _ v u Q I rx ry ⟨rfl,?_⟩;rw[zbB (⟨λh=>V.str.inj h,λh=>congrArg V.str h⟩:V.str _=V.str _↔_)];exact hk.now g hr' RD.bl'
 ·have e1:=z9o r1; have e2:=z9o r2;subst e1; subst e2;refine h1 pins s σ H _ _ v u Q I rx ry ⟨rfl,?_⟩;rw[zbB (⟨λh=>V.bl.inj h,λh=>congrArg V.bl h⟩:V.bl _=V.bl _↔_)];exact hk.now g hr' RD.bl'
 ·obtain⟨a1,a2,q⟩:=hr';exact h2 pins s σ H x y v u Q I rx ry ⟨_,_,(Da.rp 60 _ a1 r1).same g,(Da.rp 60 _ a2 r2).same g,a1.shaped (by decide),a2.shaped (by decide),hk.now g q RD.bl'⟩
def z3d (hu:X.A.units+64<cLine):OpR X (compareOp .Eq) (r2 X.K X.mg pEq):=zh1 (neg:=false) (zlV.imp λ_ _ _ _ h=>h) (zkm hu)
def zig (hu:X.A.units+64<cLine):OpR X (compareOp .NotEq) (r2 X.K X.mg pNe):=zh1 (neg:=true) (zlQ.imp λ_ _ _ _ h=>h) (zkl hu)
def isN:D->Bool
 | .non=>true
 | _=>false
def gIs (neg:Bool)(a b:D)(Q:DK):Prop:=match b with
 | .non=>Q (.bl (if neg then !isN a else isN a))
 | _=>False
def zch {neg:Bool}(a b:D)(Q Q':DK)(m:∀d,Q d->Q' d)(h:gIs neg a b Q):gIs neg a b Q':=by
 unfold gIs at h ⊢
 split at h
 ·exact m _ h
 ·exact h.elim
def pIs:Fn:=fn2 (gIs false) zch
def zeb:Fn:=fn2 (gIs true) zch
def zjs {G:Hp}{d:D}{v:V}(r:RD K mg G d v):decide (v = .non)=isN d:=by
 cases d with
 | non=>rw[zbR r]; rfl
 | bl b=>rw[z9o r]; rfl
 | int b=>rw[z0Y r]; rfl
 | str b=>rw[z50 r]; rfl
 | tup l=>obtain⟨a,xs,rfl,_⟩:=z3b r; rfl
 | lst l=>obtain⟨a,xs,rfl,_⟩:=z3c r; rfl
 | dct k v=>rw[RD] at r; obtain⟨a,xs,rfl,_⟩:=r; rfl
 | fn n=>rw[RD] at r; obtain⟨a,rfl,_⟩:=r; rfl
 | exc n=>rw[RD] at r; obtain⟨a,xs,rfl,_⟩:=r; rfl
def zg2:OpR X (compareOp .IsNot) (r2 X.K X.mg zeb):=zi8.imp λx y H Q ⟨G,d1,d2,Q0,X0,g,r1,r2,hr,hk⟩=>by
 have hr':gIs true d1 d2 Q0:=hr;unfold gIs at hr'
 split at hr'
 ·exact⟨zbR r2,by rw[zjs r1]; exact hk.now g hr' RD.bl'⟩
 ·exact hr'.elim
def z2l {g:D->DK->Prop}{m}{ds:List D}{Q:DK}{Xp:XP}(h:(fn1 g m).run ds Q Xp):∃d,ds=[d]/\g d Q:=by
 match ds,h with
 | [a],h=>exact⟨a,rfl,h⟩
 | [],h=>exact h.elim
 | _::_::_,h=>exact h.elim
def zgk {g:D->D->DK->Prop}{m}{ds:List D}{Q:DK}{Xp:XP}(h:(fn2 g m).run ds Q Xp):∃d e,ds=[d,e]/\g d e Q:=by
 match ds,h with
 | [a,b],h=>exact⟨a,b,rfl,h⟩
 | [],h=>exact h.elim
 | [_],h=>exact h.elim
 | _::_::_::_,h=>exact h.elim
def gLen (d:D)(Q:DK):Prop:=match d with
 | .lst l=>Q (.int (l.length:Int))
 | .tup l=>Q (.int (l.length:Int))
 | .str x=>x.length<=sizeLine/\Q (.int (x.length:Int))
 | _=>False
def pLen:Fn:=fn1 gLen λd Q Q' m h=>by
 unfold gLen at h ⊢
 split at h
 ·exact m _ h
 ·exact m _ h
 ·exact⟨h.1,m _ h.2⟩
 ·exact h.elim
def z1V:z19 X (.builtin "len") (rN X.K X.mg pLen):=(z19.or zaQ zaP).imp λvs H Q ⟨G,ds,Q0,X0,g,rds,hr,hk⟩=>by
 obtain⟨d,rfl,hr'⟩:=z2l hr;obtain⟨v,rfl,rd⟩:=rds1 rds;unfold gLen at hr'
 split at hr'
 ·obtain⟨a,xs,rfl,h1,h2⟩:=z3c rd;exact .inl ⟨a,xs,rfl,.inl (z2q g h1),by rw[h2.len]; exact hk.now g hr' RD.int'⟩
 ·obtain⟨a,xs,rfl,h1,h2⟩:=z3b rd;exact .inl ⟨a,xs,rfl,.inr (z1r g h1),by rw[h2.len]; exact hk.now g hr' RD.int'⟩
 ·have e:=z50 rd;subst e;exact .inr ⟨_,rfl,hr'.1,hk.now g hr'.2 RD.int'⟩
 ·exact hr'.elim
def gAbs (d:D)(Q:DK):Prop:=match d with
 | .int i=>Q (.int (if i<0 then -i else i))
 | _=>False
def pAbs:Fn:=fn1 gAbs λd Q Q' m h=>by
 unfold gAbs at h ⊢
 split at h
 ·exact m _ h
 ·exact h.elim
def zaM:z19 X (.builtin "abs") (rN X.K X.mg pAbs):=zgt.imp λvs H Q ⟨G,ds,Q0,X0,g,rds,hr,hk⟩=>by
 obtain⟨d,rfl,hr'⟩:=z2l hr;obtain⟨v,rfl,rd⟩:=rds1 rds;unfold gAbs at hr'
 split at hr'
 ·have e:=z0Y rd;subst e;exact⟨_,rfl,hk.now g hr' RD.int'⟩
 ·exact hr'.elim
def gInt (d:D)(Q:DK):Prop:=match d with
 | .int i=>Q (.int i)
 | .bl b=>Q (.int (if b then 1 else 0))
 | .str x=>∃n,PySem.intText? x=some n/\x.length<=640/\Q (.int n)
 | _=>False
def pInt:Fn:=fn1 gInt λd Q Q' m h=>by
 unfold gInt at h ⊢
 split at h
 ·exact m _ h
 ·exact m _ h
 ·obtain⟨n,h1,h2,h3⟩:=h;exact⟨n,h1,h2,m _ h3⟩
 ·exact h.elim
def zhe:z19 X (.type "int") (rN X.K X.mg pInt):=(z19.or zf6 zf5).imp λvs H Q ⟨G,ds,Q0,X0,g,rds,hr,hk⟩=>by
 obtain⟨d,rfl,hr'⟩:=z2l hr;obtain⟨v,rfl,rd⟩:=rds1 rds;unfold gInt at hr'
 split at hr'
 ·have e:=z0Y rd;subst e;exact .inl (.inl ⟨_,rfl,hk.now g hr' RD.int'⟩)
 ·have e:=z9o rd;subst e;exact .inl (.inr ⟨_,rfl,hk.now g hr' RD.int'⟩)
 ·have e:=z50 rd;subst e;obtain⟨n,h1,h2,h3⟩:=hr';exact .inr ⟨_,n,rfl,h1,h2,hk.now g h3 RD.int'⟩
 ·exact hr'.elim
def zeI (d:D)(Q:DK):Prop:=match d with
 | .lst l=>Q (.tup l)
 | .tup l=>Q (.tup l)
 | _=>False
def z4w:Fn:=fn1 zeI λd Q Q' m h=>by
 unfold zeI at h ⊢
 split at h
 ·exact m _ h
 ·exact m _ h
 ·exact h.elim
def z39:z19 X (.type "tuple") (rN X.K X.mg z4w):=z9Y.imp λvs H Q ⟨G,ds,Q0,X0,g,rds,hr,hk⟩=>by
 obtain⟨d,rfl,hr'⟩:=z2l hr;obtain⟨v,rfl,rd⟩:=rds1 rds;unfold zeI at hr'
 split at hr'
 ·obtain⟨a,xs,rfl,h1,h2⟩:=z3c rd;exact⟨a,xs,rfl,.inl ⟨z2q g h1,λp hp=>hk.new g hp hr' (RD.newT h2 g hp)⟩⟩
 ·obtain⟨a,xs,rfl,h1,h2⟩:=z3b rd;exact⟨a,xs,rfl,.inr ⟨z1r g h1,hk.now g hr' (RD.ofT h1 h2)⟩⟩
 ·exact hr'.elim
def zhb (d:D)(Q:DK):Prop:=match d with
 | .lst l=>Q (.lst l)
 | .tup l=>Q (.lst l)
 | _=>False
def zgZ:Fn:=fn1 zhb λd Q Q' m h=>by
 unfold zhb at h ⊢
 split at h
 ·exact m _ h
 ·exact m _ h
 ·exact h.elim
def rNf (K:W.Frag)(mg:Str->Option Value)(F:Fn):List V->Hp->VK->Prop:=λvs H Q=>∃G ds Q0 X0,Same G H/\RDs K mg G ds vs/\F.run ds Q0 X0/\Kf K mg G H Q0 Q
def Kf.same {G G' H H':Hp}{Q0:DK}{Q:VK}(h:Kf K mg G H Q0 Q)(g:Gr G H G')(k:Same H H'):Kf K mg G' H' Q0 Q:=λd a G1 H1 q g1 g2 g3 hn gn hw=>h d a G1 H1 q (g.trans k g1) g2 (z0a k g3) (z1z k hn) gn hw
def Kf.newL {G H:Hp}{Q0:DK}{Q:VK}{p:Addr}{l:List D}{xs:List V}(h:Kf K mg G H Q0 Q)(g:Same G H)(hp:H p=none)(q:Q0 (.lst l))(r:RDs K mg G l xs):Q (.ref p) (upd H p (.lst xs)):=
 h (.lst l) p G (upd H p (.lst xs)) q Gr.refl (z0a g (z0G hp _)) (z0G hp _) hp (z1z g hp) ⟨xs,z0A,r⟩
def tfN {E:XK}{σ:L2.St}{H:Hp}{Q:VK}{F:Fn}{es:List Ex}(h:tf K mg E (.op F es) σ H Q):tCB (rNf K mg F) (txa K mg E es) σ H Q:=by
 obtain⟨G,ρ,Q0,X0,hs,ab,hr,hk,hx⟩:=h;exact⟨G,ρ,λds=>F.run ds Q0 X0,X0,hs,ab,hr,λds vs G1 H1 hF g1 g2 g3 rd=>⟨G1,ds,Q0,X0,g2,rd,hF,hk.same g1 g3⟩,hx⟩
def zlC {E:XK}{e:Expr}{es:List Expr}{xs:List Ex}{pos:Pos}{f:Str}{pp:Pos}{id:String}{F:Fn}(hc:z19 X (.builtin id) (rNf X.K X.mg F))(hg:Gl X f)(hm:X.mg f=none)(hv:bootBuiltins f=some (.builtin id))(ha:QXA X E (e::es) xs)(hn:f≠"__name__":=by decide)(hdb:(f == ("__debug__":Str))=false:=by decide)
  (he:starEach (e::es) X.env=(false,eval e X.env)::starEach es X.env:=by rfl) (hpl:(backTo pos (starEach es X.env)).any (·.1)=false:=by rfl):QF X E (.Call (.Name f pp) (e::es) [] pos) (.op F xs):=
 QE.imp (z9r hc hg hm hv ha hn hdb he hpl) λ_ _ _ h=>tfN h
def zeJ (d:D)(Q:DK):Prop:=match d with
 | .lst l=>onI (ints? l) λns=>ns≠[]/\∀m,m∈ns->(∀x∈ns,x<=m)->Q (.int m)
 | _=>False
def zd1 (d:D)(Q Q':DK)(m:∀d,Q d->Q' d)(h:zeJ d Q):zeJ d Q':=by
 unfold zeJ at h ⊢
 split at h
 ·exact zc7 (λ_ q=>⟨q.1,λx hx hy=>m _ (q.2 x hx hy)⟩) h
 ·exact h.elim
def gSum (d:D)(Q:DK):Prop:=match d with
 | .lst l=>onI (ints? l) λns=>Q (.int ns.sum)
 | _=>False
def pSum:Fn:=fn1 gSum λd Q Q' m h=>by
 unfold gSum at h ⊢
 split at h
 ·exact zc7 (λ_ q=>m _ q) h
 ·exact h.elim
def zct (hc:X.calm=true):z19 X (.builtin "sum") (rN X.K X.mg pSum):=(zf0 hc).imp λvs H Q ⟨G,ds,Q0,X0,g,rds,hr,hk⟩=>by
 obtain⟨d,rfl,hr'⟩:=z2l hr;obtain⟨v,rfl,rd⟩:=rds1 rds;unfold gSum at hr'
 split at hr'
 ·obtain⟨ns,e,q⟩:=zc6 hr';obtain⟨a,xs,rfl,h1,h2⟩:=z3c rd;rw[z80 e] at h2;rw[z7t ns h2] at h1;exact⟨a,ns,rfl,z2q g h1,hk.now g q RD.int'⟩
 ·exact hr'.elim
def gIx (a b:D)(Q:DK):Prop:=match a,b with
 | .lst l,.int i=>onV (atI l i) Q
 | .tup l,.int i=>onV (atI l i) Q
 | .str x,.int i=>x.length<=sizeLine/\∃c,atI x.cps.toList i=some c/\Q (.str ⟨#[c]⟩)
 | _,_=>False
def zgj (a b:D)(Q Q':DK)(m:∀d,Q d->Q' d)(h:gIx a b Q):gIx a b Q':=by
 unfold gIx at h ⊢
 split at h
 ·exact zc2 m h
 ·exact zc2 m h
 ·obtain⟨h1,c,h2,h3⟩:=h;exact⟨h1,c,h2,m _ h3⟩
 ·exact h.elim
def pIx:Fn:=fn2 gIx zgj
def IxR.imp {r r':R2}(h:IxR X r)(i:∀x y H Q,r' x y H Q->r x y H Q):IxR X r':=λvalue slice pins s σ H x y v u Q I rx ry q hs=>h value slice pins s σ H x y v u Q I rx ry (i x y H Q q) hs
def ix_p:IxR X (r2 X.K X.mg pIx):=IxR.imp zkW λx y H Q ⟨G,d1,d2,Q0,X0,g,r1,r2,hr,hk⟩=>by
 have hr':gIx d1 d2 Q0:=hr;unfold gIx at hr'
 split at hr'
 ·obtain⟨d,e,q⟩:=zc1 hr';obtain⟨a,xs,rfl,h1,h2⟩:=z3c r1;obtain⟨v,e1,rv⟩:=h2.at e;exact .inl ⟨a,xs,_,v,rfl,z0Y r2,z2q g h1,e1,hk.now g q rv⟩
 ·obtain⟨d,e,q⟩:=zc1 hr';obtain⟨a,xs,rfl,h1,h2⟩:=z3b r1;obtain⟨v,e1,rv⟩:=h2.at e;exact .inr (.inl ⟨a,xs,_,v,rfl,z0Y r2,z1r g h1,e1,hk.now g q rv⟩)
 ·obtain⟨h1,c,h2,h3⟩:=hr';exact .inr (.inr ⟨_,_,c,z50 r1,z0Y r2,h1,h2,hk.now g h3 RD.str'⟩)
 ·exact hr'.elim
def z08 {E:XK}{a b:Expr}{x y:Ex}{pos:Pos}(ha:QX X E a x)(hb:QX X E b y)(hs:zbH b):QX X E (.Subscript a b pos) (.op pIx [x,y]):=QE.imp (zlE ix_p ha hb hs) λ_ _ _ h=>tx2 lk2 h
end
end Pu
namespace HT
open PySem PyProof.Rows
section
variable {prog:Program}{w:World}{A:Around}{E:Value->Shared->Prop}{s:Shared}
def zdp {t sl:Addr}{items:Array Value}{vl vu vs:Value}{R:Int × Int × Nat}{Q:Value->Shared->Prop}(ht:IsTup s.heap t items)(hs:s.heap.IsSliceOf sl vl vu vs)
  (ha:∀{A:Around}{E:Value->Shared->Prop}{Q:Int × Int × Nat->Shared->Prop},Q R s->wpAny (model prog w) A (Builtin.Slice.sliceApplied (.ref sl) (pure (items.size:Int))) Q E s) (hsz:R.2.2<=sizeLine)
  (h1:(R.1 == 0 && R.2.1 == 1 && R.2.2 == items.size)=true->Q (.ref t) s)
  (h2:¬ (R.1 == 0 && R.2.1 == 1 && R.2.2 == items.size)=true->Q (.ref s.heap.objs.size) { s with heap:=s.heap.push { cls :=.type "tuple",data :=.seq ((List.range R.2.2).filterMap λ(k:Nat)=>items[(R.1+(k:Int)*R.2.1).toNat]?).toArray } }):
  wpAny (model prog w) A (getItem (.ref t) (.ref sl)) Q E s:=by
 obtain⟨os,hos,hcs,hds⟩:=id hs;have hTs:s.TypeIs (.ref sl) "slice":=⟨os,hos,hcs⟩
 have htake:sizeOk (.seq ((List.range R.2.2).filterMap λ(k:Nat)=>items[(R.1+(k:Int)*R.2.1).toNat]?).toArray):=by
  show ((List.range R.2.2).filterMap λ(k:Nat)=>items[(R.1+(k:Int)*R.2.1).toNat]?).toArray.size<=sizeLine;rw[List.size_toArray];refine Nat.le_trans (List.length_filterMap_le _ _) ?_;rw[List.length_range]; exact hsz
 unfold getItem
 try with_reducible refine wpAny_holding ?_
 first | refine wpAny_bind (wpAny_pure ?_) | skip
 refine wpAny_bind (wpAny_sequenceKey ht.typeIs (by decide) ?_);refine wpAny_bind (wpAny_callSpecial?_slot (name:=Str.ofString "__getitem__") ht.typeIs PyProof.Rows.slot_tuple_getitem
  (wpAny_call_entry PyProof.Rows.slot_tuple_getitem ht.typeIs entry_tuple_getitem ?_ (args_tuple_getitem _ _)))
 show wpAny _ _ (Builtin.Tuple.tupleItemsOf (.ref t) >>= _) _ _ s;refine wpAny_bind (tupleItemsOf_ ht ?_);refine wpAny_bind (wpAny_typeOf hTs ?_);rw[if_pos (by decide)];refine wpAny_bind (ha ?_);obtain⟨r1,r2,r3⟩:=R;show wpAny _ _ (if (r1 == 0 && r2 == 1 && r3 == items.size)=true then _ else _) _ _ s
 by_cases hb:(r1 == 0 && r2 == 1 && r3 == items.size)=true
 ·rw[if_pos hb];refine wpAny_bind (m:=Builtin.Tuple.tupleIsExact (.ref t)) ?_;refine wpAny_bind (wpAny_typeOf ht.typeIs (wpAny_pure ?_));rw[if_pos (by decide)]
  first
   | exact wpAny_bind (wpAny_pure (wpAny_pure ⟨_,rfl,wpAny_pure (h1 hb)⟩))
   | exact wpAny_bind (wpAny_rule (wpAny_pure ⟨_,rfl,wpAny_pure (h1 hb)⟩))
   | exact wpAny_bind (wpAny_rule (wpAny_bind (wpAny_pure (wpAny_pure ⟨_,rfl,wpAny_pure (h1 hb)⟩))))
   | exact wpAny_pure ⟨_,rfl,wpAny_pure (h1 hb)⟩
 ·rw[if_neg hb];have h:=h2 hb
  first
   | exact wpAny_bind (m:=Builtin.Tuple.tupleExact _) (wpAny_newObj_type (wpAny_pure ⟨_,rfl,wpAny_pure h⟩) htake)
   | exact wpAny_bind (m:=Builtin.Tuple.tupleExact _) (wpAny_newObj_type (wpAny_bind (wpAny_pure (wpAny_pure ⟨_,rfl,wpAny_pure h⟩))) htake)
   | exact wpAny_bind (wpAny_bind (m:=Builtin.Tuple.tupleExact _) (wpAny_newObj_type (wpAny_pure (wpAny_pure ⟨_,rfl,wpAny_pure h⟩)) htake))
   | exact wpAny_bind (wpAny_bind (m:=Builtin.Tuple.tupleExact _) (wpAny_newObj_type (wpAny_pure ⟨_,rfl,wpAny_pure h⟩) htake))
end
end HT
namespace Pu
open PySem PySem.Spec PyProof.Rows L2
def part (o:Option Ex)(ρ:Pu.Env)(K:Option Int->Prop)(X:XP):Prop:=match o with
 | none=>K none
 | some e=>e.run ρ (λd=>isI d λi=>K (some i)) X
def z6t {o:Option Ex}{ρ:Pu.Env}{K K':Option Int->Prop}{X X':XP}(m:∀i,K i->K' i)(mx:∀x,X x->X' x)(h:part o ρ K X):part o ρ K' X':=by
 cases o with
 | none=>exact m _ h
 | some e=>exact e.mono ρ _ _ X X' (λd q=>z6A (λi q=>m _ q) q) mx h
def cutD (l:List D)(lo hi:Option Int):List D:=(l.drop (HT.sIx l.length 0 lo)).take (HT.sIx l.length l.length hi - HT.sIx l.length 0 lo)
def slcD (d:D)(lo hi:Option Int)(Q:DK):Prop:=match d with
 | .lst l=>Q (.lst (cutD l lo hi))
 | .tup l=>Q (.tup (cutD l lo hi))
 | .str x=>x.length<=sizeLine/\Q (.str (Txt.slice x lo hi))
 | _=>False
def zdA {d:D}{lo hi:Option Int}{Q Q':DK}(m:∀d,Q d->Q' d)(h:slcD d lo hi Q):slcD d lo hi Q':=by
 unfold slcD at h ⊢
 split at h
 ·exact m _ h
 ·exact m _ h
 ·exact⟨h.1,m _ h.2⟩
 ·exact h.elim
def Ex.sl (e:Ex)(lo hi:Option Ex):Ex:=⟨λρ Q X=>e.run ρ (λd=>part lo ρ (λl=>part hi ρ (λu=>slcD d l u Q) X) X) X,λρ Q Q' X X' m mx q=>e.mono ρ _ _ X X' (λd q=>z6t (λl q=>z6t (λu q=>zdA m q) mx q) mx q) mx q⟩
def zcL (l:List D)(lo hi:Option Int)(st:Int):List D:=(sliceRange (sliceBounds lo hi (some st) l.length).1 (sliceBounds lo hi (some st) l.length).2.1 (sliceBounds lo hi (some st) l.length).2.2).filterMap (l[·]?)
def slsD (d:D)(lo hi:Option Int)(st:Int)(Q:DK):Prop:=st≠0/\match d with
 | .lst l=>Q (.lst (zcL l lo hi st))
 | _=>False
def zdy {d:D}{lo hi:Option Int}{st:Int}{Q Q':DK}(m:∀d,Q d->Q' d)(h:slsD d lo hi st Q):slsD d lo hi st Q':=by
 refine⟨h.1,?_⟩;have h2:=h.2
 split at h2
 ·exact m _ h2
 ·exact h2.elim
def Ex.sls (e:Ex)(lo hi:Option Ex)(st:Ex):Ex:=⟨λρ Q X=>e.run ρ (λd=>part lo ρ (λl=>part hi ρ (λu=>st.run ρ (λk=>isI k λk=>slsD d l u k Q) X) X) X) X,λρ Q Q' X X' m mx q=>e.mono ρ _ _ X X' (λd q=>z6t (λl q=>z6t (λu q=>st.mono ρ _ _ X X' (λk q=>z6A (λk q=>zdy m q) q) mx q) mx q) mx q) mx q⟩
def rSlP (K:W.Frag)(mg:Str->Option Value):V->Option Int->Option Int->Hp->VK->Prop:=λx lo hi H Q=>∃G d Q0,Same G H/\RD K mg G d x/\slcD d lo hi Q0/\Kt K mg G H Q0 Q
section
variable {X:Cx}{K:W.Frag}{mg:Str->Option Value}{E:XK}
def zfp:SlR X (λx lo hi H Q=>∃a xs,x = .ref a/\SqT X.K H a xs/\(HT.sIx xs.length 0 lo=0/\HT.sIx xs.length xs.length hi=xs.length)/\Q (.ref a) H):=by
 intro pins s σ H x v vl vu lo hi sl Q I rx hs pl pu h;obtain⟨a,xs,rfl,hx,hw,q⟩:=h
 cases rx
 obtain⟨its,r,ht,hz⟩:=I.tuple hx;have hlen:its.toArray.size=xs.length:=by rw[List.size_toArray]; exact r.length.symm
 refine⟨"tuple",_,PyProof.Rows.slot_tuple_getitem.lookup,ht.typeIs,?_⟩;refine HT.zdp (R:=(((HT.sIx its.toArray.size 0 lo:Nat):Int),1,HT.sIx its.toArray.size its.toArray.size hi - HT.sIx its.toArray.size 0 lo)) ht hs (λh=>HT.z4M hs pl pu h) ?_ (λ_=>⟨.ref a,H,I,rfl,q⟩) (λz =>?_)
 ·rw[hlen]; dsimp only; rw[hw.1,hw.2]; omega
 ·rw[hlen] at z;exact absurd (by dsimp only; rw[hw.1,hw.2]; simp) z
def zd8 {xs:List D}{lo hi:Option Int}(h:HT.sIx xs.length 0 lo=0/\HT.sIx xs.length xs.length hi=xs.length):cutD xs lo hi=xs:=by
 unfold cutD;rw[h.1,h.2];simp
def sl_p:SlR X (rSlP X.K X.mg):=((zhq.or (zja.or zfp)).or zjb).imp λx lo hi H Q ⟨G,d,Q0,g,rd,hr,hk⟩=>by
 unfold slcD at hr
 split at hr
 ·obtain⟨a,xs,rfl,h1,h2⟩:=z3c rd;exact .inl (.inl ⟨a,xs,rfl,z2q g h1,λp hp=>hk.new g hp hr (RD.newL (h2.cut lo hi) g hp)⟩)
 ·obtain⟨a,xs,rfl,h1,h2⟩:=z3b rd
  by_cases hw:HT.sIx xs.length 0 lo=0/\HT.sIx xs.length xs.length hi=xs.length
  ·refine .inl (.inr (.inr ⟨a,xs,rfl,z1r g h1,hw,hk.now g hr ?_⟩));rw[h2.len] at hw;rw[zd8 hw];exact RD.ofT h1 h2
  ·exact .inl (.inr (.inl ⟨a,xs,rfl,z1r g h1,hw,λp hp=>hk.new g hp hr (RD.newT (h2.cut lo hi) g hp)⟩))
 ·exact .inr ⟨_,z50 rd,hr.1,hk.now g hr.2 RD.str'⟩
 ·exact hr.elim
def z7D (K:W.Frag)(mg:Str->Option Value)(E:XK)(o:Option Ex):TO:=λσ H Q=>∃G ρ Q0 X0,Same G H/\AbE K mg G ρ σ/\part o ρ Q0 X0/\(∀i G' H',Q0 i->Gr G H G'->Same G' H'->Same H H'->Q i H')/\Kx mg H X0 E
def QO.imp {e:Option Expr}{t t':TO}(h:QO X e t)(i:∀σ H Q,t' σ H Q->t σ H Q):QO X e t':=⟨λpins s σ H Q I q=>h.p pins s σ H Q I (i σ H Q q)⟩
def z64:QO X none (z7D X.K X.mg E none):=QO.imp zhN λσ H Q ⟨G,ρ,Q0,X0,hs,ab,hr,hk,hx⟩=>hk none G H hr Gr.refl hs Same.refl'
def z4i {e:Expr}{x:Ex}(h:QX X E e x):QO X (some e) (z7D X.K X.mg E (some x)):=QO.imp (zhM h) λσ H Q ⟨G,ρ,Q0,X0,hs,ab,hr,hk,hx⟩=>by
 refine⟨G,ρ,_,X0,hs,ab,hr,λd v G1 H1 q g1 g2 g3 rd =>?_,hx⟩;obtain⟨i,rfl,q⟩:=z9M q;exact⟨i,z0Y rd,hk (some i) G1 H1 q g1 g2 g3⟩
def zlg {σ:L2.St}{H:Hp}{Q:VK}{e:Ex}{lo hi:Option Ex}(h:tx K mg E (.sl e lo hi) σ H Q):tSl (rSlP K mg) (tx K mg E e) (z7D K mg E lo) (z7D K mg E hi) σ H Q:=by
 obtain⟨G,ρ,Q0,X0,hs,ab,hr,hk,hx⟩:=h;refine⟨G,ρ,_,X0,hs,ab,hr,λd v G1 H1 q g1 g2 g3 rd =>?_,hx⟩;refine⟨G1,ρ,_,X0,g2,ab.same g1.1,q,λl G2 H2 q k1 k2 k3 =>?_,hx.same g3⟩;refine⟨G2,ρ,_,X0,k2,ab.same (z0a g1.1 k1.1),q,λu G3 H3 q n1 n2 n3 =>?_,hx.same (z0a g3 k3)⟩;exact⟨G3,d,Q0,n2,rd.same (z0a k1.1 n1.1),q,hk.same (g1.trans g3 (k1.trans k3 n1)) (z0a g3 (z0a k3 n3))⟩
def zbe {e:Expr}{x:Ex}{lo hi:Option Expr}{l u:Option Ex}{p2 pos:Pos}(he:QX X E e x)(hl:QO X lo (z7D X.K X.mg E l))(hu:QO X hi (z7D X.K X.mg E u)):QX X E (.Subscript e (.Slice lo hi none p2) pos) (.sl x l u):=QE.imp (zfH sl_p he hl hu) λ_ _ _ h=>zlg h
def SlR3 (X:Cx)(r:V->Option Int->Option Int->Int->Hp->VK->Prop):Prop:=
 ∀(pins:List (Addr × Obj)) (s:Shared) (σ:L2.St) (H:Hp) (x:V) (v vl vu vs:Value) (lo hi:Option Int) (st:Int) (sl:Addr) (Q:VK),Inv X pins σ H s->RelV x v->s.heap.IsSliceOf sl vl vu vs->IsPart vl lo->IsPart vu hi->IsPart vs (some st)->r x lo hi st H Q->
  ∃T id,typeLookup (.type T) "__getitem__"=pure (some (.builtin id))/\s.TypeIs v T/\wpAny (model X.prog X.w) X.A (getItem v (.ref sl)) (EP X pins σ Q) X.xe s
def tSl3 (r:V->Option Int->Option Int->Int->Hp->VK->Prop)(te:TE)(tl th ts:TO):TE:=λσ H Q=>te σ H λx H1=>tl σ H1 λl H2=>th σ H2 λu H3=>ts σ H3 λk H4=>∃st,k=some st/\r x l u st H4 Q
def ze7 {e st:Expr}{te:TE}{lo hi:Option Expr}{tl th ts:TO}{p2 pos:Pos}{r:V->Option Int->Option Int->Int->Hp->VK->Prop}(hr:SlR3 X r)(he:PE X e te)(hl:PO X lo tl)(hu:PO X hi th)(hst:PO X (some st) ts):PE X (.Subscript e (.Slice lo hi (some st) p2) pos) (tSl3 r te tl th ts):=by
 intro pins s σ H Q I h;refine Subscript_ (thn (he pins s σ H _ I h) λv s1 ⟨x,H1,I1,r1,q1⟩ =>?_);refine wpAny_Slice (thn (hl pins s1 σ H1 _ I1 q1) λvl s2 ⟨l,H2,I2,pl,q2⟩=>thn (hu pins s2 σ H2 _ I2 q2) λvu s3 ⟨u,H3,I3,pu,q3⟩ =>?_);refine thn (hst pins s3 σ H3 _ I3 q3) λvs s4 ⟨o,H4,I4,ps,k,ek,q4⟩ =>?_;subst ek;have I5:Inv X pins σ H4 { s4 with heap:=s4.heap.push { cls :=.type "slice",data :=.fields #[vl,vu,vs] } }:=I4.kept (t':=s4.toks) λb ob q=>Heap.get?_push_of_some _ q;obtain⟨T,id,hT,ht,hg⟩:=hr pins { s4 with heap:=s4.heap.push { cls :=.type "slice",data :=.fields #[vl,vu,vs] } } σ H4 x v vl vu vs l u k s4.heap.objs.size Q I5 r1 (Heap.IsSliceOf.new ..) pl pu ps q4;show wpAny (model X.prog X.w) X.A (subscriptTail e (.Slice lo hi (some st) p2) v (.ref s4.heap.objs.size)) (EP X pins σ Q) X.xe { s4 with heap:=s4.heap.push { cls :=.type "slice",data :=.fields #[vl,vu,vs] } };exact tail_any (ops:=[v,.ref s4.heap.objs.size]) ht hT hg (by with_unfolding_all rfl)
def zju (K:W.Frag)(mg:Str->Option Value):V->Option Int->Option Int->Int->Hp->VK->Prop:=λx lo hi st H Q=>∃G d Q0,Same G H/\RD K mg G d x/\slsD d lo hi st Q0/\Kt K mg G H Q0 Q
def RDs.pick {G:Hp}{l:List D}{xs:List V}{is:List Nat}(r:RDs K mg G l xs):RDs K mg G (is.filterMap (l[·]?)) (is.filterMap (xs[·]?)):=by
 induction is with
 | nil=>exact RDs.nil
 | cons i is ih=>
  rw[List.filterMap_cons,List.filterMap_cons]
  cases e:l[i]? with
  | none=>
   have:xs[i]? = none:=by
    rw[List.getElem?_eq_none_iff] at e ⊢;rw[r.len]; exact e
   rw[this]; exact ih
  | some d=>
   obtain⟨v,ev,rv⟩:=r.get e;rw[ev];exact RDs.cons rv ih
def zdk {xs:List V}{us:List Value}{is:List Nat}(r:Vals xs us):Vals (is.filterMap (xs[·]?)) (is.filterMap (us[·]?)):=by
 induction is with
 | nil=>exact .nil
 | cons i is ih=>
  rw[List.filterMap_cons,List.filterMap_cons]
  cases e:xs[i]? with
  | none=>rw[r.none_of e]; exact ih
  | some d=>
   obtain⟨v,ev,rv⟩:=r.get e;rw[ev];exact .cons rv ih
def zhp:SlR3 X (zju X.K X.mg):=by
 intro pins s σ H x v vl vu vs lo hi st sl Q I rx hs pl pu ps ⟨G,d,Q0,g,rd,⟨h0,hr⟩,hk⟩
 split at hr
 ·rename_i l
  obtain⟨a,xs,rfl,h1,h2⟩:=z3c rd
  cases rx
  obtain⟨its,r,ht,hz⟩:=I.list (z2q g h1);have hlen:=r.length;refine⟨"list",_,slot_list_getitem.lookup,ht.isList.typeIs,?_⟩;refine wpAny_getItem_list_slice ht.isList hs pl pu ps (by simpa using h0) ?_ (by rw[List.size_toArray] <;> omega);have hp:H s.heap.objs.size=none:=I.hok.fresh (Nat.le_refl _);have hll:l.length=its.toArray.size:=by rw[List.size_toArray, <- hlen,h2.len]
  have es:slicePick its.toArray lo hi (some st)=(((sliceRange (sliceBounds lo hi (some st) l.length).1 (sliceBounds lo hi (some st) l.length).2.1 (sliceBounds lo hi (some st) l.length).2.2)).filterMap (its[·]?)).toArray:=by
   unfold slicePick;rw[hll];simp
  have hn:(zcL l lo hi st).length<=sizeLine:=by
   unfold zcL;refine Nat.le_trans (List.length_filterMap_le _ _) (Nat.le_trans (sliceRange_length_le _ _ _ l.length ?_ ?_) (by rw[hll,List.size_toArray, <- hlen]; exact hz))
   all_goals
    intro hc;unfold sliceBounds at hc ⊢;simp only[Option.getD_some] at hc ⊢
    cases lo <;> cases hi <;> simp only[hc,if_true,if_false] <;> (try split) <;> (try split) <;> omega
  refine⟨.ref s.heap.objs.size,_,I.laid (t':=s.toks) (o :=.lst ((sliceRange (sliceBounds lo hi (some st) l.length).1 (sliceBounds lo hi (some st) l.length).2.1 (sliceBounds lo hi (some st) l.length).2.2).filterMap (xs[·]?))) (λb ob q=>Heap.get?_push_of_some _ q) (Nat.le_refl _) ?_,rfl,hk.new g hp hr (RD.newL h2.pick g hp)⟩;refine⟨by rw[(h2.pick (is:=_)).len]; exact hn,_,0,zdk r,?_⟩;rw[<- es];exact Heap.get?_push_size _ rfl
 ·exact hr.elim
def ziS {σ:L2.St}{H:Hp}{Q:VK}{e st:Ex}{lo hi:Option Ex}(h:tx K mg E (.sls e lo hi st) σ H Q):tSl3 (zju K mg) (tx K mg E e) (z7D K mg E lo) (z7D K mg E hi) (z7D K mg E (some st)) σ H Q:=by
 obtain⟨G,ρ,Q0,X0,hs,ab,hr,hk,hx⟩:=h;refine⟨G,ρ,_,X0,hs,ab,hr,λd v G1 H1 q g1 g2 g3 rd =>?_,hx⟩;refine⟨G1,ρ,_,X0,g2,ab.same g1.1,q,λl G2 H2 q k1 k2 k3 =>?_,hx.same g3⟩;refine⟨G2,ρ,_,X0,k2,ab.same (z0a g1.1 k1.1),q,λu G3 H3 q n1 n2 n3 =>?_,hx.same (z0a g3 k3)⟩;refine⟨G3,ρ,λk=>∃i,k=some i/\slsD d l u i Q0,X0,n2,ab.same (z0a g1.1 (z0a k1.1 n1.1)),st.mono ρ _ _ X0 X0 (λk q=>z6A (λi q=>⟨i,rfl,q⟩) q) (λ_ z=>z) q,λk G4 H4 q m1 m2 m3 =>?_,hx.same (z0a g3 (z0a k3 n3))⟩;obtain⟨i,rfl,q⟩:=q;exact⟨i,rfl,G4,d,Q0,m2,rd.same (z0a k1.1 (z0a n1.1 m1.1)),q,hk.same (g1.trans g3 (k1.trans k3 (n1.trans n3 m1))) (z0a g3 (z0a k3 (z0a n3 m3)))⟩
def zjw {e st:Expr}{x y:Ex}{lo hi:Option Expr}{l u:Option Ex}{p2 pos:Pos}(he:QX X E e x)(hl:QO X lo (z7D X.K X.mg E l))(hu:QO X hi (z7D X.K X.mg E u))(hst:QX X E st y):QX X E (.Subscript e (.Slice lo hi (some st) p2) pos) (.sls x l u y):=
 QE.imp (⟨ze7 zhp he.p hl.p hu.p (z4i hst).p⟩:QE X (.Subscript e (.Slice lo hi (some st) p2) pos) _) λ_ _ _ h=>ziS h
end
section
variable {X:Cx}{K:W.Frag}{mg:Str->Option Value}{E:XK}
def isiD (T:String):D->Option Bool
 | .int _=>some (T == "int")
 | .bl _=>some (T == "int" || T == "bool")
 | .str _=>some (T == "str")
 | .tup _=>some (T == "tuple")
 | .lst _=>some (T == "list")
 | .non=>some false
 | _=>none
def onB (o:Option Bool)(Q:Bool->Prop):Prop:=match o with
 | some b=>Q b
 | none=>False
def zfZ {o:Option Bool}{Q Q':Bool->Prop}(m:∀b,Q b->Q' b)(h:onB o Q):onB o Q':=by
 cases o with
 | none=>exact h
 | some b=>exact m _ h
def pIsi (T:String):Fn:=fn1 (λd Q=>onB (isiD T d) λb=>Q (.bl b)) λd Q Q' m h=>zfZ (λb q=>m _ q) h
def zi5:Fn:=fn1 zeJ zd1
def ziF (hc:X.calm=true):z19 X (.builtin "max") (rN X.K X.mg zi5):=(zf3 hc).imp λvs H Q ⟨G,ds,Q0,X0,g,rds,hr,hk⟩=>by
 obtain⟨d,rfl,hr'⟩:=z2l hr;obtain⟨v,rfl,rd⟩:=rds1 rds;unfold zeJ at hr'
 split at hr'
 ·obtain⟨ns,e,hne,q⟩:=zc6 hr';obtain⟨a,xs,rfl,h1,h2⟩:=z3c rd;rw[z80 e] at h2;rw[z7t ns h2] at h1;exact⟨a,ns,rfl,z2q g h1,hne,λm hm hx=>hk.now g (q m hm hx) RD.int'⟩
 ·exact hr'.elim
def zcl {g:Int->Int->DK->Prop}{hg}{ds:List D}{Q:DK}{Xp:XP}(h:(fnI g hg).run ds Q Xp):∃i j,ds=[.int i,.int j]/\g i j Q:=by
 obtain⟨d,e,rfl,h'⟩:=zgk (m:=zeK hg) h;obtain⟨i,j,rfl,rfl,q⟩:=z9R h';exact⟨i,j,rfl,q⟩
def zi4:Fn:=fnI (λi j Q=>Q (.int (if j > i then j else i))) λ_ _ _ _ m h=>m _ h
def zi3:Fn:=fnI (λi j Q=>Q (.int (if j<i then j else i))) λ_ _ _ _ m h=>m _ h
def ziE (hc:X.calm=true):z19 X (.builtin "max") (rN X.K X.mg zi4):=(zf4 hc).imp λvs H Q ⟨G,ds,Q0,X0,g,rds,hr,hk⟩=>by
 obtain⟨i,j,rfl,q⟩:=zcl hr;obtain⟨v,w,rfl,r1,r2⟩:=rds2 rds;exact⟨i,j,by rw[z0Y r1,z0Y r2],hk.now g q RD.int'⟩
def ziD (hc:X.calm=true):z19 X (.builtin "min") (rN X.K X.mg zi3):=(zf2 hc).imp λvs H Q ⟨G,ds,Q0,X0,g,rds,hr,hk⟩=>by
 obtain⟨i,j,rfl,q⟩:=zcl hr;obtain⟨v,w,rfl,r1,r2⟩:=rds2 rds;exact⟨i,j,by rw[z0Y r1,z0Y r2],hk.now g q RD.int'⟩
end
def GlS (sc:Scope)(x:Str):Prop:=sc.names.lookup x=some .globalImplicit
structure Nm (sc:Scope)(x:Str):Prop where
 loc:Loc sc x
 hd:(x == ("__debug__":Str))=false
 hcd:(x == ("__classdict__":Str))=false
def Nm.vis {sc:Scope}{x:Str}(h:Nm sc x):Vis sc x:=h.loc.elim .inl λz =>.inr (.inl z)
section
variable {CX:CXT}{P:Program}{w:World}{K:W.Frag}{mg:Str->Option Value}{base:Heap}{N:List Str}{qual:Str}{sc:Scope}{f:Addr}{cdv:Value}{A:Around}{outer:List PySem.Env}{s:Shared}{H:Hp}{E:XK}{xe:Value->Shared->Prop}{x:Str}{pos pos2:Pos}{e:Expr}{te:TE}
def vg (i:Nat)(h:Nm sc x)(hN:N[i]? = some x:=by rfl):QE ((cxOf CX P w K mg base N qual sc f cdv A outer s H E).wish xe) (.Name x pos) (tVar i):=⟨zgX hN h.vis h.hd h.hcd⟩
def ng (i:Nat)(nd:N.Nodup)(h:Nm sc x)(hN:N[i]? = some x:=by rfl):QG ((cxOf CX P w K mg base N qual sc f cdv A outer s H E).wish xe) (.Name x pos) (z5l i):=⟨ze5 nd hN h.loc (.inl rfl)⟩
def ag (i:Nat)(nd:N.Nodup)(h:Nm sc x)(he:QE ((cxOf CX P w K mg base N qual sc f cdv A outer s H E).wish xe) e te)(hN:N[i]? = some x:=by rfl)(hs:swapsWith e (some (.Name x pos2)) pos.line ((cxOf CX P w K mg base N qual sc f cdv A outer s H E).wish xe).env=pure false:=by rfl):QS ((cxOf CX P w K mg base N qual sc f cdv A outer s H E).wish xe) (.Assign [.Name x pos2] e pos) (tAsg te (z5l i)):=⟨zjU nd hN h.loc he.p hs (.inl rfl)⟩
def glg (h:GlS sc x):Gl ((cxOf CX P w K mg base N qual sc f cdv A outer s H E).wish xe) x:=h
end
def spL (K:W.Frag):Sp:=λvs H Q _=>∃(a:Addr) (ns:List Int),vs=[.ref a]/\SqL K H a (ns.map V.int)/\ns.length<=63/\∀H',Q (.bl true) H'
def zkO {P:Program}{w:World}{K:W.Frag}{mg:Str->Option Value}{base:Heap}{CX:CXT}{k:Nat}{f:Addr}{fd:FuncData}{ps:List Str}{F:Fn}(h:∀ns:List Int,ns.length<=63->F.run [.lst (ns.map .int)] (λd=>d = .bl true) (λ_=>False))(ok:FnOk P w K mg base CX k f fd ps (spP K mg F)):FnOk P w K mg base CX k f fd ps (spL K):=
 ok.imp λvs H Q E ⟨a,ns,e,hS,hl,q⟩=>⟨H,[.lst (ns.map .int)],_,_,Same.refl',by rw[e]; exact RDs.cons (RD.ofL hS (z9N ns)) RDs.nil,h ns hl,λd v G' H' e g1 g2 g3 rd=>by
  subst e;rw[z9o rd];exact q H',Kx.no⟩
end Pu
namespace Pu
open PySem L2
open Builtin.Int (intBits)
section
variable {ρ:Pu.Env}{Q:DK}{X:XP}{N:Pu.Env->Prop}{a b c e:Ex}{s t:Sm}{F:Fn}{d:D}{i j:Nat}
def zek {d:D}(q:Q d):onV (some d) Q:=q
def e_c (q:Q d):(Ex.c d).run ρ Q X:=q
def e_v (q:onV (ρ.get i) Q):(Ex.v i).run ρ Q X:=q
def zmi (q:a.run ρ (λx=>F.run [x] Q X) X):(Ex.op F [a]).run ρ Q X:=q
def zmh (q:a.run ρ (λx=>b.run ρ (λy=>F.run [x,y] Q X) X) X):(Ex.op F [a,b]).run ρ Q X:=q
def zmg (q:a.run ρ (λx=>b.run ρ (λy=>c.run ρ (λz=>F.run [x,y,z] Q X) X) X) X):(Ex.op F [a,b,c]).run ρ Q X:=q
def zmf (q:a.run ρ (λx=>b.run ρ (λy=>c.run ρ (λz=>e.run ρ (λu=>F.run [x,y,z,u] Q X) X) X) X) X):(Ex.op F [a,b,c,e]).run ρ Q X:=q
def zme {es:List Ex}(q:runs es ρ (λds=>F.run ds Q X) X):(Ex.op F es).run ρ Q X:=q
def zjr {Q:List D->Prop}(q:Q []):runs [] ρ Q X:=q
def zhD {es:List Ex}{Q:List D->Prop}(q:a.run ρ (λd=>runs es ρ (λds=>Q (d::ds)) X) X):runs (a::es) ρ Q X:=q
def zml (q:a.run ρ (λd=>tst d (b.run ρ Q X) (Q (.bl false))) X):(Ex.and a b).run ρ Q X:=q
def e_or (q:a.run ρ (λd=>tst d (Q (.bl true)) (b.run ρ Q X)) X):(Ex.or a b).run ρ Q X:=q
def notD (d:D)(Q:DK):Prop:=match d with
 | .bl b=>Q (.bl (!b))
 | _=>False
def zmj (q:a.run ρ (λd=>notD d Q) X):(Ex.not a).run ρ Q X:=q
def n_bl {k:Bool}(q:Q (.bl (!k))):notD (.bl k) Q:=q
def zmk (q:c.run ρ (λd=>tst d (a.run ρ Q X) (b.run ρ Q X)) X):(Ex.ifx c a b).run ρ Q X:=q
def zl3 {nt:Nat}{js:List Nat}{tg:Tg}{src:Ex}{ct:Option Ex}{elt:Ex}(q:src.run ρ (λd=>onL (items d) λl=>l.length<sizeLine/\z6g (z6O tg ct elt (z2f nt js ρ)) l λr=>Q (.lst r)) X):(Ex.comp nt js tg src ct elt).run ρ Q X:=q
def zm9 {l:List D}{K:List D->Prop}(q:K l):onL (items (.lst l)) K:=q
def zm8 {l:List D}{K:List D->Prop}(q:K l):onL (items (.tup l)) K:=q
def e_sl {lo hi:Option Ex}(q:a.run ρ (λd=>part lo ρ (λl=>part hi ρ (λu=>slcD d l u Q) X) X) X):(Ex.sl a lo hi).run ρ Q X:=q
def zmd {lo hi:Option Ex}(q:a.run ρ (λd=>part lo ρ (λl=>part hi ρ (λu=>b.run ρ (λk=>isI k λk=>slsD d l u k Q) X) X) X) X):(Ex.sls a lo hi b).run ρ Q X:=q
def zkf {K:Option Int->Prop}(q:K none):part none ρ K X:=q
def zke {K:Option Int->Prop}(q:a.run ρ (λd=>isI d λi=>K (some i)) X):part (some a) ρ K X:=q
def zkX {k:Int}{K:Int->Prop}(q:K k):isI (.int k) K:=q
def zmq {l:List D}{lo hi:Option Int}(q:Q (.lst (cutD l lo hi))):slcD (.lst l) lo hi Q:=q
def zmp {l:List D}{lo hi:Option Int}(q:Q (.tup (cutD l lo hi))):slcD (.tup l) lo hi Q:=q
def za7 {A B:Prop}(h:A):tst (.bl true) A B:=⟨λ_=>h,(λz=>by cases z)⟩
def z5Z {A B:Prop}(h:B):tst (.bl false) A B:=⟨(λz=>by cases z),λ_=>h⟩
def z3p {d:D}{ρ:Pu.Env}{B:Prop}(h:Safe d ρ)(q:B):Safe d ρ/\B:=⟨h,q⟩
def z3H {d:D}{ρ:Pu.Env}{B:Prop}(h:zfe d ρ)(q:B):zfe d ρ/\B:=⟨h,q⟩
def z2d {p:Prop}[Decidable p]{A B:Prop}(h:p->A)(h':¬ p->B):tst (.bl (decide p)) A B:=⟨λe=>h (of_decide_eq_true e),λe=>h' (of_decide_eq_false e)⟩
def z9g {p:Prop}[Decidable p]{A B:Prop}(hp:p)(h:A):tst (.bl (decide p)) A B:=z2d (λ_=>h) λn=>(n hp).elim
def t_no {p:Prop}[Decidable p]{A B:Prop}(hp:¬ p)(h:B):tst (.bl (decide p)) A B:=z2d (λy=>(hp y).elim) λ_=>h
def zb6 {k:Bool}{A B:Prop}(h:tst (.bl k) B A):tst (.bl (!k)) A B:=by
 cases k
 ·exact za7 (h.2 rfl)
 ·exact z5Z (h.1 rfl)
def zj0 {k:Bool}{A B:Prop}(e:k=true)(h:A):tst (.bl k) A B:=by rw[e]; exact za7 h
def zlj {k:Bool}{A B:Prop}(e:k=false)(h:B):tst (.bl k) A B:=by rw[e]; exact z5Z h
def zgH (q:N ρ):Sm.skip.run ρ N Q X:=q
def z9l (q:s.run ρ (λρ'=>t.run ρ' N Q X) Q X):(Sm.seq s t).run ρ N Q X:=q
def zlk (q:a.run ρ (λd=>Safe d (ρ.set i .n)/\N (ρ.set i (.s d))) X):(Sm.set i a).run ρ N Q X:=q
def zfx (q:a.run ρ (λd=>zfe d (ρ.set i .n)/\N (ρ.set i (.o d))) X):(Sm.own i a).run ρ N Q X:=q
def zjh {js:List Nat}(q:a.run (vis (dem js ρ)) (λd=>N ((dem js ρ).set i (.s d))) X):(Sm.setx js i a).run ρ N Q X:=q
def s_if (q:c.run ρ (λd=>tst d (s.run ρ N Q X) (t.run ρ N Q X)) X):(Sm.ifs c s t).run ρ N Q X:=q
def zll (q:a.run ρ Q X):(Sm.ret a).run ρ N Q X:=q
def zji (q:Q .non):Sm.retN.run ρ N Q X:=q
def s_ex (q:a.run ρ (λ_=>N ρ) X):(Sm.ex a).run ρ N Q X:=q
def zhw {x:Str}(q:X x):(Sm.raise x).run ρ N Q X:=q
def zjo (q:s.run ρ N Q (λ_=>False)):(Sm.calm s).run ρ N Q X:=q
def zlm {js:List Nat}{tg:Tg}(q:a.run (vis (dem js ρ)) (λd=>onL (items d) λl=>forL tg s N Q X l (dem js ρ)) X):(Sm.for_ js tg a s).run ρ N Q X:=q
def zhB {tg:Tg}(q:a.run ρ (λd=>onR [d] λl=>forL tg s N Q X l ρ) X):(Sm.forr [a] tg s).run ρ N Q X:=q
def zhA {tg:Tg}(q:a.run ρ (λd=>b.run ρ (λd'=>onR [d,d'] λl=>forL tg s N Q X l ρ) X) X):(Sm.forr [a,b] tg s).run ρ N Q X:=q
def z9m {l:List D}(h:ownL ρ i λl=>a.run ρ (λd=>l.length<sizeLine/\Safe d ρ/\N (ρ.set i (.o (.lst (l++[d]))))) X):(Sm.app i a).run ρ N Q X:=h
def zjj (h:ownL ρ i λl=>popL l λl' _=>N (ρ.set i (.o (.lst l')))):(Sm.pop i).run ρ N Q X:=h
def zhx (h:ownL ρ i λl=>a.run ρ (λd=>Safe d ρ/\b.run ρ (λkd=>isI kd λz=>onN (ixN l.length z) λj=>N (ρ.set i (.o (.lst (l.set j d))))) X) X):(Sm.put i b a).run ρ N Q X:=h
def zln {np nn:Nat}{ds:List D}(h:ds.length=np)(q:s.run (ds.map B.s++List.replicate (nn - np) .n) (λ_=>Q .non) Q (λ_=>False)):(Fn.mkN np nn s).run ds Q X:=⟨h,q⟩
def zlo {np nn:Nat}{ds:List D}(h:ds.length=np)(q:s.run (ds.map B.s++List.replicate (nn - np) .n) (λ_=>Q .non) Q X):(Fn.mk' np nn s).run ds Q X:=⟨h,q⟩
def Sm.cut (W:Pu.Env->Prop)(h:s.run ρ W Q X)(k:∀ρ',W ρ'->t.run ρ' N Q X):(Sm.seq s t).run ρ N Q X:=s.mono ρ W (λρ'=>t.run ρ' N Q X) Q Q X X k (λ_ z=>z) (λ_ z=>z) h
def zj1 (W:Pu.Env->Prop)(h:tst d (s.run ρ W Q X) (t.run ρ W Q X))(k:∀ρ',W ρ'->N ρ'):tst d (s.run ρ N Q X) (t.run ρ N Q X):=z3Z (s.mono ρ W N Q Q X X k (λ_ z=>z) (λ_ z=>z)) (t.mono ρ W N Q Q X X k (λ_ z=>z) (λ_ z=>z)) h
def z1D {α:Type}{f:α->D}{tg:Tg}{l:List α}(I:List α->Pu.Env->Prop)(h0:I [] ρ)(hs:∀(dn:List α) (x:α) (r:List α) (ρ:Pu.Env),l=dn++x::r->I dn ρ->tg.put (f x) ρ λρ'=>s.run ρ' (λρ''=>I (dn++[x]) ρ'') Q X)(hd:∀ρ,I l ρ->N ρ):forL tg s N Q X (l.map f) ρ:=by
 have main:∀(r dn:List α) (ρ:Pu.Env),l=dn++r->I dn ρ->forL tg s N Q X (r.map f) ρ:=by
  intro r
  induction r with
  | nil=>
   intro dn ρ e h;rw[List.append_nil] at e;subst e;exact hd ρ h
  | cons x r ih=>
   intro dn ρ e h;rw[List.map_cons];exact Tg.put_mono (λρ' q=>s.mono ρ' _ _ Q Q X X (λρ'' q=>ih (dn++[x]) ρ'' (by rw[e]; simp) q) (λ_ z=>z) (λ_ z=>z) q) (hs dn x r ρ e h)
 exact main l [] ρ rfl h0
def z7B (I:Pu.Env->Prop)(μ:Pu.Env->Nat)(h0:I ρ)(hs:∀ρ,I ρ->c.run ρ (λd=>tst d (s.run ρ (λρ'=>I ρ'/\μ ρ' < μ ρ) Q X) (N ρ)) X):(Sm.wh c s).run ρ N Q X:=by
 have main:∀(n:Nat) (ρ:Pu.Env),I ρ->μ ρ < n->wh c s N Q X n ρ:=by
  intro n
  induction n with
  | zero=>intro ρ _ h; exact absurd h (Nat.not_lt_zero _)
  | succ n ih=>
   intro ρ hI hm;exact c.mono ρ _ _ X X (λd q=>z3Z (s.mono ρ _ _ Q Q X X (λρ' q=>ih ρ' q.1 (by lia)) (λ_ z=>z) (λ_ z=>z)) (λz=>z) q) (λ_ z=>z) (hs ρ hI)
 exact⟨μ ρ+1,main _ ρ h0 (Nat.lt_succ_self _)⟩
def z3g {α:Type}{f g:α->D}{G:D->(Option D->Prop)->Prop}{M:List D->Prop}:∀{l:List α},(∀x∈l,∀K:Option D->Prop,K (some (g x))->G (f x) K)->M (l.map g)->z6g G (l.map f) M
 | [],_,q=>q
 | x::r,h,q=>h x List.mem_cons_self _ (z3g (l:=r) (λy hy=>h y (List.mem_cons_of_mem _ hy)) q)
def z3h {α:Type}{f g:α->D}{p:α->Bool}{G:D->(Option D->Prop)->Prop}{M:List D->Prop}:∀{l:List α},(∀x∈l,∀K:Option D->Prop,(p x=true->K (some (g x)))->(p x=false->K none)->G (f x) K)->M ((l.filter p).map g)->z6g G (l.map f) M
 | [],_,q=>q
 | x::r,h,q=>by
  refine h x List.mem_cons_self _ (λe =>?_) (λe =>?_)
  ·refine z3h (l:=r) (λy hy=>h y (List.mem_cons_of_mem _ hy)) ?_;rw[List.filter_cons,e] at q;exact q
  ·refine z3h (l:=r) (λy hy=>h y (List.mem_cons_of_mem _ hy)) ?_;rw[List.filter_cons,e] at q;exact q
def z8r {α β:Type}{f:α->D}{g:β->D}{P:α->β->Prop}{G:D->(Option D->Prop)->Prop}:∀{l:List α}{M:List D->Prop},(∀x∈l,∀K:Option D->Prop,(∀y,P x y->K (some (g y)))->G (f x) K)->(∀ys:List β,ys.length=l.length->(∀y∈ys,∃x∈l,P x y)->M (ys.map g))->z6g G (l.map f) M
 | [],_,_,q=>q [] rfl (λ_ z=>by simp at z)
 | x::r,M,h,q=>h x List.mem_cons_self _ λy hy=>z8r (l:=r) (M:=λt=>M ((some (g y)).toList++t)) (λz hz=>h z (List.mem_cons_of_mem _ hz)) λys hl ha=>q (y::ys) (by simp[hl]) λz hz=>by
  rcases List.mem_cons.mp hz with rfl | hz
  ·exact⟨x,List.mem_cons_self,hy⟩
  ·obtain⟨w,hw,hp⟩:=ha z hz;exact⟨w,List.mem_cons_of_mem _ hw,hp⟩
def zmn {k:Nat}{elt:Ex}{x:D}{K:Option D->Prop}(q:elt.run (ρ.set k (.s x)) (λd=>K (some d)) (λ_=>False)):z6O (.nm k) none elt ρ x K:=q
def zl6 {k:Nat}{elt:Ex}{x:D}{K:Option D->Prop}(q:c.run (ρ.set k (.s x)) (λb=>tst b (elt.run (ρ.set k (.s x)) (λd=>K (some d)) (λ_=>False)) (K none)) (λ_=>False)):z6O (.nm k) (some c) elt ρ x K:=q
variable {m n:Int}
def zm6 (q:Q (.int (m+n))):pAdd.run [.int m,.int n] Q X:=q
def zlY (q:Q (.int (m - n))):pSub.run [.int m,.int n] Q X:=q
def zm2 (h:ziK m n)(q:Q (.int (m*n))):z0u.run [.int m,.int n] Q X:=⟨h,q⟩
def zm0 (q:Q (.int (-m))):pNeg.run [.int m] Q X:=q
def zkI (h:0<n)(hb:Bt 9000 n)(q:Q (.int (m / n))):z2e.run [.int m,.int n] Q X:=⟨⟨by lia,hb⟩,by rw[Int.fdiv_eq_ediv_of_nonneg m (by lia)]; exact q⟩
def z7T (h:0<n)(q:Q (.int (m % n))):pMod.run [.int m,.int n] Q X:=⟨by lia,by rw[Int.fmod_eq_emod_of_nonneg m (by lia)]; exact q⟩
def zlZ (h:CPow m n)(q:Q (.int (m ^ n.toNat))):pPow.run [.int m,.int n] Q X:=⟨h,q⟩
def o_lt (q:Q (.bl (decide (m<n)))):pLt.run [.int m,.int n] Q X:=q
def o_le (q:Q (.bl (decide (m<=n)))):pLe.run [.int m,.int n] Q X:=q
def o_gt (q:Q (.bl (decide (n<m)))):pGt.run [.int m,.int n] Q X:=q
def o_ge (q:Q (.bl (decide (n<=m)))):pGeI.run [.int m,.int n] Q X:=q
def o_eq (q:Q (.bl (decide (m=n)))):pEq.run [.int m,.int n] Q X:=q
def o_ne (q:Q (.bl (!decide (m=n)))):pNe.run [.int m,.int n] Q X:=q
def zik {l r:List D}(a:Da 60 (.tup l))(b:Da 60 (.tup r))(q:Q (.bl (deq (.tup l) (.tup r)))):pEq.run [.tup l,.tup r] Q X:=⟨a,b,q⟩
def zm1 {l r:List D}(a:Da 60 (.tup l))(b:Da 60 (.tup r))(q:Q (.bl (!deq (.tup l) (.tup r)))):pNe.run [.tup l,.tup r] Q X:=⟨a,b,q⟩
def o_is (q:Q (.bl (isN d))):pIs.run [d,.non] Q X:=q
def zii (q:Q (.bl (!isN d))):zeb.run [d,.non] Q X:=q
def zkz {l:List D}(q:Q (.int (l.length:Int))):pLen.run [.lst l] Q X:=q
def zky {l:List D}(q:Q (.int (l.length:Int))):pLen.run [.tup l] Q X:=q
def zm5 {l:List D}(q:onV (atI l m) Q):pIx.run [.lst l,.int m] Q X:=q
def zm4 {l:List D}(q:onV (atI l m) Q):pIx.run [.tup l,.int m] Q X:=q
def zlX {ds:List D}(h:ds.length<=sizeLine)(q:Q (.tup ds)):pTup.run ds Q X:=⟨h,q⟩
def zm3 {ds:List D}(h:ds.length<=sizeLine)(q:Q (.lst ds)):pLst.run ds Q X:=⟨h,q⟩
def zks {l:List D}(q:Q (.tup l)):z4w.run [.lst l] Q X:=q
def zkr {l:List D}(q:Q (.tup l)):z4w.run [.tup l] Q X:=q
def zkx {l:List D}(q:Q (.lst l)):zgZ.run [.lst l] Q X:=q
def zkw {l:List D}(q:Q (.lst l)):zgZ.run [.tup l] Q X:=q
def zm7 (q:Q (.int (if m<0 then -m else m))):pAbs.run [.int m] Q X:=q
def zkG (q:Q (.int m)):pInt.run [.int m] Q X:=q
def zkH {k:Bool}(q:Q (.int (if k then 1 else 0))):pInt.run [.bl k] Q X:=q
def zkE {T:String}(q:Q (.bl (T == "int"))):(pIsi T).run [.int m] Q X:=q
def zkF {T:String}{k:Bool}(q:Q (.bl (T == "int" || T == "bool"))):(pIsi T).run [.bl k] Q X:=q
def zkA {T:String}{l:List D}(q:Q (.bl (T == "tuple"))):(pIsi T).run [.tup l] Q X:=q
def zkD {T:String}{l:List D}(q:Q (.bl (T == "list"))):(pIsi T).run [.lst l] Q X:=q
def zkB {T:String}{x:Str}(q:Q (.bl (T == "str"))):(pIsi T).run [.str x] Q X:=q
def zkC {T:String}(q:Q (.bl false)):(pIsi T).run [.non] Q X:=q
def zkv {ns:List Int}(hne:ns≠[])(q:∀k,k∈ns->(∀x∈ns,x<=k)->Q (.int k)):zi5.run [.lst (ns.map D.int)] Q X:=by
 show onI (ints? (ns.map D.int)) λns=>ns≠[]/\∀m,m∈ns->(∀x∈ns,x<=m)->Q (.int m);rw[zcf];exact⟨hne,q⟩
def zku (q:Q (.int (if n > m then n else m))):zi4.run [.int m,.int n] Q X:=q
def zkt (q:Q (.int (if n<m then n else m))):zi3.run [.int m,.int n] Q X:=q
def zg3 {ns:List Int}(q:Q (.int ns.sum)):pSum.run [.lst (ns.map D.int)] Q X:=by
 show onI (ints? (ns.map D.int)) λns=>Q (.int ns.sum);rw[zcf];exact q
def zen {l r:List D}(h:l.length+r.length<=sizeLine)(q:Q (.lst (l++r))):pAdd.run [.lst l,.lst r] Q X:=⟨h,q⟩
end
def Safe.of_noL {d:D}(h1:noL d=true)(h2:noD d=true):∀ρ:Pu.Env,Safe d ρ
 | []=>trivial
 | .n::r=>⟨trivial,Safe.of_noL h1 h2 r⟩
 | .s _::r=>⟨trivial,Safe.of_noL h1 h2 r⟩
 | .o x::r=>⟨by cases x <;> first | exact h1 | exact h2 | trivial,Safe.of_noL h1 h2 r⟩
def z1Q {ρ:Pu.Env}{i:Nat}{l:List D}{K:List D->Prop}(h:ρ[i]? = some (B.o (.lst l)))(q:K l):ownL ρ i K:=by unfold ownL; rw[h]; exact q
def zbS {k:Int}{K:List D->Prop}(h : -(2 ^ 62)<=k)(h':k<2 ^ 62)(q:K ((List.range k.toNat).map λ(j:Nat)=>D.int (j:Int))):onR [.int k] K:=⟨⟨h,h'⟩,q⟩
def z2v {l:List D}{k:Int}{d:D}{Q:DK}(e:atI l k=some d)(q:Q d):onV (atI l k) Q:=by rw[e]; exact q
abbrev vec (p:Int × Int):D :=.tup [.int p.1,.int p.2]
def z9G:∀{l:List D},(∀d∈l,noL d=true)->noLs l=true
 | [],_=>rfl
 | d::r,h=>by rw[noLs,h d List.mem_cons_self,z9G λx hx=>h x (List.mem_cons_of_mem _ hx)]; rfl
def z9H:∀{l:List D},(∀d∈l,noD d=true)->noDs l=true
 | [],_=>rfl
 | d::r,h=>by rw[noDs,h d List.mem_cons_self,z9H λx hx=>h x (List.mem_cons_of_mem _ hx)]; rfl
abbrev vecs (l:List (Int × Int)):D :=.tup (l.map vec)
def z6x (l:List (Int × Int)):noL (vecs l)=true:=by
 show noLs (l.map vec)=true;refine z9G λd hd =>?_;obtain⟨p,_,rfl⟩:=List.mem_map.mp hd
 rfl
def z6y (l:List (Int × Int)):noD (vecs l)=true:=by
 show noDs (l.map vec)=true;refine z9H λd hd =>?_;obtain⟨p,_,rfl⟩:=List.mem_map.mp hd
 rfl
def z1a {α:Type}{f:α->D}{l:List α}{k:Int}{x:α}(h:atI l k=some x):atI (l.map f) k=some (f x):=by
 unfold atI at h ⊢;rw[List.length_map]
 cases q:ixN l.length k with
 | none=>rw[q] at h; cases h
 | some j=>
  rw[q] at h;have h':l[j]? = some x:=h;show (l.map f)[j]? = some (f x);rw[List.getElem?_map,h']
  rfl
def menu {ns:List Int}{k:Int}{Q:DK}(h0:0<=k)(h1:k<ns.length)(q:∀v∈ns,Q (.int v)):onV (atI (ns.map D.int) k) Q:=by
 obtain⟨v,hv,e⟩:=z7l (xs:=ns) h0 h1;rw[z1a e];exact q v hv
def z6f {α:Type}(f:α->D)(l:List α)(lo hi:Option Int):cutD (l.map f) lo hi=((l.drop (HT.sIx l.length 0 lo)).take (HT.sIx l.length l.length hi - HT.sIx l.length 0 lo)).map f:=by
 unfold cutD;rw[List.length_map,List.map_take,List.map_drop]
def z8m (p r:Int × Int):deq (vec p) (vec r)=decide (p=r):=by
 obtain⟨a,b⟩:=p;obtain⟨c,d⟩:=r;show PyData.eqv (.tuple [.int a,.int b]) (.tuple [.int c,.int d])=decide ((a,b)=(c,d));rw[eqv2,decide_eq_decide,Prod.mk.injEq]
def Da.vec (p:Int × Int){n:Nat}:Da (n+1) (vec p):=Da.tup.mpr λd hd=>by
 simp only[List.mem_cons,List.not_mem_nil,or_false] at hd
 rcases hd with rfl | rfl <;> exact Da.int
end Pu
namespace Geo
abbrev P:=Int × Int
def cr (a b c:P):Int:=(b.1 - a.1)*(c.2 - a.2) - (b.2 - a.2)*(c.1 - a.1)
def Lx (a b:P):Prop:=a.1<b.1\/(a.1=b.1/\a.2<b.2)
instance (a b:P):Decidable (Lx a b):=inferInstanceAs (Decidable (_\/_))
def Lx.irr {a:P}:¬ Lx a a:=by unfold Lx; lia
def Lx.tr {a b c:P}(h:Lx a b)(q:Lx b c):Lx a c:=by unfold Lx at *; lia
def Lx.asym {a b:P}(h:Lx a b):¬ Lx b a:=by unfold Lx at *; lia
def Lx.tri (a b:P):Lx a b\/a=b\/Lx b a:=by
 obtain⟨a1,a2⟩:=a;obtain⟨b1,b2⟩:=b;unfold Lx;simp only[Prod.mk.injEq];lia
def Lx.ne {a b:P}(h:Lx a b):a≠b:=λz=>by subst z; exact Lx.irr h
def zar {a b:P}(h1:¬ Lx a b)(h2:¬ Lx b a):a=b:=by
 rcases Lx.tri a b with h | h | h
 ·exact absurd h h1
 ·exact h
 ·exact absurd h h2
def zbL {k m:Int}(h:0<k)(q:0<=m*k):0<=m:=by
 rcases(show m<0\/0<=m by lia) with z | z
 ·have:=Int.mul_neg_of_neg_of_pos z h; lia
 ·exact z
def zjc {k m:Int}(h:0<k)(q:0<m*k):0<m:=by
 rcases(show m<=0\/0<m by lia) with z | z
 ·have:=Int.mul_nonpos_of_nonpos_of_nonneg z (Int.le_of_lt h); lia
 ·exact z
def ziX {u1 u2 w1 w2 z1 z2:Int}(hw:0<w1\/w1=0/\0<w2)(hu:0<u1\/u1=0/\0<=u2)(hz:0<z1\/z1=0/\0<=z2)(h1:0<=u1*w2 - u2*w1)(h2:0<=w1*z2 - w2*z1):0<=u1*z2 - u2*z1:=by
 rcases hw with hw | ⟨hw,hw2⟩
 ·refine zbL hw ?_;have e:(u1*z2 - u2*z1)*w1=(u1*w2 - u2*w1)*z1+(w1*z2 - w2*z1)*u1:=by grind
  rw[e];have a1:=Int.mul_nonneg h1 (show 0<=z1 by lia);have a2:=Int.mul_nonneg h2 (show 0<=u1 by lia);lia
 ·subst hw;have z0:z1=0:=by
   rcases hz with hz | hz
   ·have:=Int.mul_pos hw2 hz; lia
   ·exact hz.1
  have z2':0<=z2:=by lia
  subst z0;have:=Int.mul_nonneg (show 0<=u1 by lia) z2';lia
def zlh {u1 u2 w1 w2 z1 z2:Int}(hw:0<w1\/w1=0/\0<w2)(hu:0<u1\/u1=0/\0<u2)(hz:0<z1\/z1=0/\0<z2)(h1:0<u1*w2 - u2*w1)(h2:0<w1*z2 - w2*z1):0<u1*z2 - u2*z1:=by
 rcases hw with hw | ⟨hw,hw2⟩
 ·refine zjc hw ?_;have e:(u1*z2 - u2*z1)*w1=(u1*w2 - u2*w1)*z1+(w1*z2 - w2*z1)*u1:=by grind
  rw[e]
  rcases hu with hu | ⟨hu,hu2⟩
  ·have a1:=Int.mul_nonneg (Int.le_of_lt h1) (show 0<=z1 by lia);have a2:=Int.mul_pos h2 hu;lia
  ·subst hu;have:=Int.mul_pos hu2 hw;lia
 ·subst hw
  rcases hz with hz | ⟨hz,_⟩
  ·have:=Int.mul_pos hw2 hz;lia
  ·subst hz; lia
def pops (v:P):List P->List P
 | b::a::r=>if cr a b v<=0 then pops v (a::r) else b::a::r
 | s=>s
def z8T (S:P->Prop):List P->Prop
 | b::a::r=>(∀p,S p->0<=cr a b p)/\Lx a b/\z8T S (a::r)
 | _=>True
def Conv:List P->Prop
 | c::b::a::r=>0<cr a b c/\Conv (b::a::r)
 | _=>True
def z8T.tail {S:P->Prop}{b:P}{r:List P}(h:z8T S (b::r)):z8T S r:=by
 cases r with
 | nil=>trivial
 | cons a r=>exact h.2.2
def Conv.tail {b:P}{r:List P}(h:Conv (b::r)):Conv r:=by
 match r,h with
 | [],_=>trivial
 | [_],_=>trivial
 | _::_::_,h=>exact h.2
def zaG {S:P->Prop}{v:P}:∀{r:List P}{b a:P},z8T S (b::a::r)->Conv (b::a::r)->Lx b v->0<cr a b v->z8T (λp=>p=v\/S p) (b::a::r)
 | [],b,a,he,hc,hv,h=>⟨λp hp=>by
   rcases hp with rfl | hp
   ·exact Int.le_of_lt h
   ·exact he.1 p hp,he.2.1,trivial⟩
 | c::r,b,a,he,hc,hv,h=>by
  have hca:=he.2.2.2.1;have hab:=he.2.1;have h2:0<cr c a v:=by
   have q1:0<cr c a b:=hc.1;have:=zlh (u1:=a.1 - c.1) (u2:=a.2 - c.2) (w1:=b.1 - a.1) (w2:=b.2 - a.2) (z1:=v.1 - b.1) (z2:=v.2 - b.2) (by unfold Lx at hab; lia) (by unfold Lx at hca; lia) (by unfold Lx at hv; lia)
    (by unfold cr at q1; grind) (by unfold cr at h; grind)
   unfold cr at q1 ⊢
   grind
  exact⟨λp hp=>by
   rcases hp with rfl | hp
   ·exact Int.le_of_lt h
   ·exact he.1 p hp,hab,zaG he.2.2 hc.2 (hab.tr hv) h2⟩
def zdY {S:P->Prop}{v:P}(hv:∀p,S p->Lx p v):∀{r:List P}{b:P},(∀x∈b::r,S x)->z8T S (b::r)->Conv (b::r)->(∀p,S p->¬ Lx p b->0<=cr b v p)->(∀z,(b::r).getLast? = some z->∀p,S p->¬ Lx p z)->
  ∃b' r',pops v (b::r)=b'::r'/\(b'::r') <:+ (b::r)/\(∀p,S p->0<=cr b' v p)/\z8T (λp=>p=v\/S p) (b'::r')/\Conv (v::b'::r')
 | [],b,hs,he,hc,ht,hl=>⟨b,[],rfl,List.suffix_refl _,λp hp=>ht p hp (hl b rfl p hp),trivial,trivial⟩
 | a::r,b,hs,he,hc,ht,hl=>by
  have hab:=he.2.1;have hbv:=hv b (hs b (by simp))
  by_cases h:cr a b v<=0
  ·have e:pops v (b::a::r)=pops v (a::r):=by rw[pops,if_pos h]
   obtain⟨b',r',h1,h2,h3,h4,h5⟩:=zdY hv (r:=r) (b:=a) (λx hx=>hs x (List.mem_cons_of_mem _ hx)) he.tail hc.tail (λp hp hn=>by
    have q1:=he.1 p hp;have:=ziX (u1:=v.1 - a.1) (u2:=v.2 - a.2) (w1:=b.1 - a.1) (w2:=b.2 - a.2) (z1:=p.1 - a.1) (z2:=p.2 - a.2) (by unfold Lx at hab; lia) (by have:=hab.tr hbv; unfold Lx at this; lia) (by unfold Lx at hn; lia)
     (by unfold cr at h; grind) (by unfold cr at q1; grind)
    unfold cr
    grind) (λz hz=>hl z (by rw[List.getLast?_cons_cons]; exact hz))
   exact⟨b',r',e.trans h1,h2.trans (List.suffix_cons _ _),h3,h4,h5⟩
  ·have h':0<cr a b v:=by lia
   have e:pops v (b::a::r)=b::a::r:=by rw[pops,if_neg h]
   refine⟨b,a::r,e,List.suffix_refl _,λp hp =>?_,zaG he hc hbv h',⟨h',hc⟩⟩
   by_cases hn:Lx p b
   ·have q1:=he.1 p hp;have:=ziX (u1:=b.1 - p.1) (u2:=b.2 - p.2) (w1:=b.1 - a.1) (w2:=b.2 - a.2) (z1:=v.1 - b.1) (z2:=v.2 - b.2) (by unfold Lx at hab; lia) (by unfold Lx at hn; lia) (by unfold Lx at hbv; lia)
     (by unfold cr at q1; grind) (by unfold cr at h'; grind)
    unfold cr
    grind
   ·exact ht p hp hn
structure Ok (S:P->Prop)(s:List P):Prop where
 sub:∀x∈s,S x
 desc:s.Pairwise λx y=>Lx y x
 top:∃b r,s=b::r/\∀p,S p->¬ Lx b p
 bot:∃z,s.getLast? = some z/\∀p,S p->¬ Lx p z
 edges:z8T S s
 conv:Conv s
def z7F {s t:List P}{b:P}(h:(b::t) <:+ s):s.getLast? = (b::t).getLast? := by
 obtain⟨u,rfl⟩:=h;rw[List.getLast?_append];rw[List.getLast?_cons]
 rfl
def Ok.push {S:P->Prop}{s:List P}{v:P}(o:Ok S s)(hv:∀p,S p->Lx p v):Ok (λp=>p=v\/S p) (v::pops v s):=by
 obtain⟨b,r,rfl,htop⟩:=o.top;obtain⟨z,hz,hbot⟩:=o.bot;obtain⟨b',r',h1,h2,h3,h4,h5⟩:=zdY hv o.sub o.edges o.conv (λp hp hn=>by
  have:p=b:=zar hn (htop p hp);subst this;unfold cr
  grind) (λz' hz'=>by rw[hz] at hz'; injection hz' with e; subst e; exact hbot)
 have hin:∀x∈b'::r',S x:=λx hx=>o.sub x (h2.subset hx);rw[h1];refine⟨λx hx =>?_,?_,⟨v,_,rfl,λp hp =>?_⟩,⟨z,?_,λp hp =>?_⟩,⟨λp hp =>?_,hv b' (hin b' (by simp)),h4⟩,h5⟩
 ·rcases List.mem_cons.mp hx with rfl | hx
  ·exact .inl rfl
  ·exact .inr (hin x hx)
 ·exact List.pairwise_cons.mpr ⟨λx hx=>hv x (hin x hx),o.desc.sublist h2.sublist⟩
 ·rcases hp with rfl | hp
  ·exact Lx.irr
  ·exact(hv p hp).asym
 ·rw[List.getLast?_cons_cons, <- z7F h2]; exact hz
 ·rcases hp with rfl | hp
  ·exact(hv z (by rw[z7F h2] at hz; exact hin z (List.mem_of_getLast? hz))).asym
  ·exact hbot p hp
 ·rcases hp with rfl | hp
  ·unfold cr; grind
  ·exact h3 p hp
def z21 (l:List P):List P:=l.foldl (λs v=>v::pops v s) []
def Ok.one (v:P):Ok (λp=>p=v) [v]:=⟨by simp,by simp,⟨v,[],rfl,λp hp=>by subst hp; exact Lx.irr⟩,⟨v,rfl,λp hp=>by subst hp; exact Lx.irr⟩,trivial,trivial⟩
def Ok.congr {S S':P->Prop}{s:List P}(o:Ok S s)(h:∀p,S p↔S' p):Ok S' s:=by
 have e:S=S':=funext λp=>propext (h p);subst e;exact o
def zcr:∀(l:List P) (S:P->Prop) (s:List P),Ok S s->(∀x∈l,∀p,S p->Lx p x)->l.Pairwise Lx->Ok (λp=>S p\/p∈l) (l.foldl (λs v=>v::pops v s) s)
 | [],S,s,o,_,_=>o.congr (by simp)
 | v::l,S,s,o,h,hp=>by
  obtain⟨h1,h2⟩:=List.pairwise_cons.mp hp;have:=zcr l _ _ (o.push (v:=v) (h v (by simp))) (λx hx p hp=>by
   rcases hp with rfl | hp
   ·exact h1 x hx
   ·exact h x (by simp[hx]) p hp) h2
  refine this.congr λp =>?_;simp only[List.mem_cons]
  constructor
  ·rintro((h | h) | h)
   ·exact .inr (.inl h)
   ·exact .inl h
   ·exact .inr (.inr h)
  ·rintro(h | h | h)
   ·exact .inl (.inr h)
   ·exact .inl (.inl h)
   ·exact .inr h
def zaL {l:List P}(hn:l≠[])(hp:l.Pairwise Lx):Ok (· ∈ l) (z21 l):=by
 match l,hn with
 | v::l,_=>
  obtain⟨h1,h2⟩:=List.pairwise_cons.mp hp;have:=zcr l (λp=>p=v) [v] (Ok.one v) (λx hx p hp=>by subst hp; exact h1 x hx) h2;exact this.congr λp=>by simp
def ng (p:P):P:=(-p.1,-p.2)
def z6z (p:P):ng (ng p)=p:=by unfold ng; simp
def zgn (a b c:P):cr (ng a) (ng b) (ng c)=cr a b c:=by unfold cr ng; grind
def zcU {a b:P}:Lx (ng a) (ng b)↔Lx b a:=by unfold Lx ng; simp; lia
def zdZ (v:P):∀s:List P,pops (ng v) (s.map ng)=(pops v s).map ng
 | []=>rfl
 | [_]=>rfl
 | b::a::r=>by
  show (if cr (ng a) (ng b) (ng v)<=0 then pops (ng v) ((a::r).map ng) else _)=_;rw[zgn,zdZ v (a::r),pops]
  by_cases h:cr a b v<=0
  ·rw[if_pos h,if_pos h]
  ·rw[if_neg h,if_neg h]; rfl
def zeM:∀(l s:List P),(l.map ng).foldl (λs v=>v::pops v s) (s.map ng)=(l.foldl (λs v=>v::pops v s) s).map ng
 | [],_=>rfl
 | v::l,s=>by
  show (l.map ng).foldl _ (ng v::pops (ng v) (s.map ng))=_;rw[zdZ];exact zeM l (v::pops v s)
def zeY (l:List P):z21 (l.map ng)=(z21 l).map ng:=zeM l []
def dot (a b p:P):Int:=(p.1 - a.1)*(b.1 - a.1)+(p.2 - a.2)*(b.2 - a.2)
structure Edge (S:P->Prop)(a b:P):Prop where
 sa:S a
 sb:S b
 ne:a≠b
 left:∀p,S p->0<=cr a b p
 btw:∀p,S p->cr a b p=0->0<=dot a b p/\0<=dot b a p
def Edge.ng {S:P->Prop}{a b:P}(e:Edge (λp=>S (Geo.ng p)) a b):Edge S (Geo.ng a) (Geo.ng b):=by
 refine⟨e.sa,e.sb,λz=>e.ne (by have:=congrArg Geo.ng z; rwa [z6z,z6z] at this),λp hp =>?_,λp hp h =>?_⟩
 ·have:=e.left (Geo.ng p) (by rw[z6z]; exact hp);rw[<- zgn,z6z] at this;exact this
 ·have:=e.btw (Geo.ng p) (by rw[z6z]; exact hp) (by rw[<- zgn,z6z]; exact h);unfold dot Geo.ng at*;dsimp only at*
  constructor
  ·have:=this.1; grind
  ·have:=this.2; grind
def ziA (a b c:P):cr a c b = -cr a b c:=by unfold cr; grind
def z1G (x:Int):0<=x*x:=by
 rcases(show x<=0\/0<=x by lia) with h | h
 ·exact Int.mul_nonneg_of_nonpos_of_nonpos h h
 ·exact Int.mul_nonneg h h
def zb7 {x y:Int}(h:x*x+y*y=0):x=0/\y=0:=by
 have h1:=z1G x;have h2:=z1G y;have t1:x*x=0:=by omega
 have t2:y*y=0:=by omega
 constructor
 ·rcases Int.mul_eq_zero.mp t1 with z | z <;> exact z
 ·rcases Int.mul_eq_zero.mp t2 with z | z <;> exact z
def Edge.det {S:P->Prop}{a b c:P}(e:Edge S a b)(f:Edge S a c):b=c:=by
 have h1:=e.left c f.sb;have h2:=f.left b e.sb;have hsw:=ziA a b c;have h0:cr a b c=0:=by lia
 have h0':cr a c b=0:=by lia
 have q1:=e.btw c f.sb h0;have q2:=f.btw b e.sb h0';have ne1:=e.ne;have ne2:=f.ne;obtain⟨a1,a2⟩:=a;obtain⟨b1,b2⟩:=b;obtain⟨c1,c2⟩:=c;unfold cr at h0;unfold dot at q1 q2;simp only[ne_eq,Prod.mk.injEq] at*;obtain⟨q11,q12⟩:=q1;obtain⟨q21,q22⟩:=q2;have k1:(b1 - c1)*(b1 - c1)+(b2 - c2)*(b2 - c2)=0:=by
  generalize hu1:b1 - a1=u1 at*;generalize hu2:b2 - a2=u2 at*;generalize hw1:c1 - a1=w1 at*;generalize hw2:c2 - a2=w2 at*;have e1:b1 - c1=u1 - w1:=by lia
  have e2:b2 - c2=u2 - w2:=by lia
  have e3:c1 - b1=w1 - u1:=by lia
  have e4:c2 - b2=w2 - u2:=by lia
  have e5:a1 - b1 = -u1:=by lia
  have e6:a2 - b2 = -u2:=by lia
  have e7:a1 - c1 = -w1:=by lia
  have e8:a2 - c2 = -w2:=by lia
  rw[e1,e2] at q22 ⊢;rw[e3,e4,e5,e6] at q12;rw[e7,e8] at q22;have A:0<=(u1*u1+u2*u2) - (u1*w1+u2*w2):=by grind
  have B:0<=(w1*w1+w2*w2) - (u1*w1+u2*w2):=by grind
  have C:(u1*u1+u2*u2)*(w1*w1+w2*w2)=(u1*w1+u2*w2)*(u1*w1+u2*w2):=by
   have:(u1*u1+u2*u2)*(w1*w1+w2*w2)=(u1*w1+u2*w2)*(u1*w1+u2*w2)+(u1*w2 - u2*w1)*(u1*w2 - u2*w1):=by grind
   rw[this,h0]; lia
  have D:0<=u1*w1+u2*w2:=by grind
  have PX:0<u1*u1+u2*u2:=by
   have n1:=z1G u1;have n2:=z1G u2
   rcases(show u1*u1+u2*u2=0\/0<u1*u1+u2*u2 by lia) with z | z
   ·have:=zb7 z; lia
   ·exact z
  have PY:0<w1*w1+w2*w2:=by
   have n1:=z1G w1;have n2:=z1G w2
   rcases(show w1*w1+w2*w2=0\/0<w1*w1+w2*w2 by lia) with z | z
   ·have:=zb7 z; lia
   ·exact z
  have E:(u1 - w1)*(u1 - w1)+(u2 - w2)*(u2 - w2)=((u1*u1+u2*u2) - (u1*w1+u2*w2))+((w1*w1+w2*w2) - (u1*w1+u2*w2)):=by grind
  rw[E];generalize u1*u1+u2*u2=X at*;generalize w1*w1+w2*w2=Y at*;generalize u1*w1+u2*w2=Z at*;have F:(X - Z)*Y+Z*(Y - Z)=0:=by grind
  have G1:=Int.mul_nonneg A (show 0<=Y by lia);have G2:=Int.mul_nonneg D B;have G3:(X - Z)*Y=0:=by omega
  have G4:Z*(Y - Z)=0:=by omega
  rcases Int.mul_eq_zero.mp G3 with h | h
  ·rcases Int.mul_eq_zero.mp G4 with h' | h'
   ·have:X*Y=0:=by rw[C,h']; rfl
    rcases Int.mul_eq_zero.mp this with h'' | h'' <;> lia
   ·lia
  ·rcases Int.mul_eq_zero.mp G4 with h' | h' <;> lia
 have:=zb7 k1;lia
def Path (R:P->P->Prop):List P->Prop
 | a::b::r=>R a b/\Path R (b::r)
 | _=>True
def Path.join {R:P->P->Prop}{M:P}{t:List P}:∀{A:List P},Path R (A++[M])->Path R (M::t)->Path R (A++M::t)
 | [],_,h=>h
 | [a],h,q=>⟨h.1,q⟩
 | a::b::A,h,q=>⟨h.1,Path.join (A:=b::A) h.2 q⟩
def Path.snoc {R:P->P->Prop}{a b:P}{A:List P}(h:Path R (A++[a]))(q:R a b):Path R (A++[a,b]):=Path.join h ⟨q,trivial⟩
def Path.rev {R:P->P->Prop}:∀{l:List P},Path (λx y=>R y x) l->Path R l.reverse
 | [],_=>trivial
 | [_],_=>trivial
 | a::b::r,h=>by
  have:=Path.rev (l:=b::r) h.2;rw[List.reverse_cons] at this ⊢;rw[List.reverse_cons];rw[List.append_assoc];exact Path.snoc this h.1
def Path.imp {R R':P->P->Prop}(i:∀a b,R a b->R' a b):∀{l:List P},Path R l->Path R' l
 | [],_=>trivial
 | [_],_=>trivial
 | _::_::_,h=>⟨i _ _ h.1,Path.imp i h.2⟩
def Path.map {R:P->P->Prop}{f:P->P}:∀{l:List P},Path (λa b=>R (f a) (f b)) l->Path R (l.map f)
 | [],_=>trivial
 | [_],_=>trivial
 | _::b::r,h=>⟨h.1,Path.map (l:=b::r) h.2⟩
def zh5 {a b p:P}(h:Lx a b)(q:¬ Lx b p)(z:cr a b p=0):0<=dot b a p:=by
 unfold Lx at h q;unfold cr at z;unfold dot;have e:(p.1 - b.1)*(a.1 - b.1)+(p.2 - b.2)*(a.2 - b.2)=(b.1 - a.1)*(b.1 - p.1)+(b.2 - a.2)*(b.2 - p.2):=by grind
 rw[e];have z':(b.1 - a.1)*(b.2 - p.2)=(b.2 - a.2)*(b.1 - p.1):=by grind
 generalize hu1:b.1 - a.1=u1 at*;generalize hu2:b.2 - a.2=u2 at*;generalize hw1:b.1 - p.1=w1 at*;generalize hw2:b.2 - p.2=w2 at*
 rcases(show 0<u1\/u1=0/\0<u2 by lia) with h1 | ⟨h1,h2⟩
 ·refine zbL h1 ?_;have:(u1*w1+u2*w2)*u1=w1*(u1*u1+u2*u2):=by grind
  rw[this];have n1:=z1G u1;have n2:=z1G u2;exact Int.mul_nonneg (by lia) (by lia)
 ·subst h1;have:u2*w1=0:=by lia
  rcases Int.mul_eq_zero.mp this with z | z
  ·lia
  ·subst z;have:=Int.mul_nonneg (Int.le_of_lt h2) (show 0<=w2 by lia);lia
def ziq {a b p:P}(h:Lx a b)(q:¬ Lx p a)(z:cr a b p=0):0<=dot a b p:=by
 have:=zh5 (a:=ng b) (b:=ng a) (p:=ng p) (zcU.mpr h) (λy=>q (zcU.mp y)) (by rw[zgn]; unfold cr at *; grind);unfold dot ng at*;dsimp only at this
 grind
def zio {a b c p:P}(h:0<cr a b c)(q:0<=cr b c p)(z:cr a b p=0):0<=dot b a p:=by
 unfold cr at h q z;unfold dot;have e1:(p.1 - b.1)*(a.1 - b.1)+(p.2 - b.2)*(a.2 - b.2) = -((p.1 - b.1)*(b.1 - a.1)+(p.2 - b.2)*(b.2 - a.2)):=by grind
 rw[e1];have h':0<(b.1 - a.1)*(c.2 - b.2) - (b.2 - a.2)*(c.1 - b.1):=by grind
 have z':(b.1 - a.1)*(p.2 - b.2) - (b.2 - a.2)*(p.1 - b.1)=0:=by grind
 generalize b.1 - a.1=u1 at*;generalize b.2 - a.2=u2 at*;generalize c.1 - b.1=c1 at*;generalize c.2 - b.2=c2 at*;generalize p.1 - b.1=w1 at*;generalize p.2 - b.2=w2 at*;refine zbL h' ?_;have : -(w1*u1+w2*u2)*(u1*c2 - u2*c1)=(c1*w2 - c2*w1)*(u1*u1+u2*u2) - (u1*w2 - u2*w1)*(c1*u1+c2*u2):=by grind
 rw[this,z',Int.zero_mul,Int.sub_zero];have n1:=z1G u1;have n2:=z1G u2;exact Int.mul_nonneg q (by lia)
def zg5 {y a b p:P}(h:0<cr y a b)(q:0<=cr y a p)(z:cr a b p=0):0<=dot a b p:=by
 unfold cr at h q z;unfold dot;have h':0<(a.1 - y.1)*(b.2 - a.2) - (a.2 - y.2)*(b.1 - a.1):=by grind
 have q':0<=(a.1 - y.1)*(p.2 - a.2) - (a.2 - y.2)*(p.1 - a.1):=by grind
 generalize b.1 - a.1=u1 at*;generalize b.2 - a.2=u2 at*;generalize a.1 - y.1=c1 at*;generalize a.2 - y.2=c2 at*;generalize p.1 - a.1=w1 at*;generalize p.2 - a.2=w2 at*;refine zbL h' ?_;have:(w1*u1+w2*u2)*(c1*u2 - c2*u1)=(c1*w2 - c2*w1)*(u1*u1+u2*u2) - (u1*w2 - u2*w1)*(c1*u1+c2*u2):=by grind
 rw[this,z,Int.zero_mul,Int.sub_zero];have n1:=z1G u1;have n2:=z1G u2;exact Int.mul_nonneg q' (by lia)
def z9c {S:P->Prop}:∀{r:List P}{b a:P},(∀x∈b::a::r,S x)->z8T S (b::a::r)->Conv (b::a::r)->(∀z,(b::a::r).getLast? = some z->∀p,S p->¬ Lx p z)->(∀p,S p->cr a b p=0->0<=dot b a p)->Path (λx y=>Edge S y x) (b::a::r)
 | [],b,a,hs,he,hc,hl,ht=>⟨⟨hs a (by simp),hs b (by simp),he.2.1.ne,he.1,λp hp z=>⟨ziq he.2.1 (hl a rfl p hp) z,ht p hp z⟩⟩,trivial⟩
 | y::r,b,a,hs,he,hc,hl,ht=>by
  refine⟨⟨hs a (by simp),hs b (by simp),he.2.1.ne,he.1,λp hp z=>⟨zg5 hc.1 (he.2.2.1 p hp) z,ht p hp z⟩⟩,?_⟩;exact z9c (λx hx=>hs x (List.mem_cons_of_mem _ hx)) he.2.2 hc.2 (λz hz=>hl z (by rw[List.getLast?_cons_cons]; exact hz)) λp hp z=>zio hc.1 (he.1 p hp) z
def Ok.path {S:P->Prop}{s:List P}(o:Ok S s):Path (Edge S) s.reverse:=by
 refine Path.rev ?_;obtain⟨b,r,rfl,ht⟩:=o.top;obtain⟨z,hz,hl⟩:=o.bot
 cases r with
 | nil=>trivial
 | cons a r=>exact z9c o.sub o.edges o.conv (λz' hz'=>by rw[hz] at hz'; injection hz' with e; subst e; exact hl) λp hp z=>zh5 o.edges.2.1 (ht p hp) z
def hull (l:List P):List P:=if l.length<=1 then l else (z21 l).reverse.dropLast++(z21 l.reverse).reverse.dropLast
structure z1W (S:P->Prop)(h:List P):Prop where
 ex:∃m t,h=m::t/\S m/\(∀p,S p->¬ Lx p m)/\m ∉ t/\((t=[]/\∀p,S p->p=m)\/(t≠[]/\Path (Edge S) (m::t++[m])))
def z5Y {R:P->P->Prop}(det:∀a b c,R a b->R a c->b=c){m:P}:∀{t t':List P}{a:P},m ∉ t->m ∉ t'->Path R (a::t++[m])->Path R (a::t'++[m])->t=t'
 | [],[],_,_,_,_,_=>rfl
 | [],b::t',a,_,h,p,q=>by
  have:b=m:=det a b m q.1 p.1;exact absurd (by rw[this]; simp) h
 | b::t,[],a,h,_,p,q=>by
  have:b=m:=det a b m p.1 q.1;exact absurd (by rw[this]; simp) h
 | b::t,c::t',a,h,h',p,q=>by
  have e:b=c:=det a b c p.1 q.1;subst e;rw[z5Y det (t:=t) (t':=t') (λz=>h (by simp[z])) (λz=>h' (by simp[z])) p.2 q.2]
def z1W.unique {S:P->Prop}{h h':List P}(x:z1W S h)(y:z1W S h'):h=h':=by
 obtain⟨m,t,rfl,sm,lm,nm,e⟩:=x.ex;obtain⟨m',t',rfl,sm',lm',nm',e'⟩:=y.ex;have em:m=m':=zar (lm' m sm) (lm m' sm');subst em;have one:∀{u:List P},u≠[]->Path (Edge S) (m::u++[m])->(∀p,S p->p=m)->False:=λ{u} hu hp ha=>by
  match u,hu with
  | b::u,_=>
   have e:Edge S m b:=hp.1;exact e.ne (ha b e.sb).symm
 rcases e with ⟨rfl,ha⟩ | ⟨hn,hp⟩
 ·rcases e' with ⟨rfl,_⟩ | ⟨hn',hp'⟩
  ·rfl
  ·exact(one hn' hp' ha).elim
 ·rcases e' with ⟨rfl,ha⟩ | ⟨hn',hp'⟩
  ·exact(one hn hp ha).elim
  ·rw[z5Y (R:=Edge S) (λa b c p q=>Edge.det p q) nm nm' hp hp']
def z4U {s:List P}{z:P}(h:s.getLast? = some z):s.dropLast++[z]=s:=by
 have hn:s≠[]:=λe=>by rw[e] at h; simp at h
 have e:s.getLast hn=z:=by
  rw[List.getLast?_eq_some_getLast hn] at h;exact Option.some.inj h
 rw[<- e];exact List.dropLast_concat_getLast hn
def ziT {l:List P}(hl:2<=l.length)(hp:l.Pairwise Lx):∃x y,x∈l/\y∈l/\Lx x y:=by
 match l,hl,hp with
 | x::y::r,_,hp=>exact⟨x,y,by simp,by simp,(List.pairwise_cons.mp hp).1 y (by simp)⟩
def zcV {l:List P}(hl:2<=l.length)(hp:l.Pairwise Lx):∃m M A B,hull l=m::A++M::B/\m∈l/\M∈l/\Lx m M/\(∀p∈l,¬ Lx p m)/\(∀p∈l,¬ Lx M p)/\
  (m::A++[M]).Pairwise Lx/\(M::B++[m]).Pairwise (λx y=>Lx y x)/\Path (Edge (· ∈ l)) (m::A++[M])/\Path (Edge (· ∈ l)) (M::B++[m]):=by
 have hne:l≠[]:=λz=>by rw[z] at hl; simp at hl
 have o1:=zaL hne hp;have hp2:(l.reverse.map ng).Pairwise Lx:=by
  rw[List.pairwise_map,List.pairwise_reverse];exact hp.imp λh=>zcU.mpr h
 have o2:=zaL (l:=l.reverse.map ng) (by simpa using hne) hp2;rw[zeY] at o2;have mem:∀p,p∈l.reverse.map ng↔ng p∈l:=λp=>by
  simp only[List.mem_map,List.mem_reverse]
  constructor
  ·rintro⟨q,hq,rfl⟩; rw[z6z]; exact hq
  ·intro h; exact⟨ng p,h,z6z p⟩
 obtain⟨M,r1,e1,t1⟩:=o1.top;obtain⟨m,b1,b1'⟩:=o1.bot;obtain⟨M',r2,e2,t2⟩:=o2.top;obtain⟨m',b2,b2'⟩:=o2.bot;have Ml:M∈l:=o1.sub M (by rw[e1]; simp);have ml:m∈l:=o1.sub m (List.mem_of_getLast? b1);have M'l:ng M'∈l:=(mem M').mp (o2.sub M' (by rw[e2]; simp));have m'l:ng m'∈l:=(mem m').mp (o2.sub m' (List.mem_of_getLast? b2));have hMm:ng M'=m:=by
  refine zar (b1' _ M'l) λz =>?_;have:=t2 (ng m) ((mem _).mpr (by rw[z6z]; exact ml));exact this (by rw[<- z6z M']; exact zcU.mpr z)
 have hmM:ng m'=M:=by
  refine zar (λz =>?_) (t1 _ m'l);have:=b2' (ng M) ((mem _).mpr (by rw[z6z]; exact Ml));exact this (by rw[<- z6z m']; exact zcU.mpr z)
 have hlt:Lx m M:=by
  rcases Lx.tri m M with h | h | h
  ·exact h
  ·exfalso
   subst h;have all:∀p∈l,p=m:=λp hp=>zar (b1' p hp) (t1 p hp);obtain⟨x,y,hx,hy,this⟩:=ziT hl hp;rw[all x hx,all y hy] at this;exact Lx.irr this
  ·exact absurd h (t1 m ml)
 have there:∃A,(z21 l).reverse=m::A++[M]:=by
  rw[e1] at b1 ⊢
  cases r1 with
  | nil=>simp at b1; exact absurd (b1 ▸ hlt) Lx.irr
  | cons c r=>
   rw[List.getLast?_cons_cons] at b1;refine⟨(c::r).dropLast.reverse,?_⟩;rw[List.reverse_cons, <- z4U b1];simp
 obtain⟨A,eA⟩:=there;have ec2:z21 l.reverse=(M'::r2).map ng:=by
  have:((z21 l.reverse).map ng).map ng=(M'::r2).map ng:=by rw[e2]
  rw[List.map_map] at this;simpa[Function.comp_def,z6z] using this
 have back:∃B,(z21 l.reverse).reverse=M::B++[m]:=by
  rw[e2] at b2;rw[ec2]
  cases r2 with
  | nil=>
   simp at b2;rw[b2] at hMm;rw[hMm] at hmM;exact absurd (hmM ▸ hlt) Lx.irr
  | cons c r=>
   rw[List.getLast?_cons_cons] at b2;refine⟨((c::r).dropLast.map ng).reverse,?_⟩;have:(c::r)=(c::r).dropLast++[m']:=(z4U b2).symm;rw[List.map_cons,List.reverse_cons,hMm,this,List.map_append];simp[hmM]
 obtain⟨B,eB⟩:=back;refine⟨m,M,A,B,?_,ml,Ml,hlt,b1',t1,?_,?_,?_,?_⟩
 ·unfold hull;rw[if_neg (by lia),eA,eB,List.dropLast_concat,List.dropLast_concat]
 ·rw[<- eA,List.pairwise_reverse];exact o1.desc
 ·rw[<- eB,List.pairwise_reverse];have q:=o2.desc;rw[List.pairwise_map] at q;exact q.imp λh=>zcU.mp h
 ·rw[<- eA]; exact o1.path
 ·rw[<- eB];have q:=o2.path;rw[<- List.map_reverse] at q;have h2:Path (λa b=>Edge (· ∈ l) (ng a) (ng b)) ((z21 l.reverse).map ng).reverse:=by
   rw[<- List.map_reverse];refine Path.imp (λa b e =>?_) q;refine Edge.ng ?_;have es:(λp=>ng p∈l)=(λp=>p∈l.reverse.map ng):=funext λp=>propext (mem p).symm;rw[es];exact e
  have h3:=Path.map (f:=ng) h2;rw[List.map_reverse,List.map_map] at h3;simpa[Function.comp_def,z6z] using h3
def ziw {l:List P}(hn:l≠[])(hp:l.Pairwise Lx):z1W (· ∈ l) (hull l):=by
 by_cases h1:l.length<=1
 ·match l,hn,h1 with
  | [x],_,_=>exact⟨x,[],rfl,by simp,λp hp=>by rw[List.mem_singleton.mp hp]; exact Lx.irr,by simp,.inl ⟨rfl,λp hp=>List.mem_singleton.mp hp⟩⟩
 ·obtain⟨m,M,A,B,e,ml,Ml,hlt,hmin,hmax,pa,pb,wa,wb⟩:=zcV (by lia) hp;refine⟨m,A++M::B,e,ml,hmin,λz =>?_,.inr ⟨by simp,?_⟩⟩
  ·rcases List.mem_append.mp z with z | z
   ·exact Lx.irr ((List.pairwise_cons.mp pa).1 m (by simp[z]))
   ·rcases List.mem_cons.mp z with z | z
    ·exact Lx.irr (z ▸ hlt)
    ·have:(M::B++[m]).Pairwise (λx y=>Lx y x):=pb;rw[List.pairwise_append] at this;exact Lx.irr (this.2.2 m (by simp[z]) m (by simp))
  ·have:m::(A++M::B)++[m]=(m::A)++M::(B++[m]):=by simp
   rw[this];exact Path.join wa wb
end Geo
namespace Lcg
def zcm (d:Nat):(5 ^ d) % 2=1:=by
 induction d with
 | zero=>rfl
 | succ d ih=>rw[Nat.pow_succ]; lia
def zeO (d:Nat):(5 ^ d) % 4=1:=by
 induction d with
 | zero=>rfl
 | succ d ih=>rw[Nat.pow_succ]; lia
def zd5 (d:Nat):(5 ^ (2*d)) % 8=1/\(5 ^ (2*d+1)) % 8=5:=by
 induction d with
 | zero=>exact⟨rfl,rfl⟩
 | succ d ih=>
  have e1:5 ^ (2*(d+1))=5 ^ (2*d)*25:=by rw[show 2*(d+1)=2*d+2 by lia,Nat.pow_add]
  have e2:5 ^ (2*(d+1)+1)=5 ^ (2*d+1)*25:=by rw[show 2*(d+1)+1=(2*d+1)+2 by lia,Nat.pow_add]
  rw[e1,e2];lia
def z8q {a k:Nat}(h:a % 2=1):Nat.Coprime (2 ^ k) a:=by
 refine Nat.Coprime.pow_left k ?_;show Nat.gcd 2 a=1;rw[Nat.gcd_rec,h]
 rfl
def z2X:∀(k d:Nat),2 ^ (k+2) ∣ 5 ^ d - 1->2 ^ k ∣ d
 | 0,d,_=>Nat.one_dvd d
 | k+1,d,h=>by
  have h8:8 ∣ 5 ^ d - 1:=Nat.dvd_trans ⟨2 ^ k,by rw[show k+1+2=3+k by lia,Nat.pow_add]⟩ h;have he:d % 2=0:=by
   rcases Nat.mod_two_eq_zero_or_one d with z | z
   ·exact z
   ·obtain⟨e,rfl⟩:∃e,d=2*e+1:=⟨d / 2,by lia⟩
    have:=(zd5 e).2;obtain⟨c,hc⟩:=h8;have p:1<=5 ^ (2*e+1):=Nat.one_le_pow _ _ (by decide);lia
  obtain⟨e,rfl⟩:∃e,d=2*e:=⟨d / 2,by lia⟩
  have p:1<=5 ^ e:=Nat.pos_of_ne_zero (by
   intro z;have:=zcm e;lia)
  have fac:5 ^ (2*e) - 1=(5 ^ e - 1)*(5 ^ e+1):=by
   have e1:5 ^ (2*e)=5 ^ e*5 ^ e:=by rw[Nat.two_mul,Nat.pow_add]
   rw[e1];generalize 5 ^ e=x at p ⊢;obtain⟨y,rfl⟩:∃y,x=y+1:=⟨x - 1,by lia⟩
   simp only[Nat.add_sub_cancel];have:(y+1)*(y+1)=y*(y+1+1)+1:=by grind
   lia
  obtain⟨o,ho⟩:∃o,5 ^ e+1=2*(2*o+1):=⟨(5 ^ e+1) / 4,by have:=zeO e; lia⟩
  rw[fac,ho] at h;have h2:2 ^ (k+2)*2 ∣ (5 ^ e - 1)*(2*o+1)*2:=by
   have:(5 ^ e - 1)*(2*(2*o+1))=(5 ^ e - 1)*(2*o+1)*2:=by grind
   rw[<- this, <- Nat.pow_succ];exact h
  have h3:2 ^ (k+2) ∣ (5 ^ e - 1)*(2*o+1):=Nat.dvd_of_mul_dvd_mul_right (by decide) h2;have h4:2 ^ (k+2) ∣ 5 ^ e - 1:=(z8q (by lia)).dvd_of_dvd_mul_right h3;obtain⟨c,hc⟩:=z2X k e h4;exact⟨c,by rw[hc,Nat.pow_succ]; grind⟩
def step (M x:Nat):Nat:=(x*5+1) % M
def orb (M x:Nat):Nat->Nat
 | 0=>x
 | n+1=>step M (orb M x n)
def z9v (M x:Nat):∀n,(4*orb M x n+1) % (4*M)=(5 ^ n*(4*x+1)) % (4*M)
 | 0=>by rw[orb,Nat.pow_zero,Nat.one_mul]
 | n+1=>by
  have ih:=z9v M x n;have e1:4*orb M x (n+1)+1=4*((orb M x n*5+1) % M)+1:=rfl;have e2:(4*((orb M x n*5+1) % M)+1) % (4*M)=(4*(orb M x n*5+1)+1) % (4*M):=by
   have:4*((orb M x n*5+1) % M)=(4*(orb M x n*5+1)) % (4*M):=(Nat.mul_mod_mul_left 4 (orb M x n*5+1) M).symm;rw[this,Nat.mod_add_mod]
  rw[e1,e2];have e3:4*(orb M x n*5+1)+1=5*(4*orb M x n+1):=by lia
  rw[e3,Nat.mul_mod,ih, <- Nat.mul_mod,Nat.pow_succ]
  congr 1
  grind
def zi6 {k x:Nat}{m n:Nat}(hmn:m<n)(hn:n<m+2 ^ k)(h:orb (2 ^ k) x m=orb (2 ^ k) x n):False:=by
 have h1:=z9v (2 ^ k) x m;have h2:=z9v (2 ^ k) x n;rw[h,h2] at h1;have e4:4*2 ^ k=2 ^ (k+2):=by rw[Nat.pow_add]; lia
 rw[e4] at h1;have hle:5 ^ m*(4*x+1)<=5 ^ n*(4*x+1):=Nat.mul_le_mul_right _ (Nat.pow_le_pow_right (by decide) (Nat.le_of_lt hmn));have hd:2 ^ (k+2) ∣ 5 ^ n*(4*x+1) - 5 ^ m*(4*x+1):=Nat.dvd_of_mod_eq_zero (Nat.sub_mod_eq_zero_of_mod_eq h1);have e5:5 ^ n*(4*x+1) - 5 ^ m*(4*x+1)=(5 ^ (n - m) - 1)*(5 ^ m*(4*x+1)):=by
  have:5 ^ n=5 ^ (n - m)*5 ^ m:=by rw[<- Nat.pow_add]; congr 1; lia
  rw[this,Nat.sub_mul,Nat.one_mul,Nat.mul_assoc]
 rw[e5] at hd;have ho:(5 ^ m*(4*x+1)) % 2=1:=by
  have:=zcm m;rw[Nat.mul_mod,this];lia
 have hd2:=(z8q ho).dvd_of_dvd_mul_right hd;have:=Nat.le_of_dvd (by lia) (z2X k (n - m) hd2);lia
def zc9:∀(n:Nat) (l:List Nat),l.Nodup->(∀x∈l,x<n)->l.length<=n
 | 0,l,_,h=>by
  cases l with
  | nil=>exact Nat.le_refl _
  | cons a _=>exact absurd (h a (by simp)) (Nat.not_lt_zero _)
 | n+1,l,hd,h=>by
  have h2:=zc9 n (l.erase n) (hd.erase n) λx hx=>by
   have hne:x≠n:=λz=>by
    subst z;exact(List.Nodup.not_mem_erase hd) hx
   have:=h x (List.mem_of_mem_erase hx);lia
  by_cases hm:n∈l
  ·rw[List.length_erase_of_mem hm] at h2;lia
  ·rw[List.erase_of_not_mem hm] at h2;lia
def zki {M x:Nat}(hM:0<M)(hx:x<M):∀n,orb M x n<M
 | 0=>hx
 | n+1=>Nat.mod_lt _ hM
def zi7 {k x e:Nat}(hx:x<2 ^ k)(he:e<2 ^ k):∃n,n<2 ^ k/\orb (2 ^ k) x n=e:=by
 refine Classical.byContradiction λhno =>?_;have hM:0<2 ^ k:=Nat.two_pow_pos k;have hl:=zc9 (2 ^ k) (e::(List.range (2 ^ k)).map (orb (2 ^ k) x)) (by
  refine List.nodup_cons.mpr ⟨λz =>?_,?_⟩
  ·obtain⟨n,hn,e'⟩:=List.mem_map.mp z;exact hno ⟨n,List.mem_range.mp hn,e'⟩
  ·rw[List.nodup_iff_pairwise_ne,List.pairwise_map];refine List.Pairwise.imp_of_mem (R:=(· < ·)) ?_ List.pairwise_lt_range;intro a b ha hb hab z;exact zi6 hab (by have:=List.mem_range.mp hb; lia) z) (λy hy=>by
  rcases List.mem_cons.mp hy with rfl | hy
  ·exact he
  ·obtain⟨n,_,rfl⟩:=List.mem_map.mp hy;exact zki hM hx n)
 simp at hl;lia
end Lcg
namespace Tab
open PySem PySem.SetTable
def z9Z (xs:Array Nat)(j:Nat)(hr:∀a b,a<b->b<xs.size->xs.getD a 0<xs.getD b 0):∀(fuel lo hi:Nat),hi<=xs.size->hi - lo<=fuel->lo<=hi->(∀i,i<lo->xs.getD i 0<j)->(∀i,hi<=i->i<xs.size->j<=xs.getD i 0)->
  below.go xs j fuel lo hi<=xs.size/\(∀i,i<below.go xs j fuel lo hi->xs.getD i 0<j)/\(∀i,below.go xs j fuel lo hi<=i->i<xs.size->j<=xs.getD i 0)
 | 0,lo,hi,h1,h2,h3,h4,h5=>by
  have:lo=hi:=by lia
  subst this;exact⟨h1,h4,h5⟩
 | fuel+1,lo,hi,h1,h2,h3,h4,h5=>by
  rw[below.go]
  by_cases hlt:lo<hi
  ·rw[if_pos hlt];have hm:(lo+hi) / 2<xs.size:=by lia
   have e:xs.getD ((lo+hi) / 2) j=xs.getD ((lo+hi) / 2) 0:=by simp[Array.getD,hm]
   dsimp only;rw[e]
   by_cases hj:xs.getD ((lo+hi) / 2) 0<j
   ·rw[if_pos hj];refine z9Z xs j hr fuel _ hi h1 (by lia) (by lia) (λi hi' =>?_) h5
    rcases Nat.lt_or_ge i ((lo+hi) / 2) with z | z
    ·have:=hr i _ z hm; lia
    ·have:i=(lo+hi) / 2:=by lia
     subst this; exact hj
   ·rw[if_neg hj];refine z9Z xs j hr fuel lo _ (by lia) (by lia) (by lia) h4 (λi hi' hi2 =>?_)
    rcases Nat.lt_or_ge ((lo+hi) / 2) i with z | z
    ·have:=hr _ i z hi2; lia
    ·have:i=(lo+hi) / 2:=by lia
     subst this; lia
  ·rw[if_neg hlt];have:lo=hi:=by lia
   subst this;exact⟨h1,h4,h5⟩
abbrev Rise (xs:Array Nat):Prop:=∀a b,a<b->b<xs.size->xs.getD a 0<xs.getD b 0
def z79 {xs:Array Nat}(hr:Rise xs)(j:Nat):below xs j<=xs.size/\(∀i,i<below xs j->xs.getD i 0<j)/\(∀i,below xs j<=i->i<xs.size->j<=xs.getD i 0):=
 z9Z xs j hr xs.size 0 xs.size (Nat.le_refl _) (by lia) (Nat.zero_le _) (λ_ h=>absurd h (Nat.not_lt_zero _)) (λi h1 h2=>absurd h1 (by lia))
def ziz {xs:Array Nat}{i j:Nat}(h:xs[i]? = some j):i<xs.size/\xs.getD i 0=j:=by
 obtain⟨hi,e⟩:=Array.getElem?_eq_some_iff.mp h;exact⟨hi,by simp[Array.getD,hi,e]⟩
def zmr {xs:Array Nat}{i:Nat}(h:i<xs.size):xs[i]? = some (xs.getD i 0):=by simp[Array.getD,h]
def zgu {xs:Array Nat}(hr:Rise xs){i j:Nat}(h:xs[i]? = some j):below xs j=i:=by
 obtain⟨h1,h2,h3⟩:=z79 hr j;obtain⟨hi,e⟩:=ziz h
 rcases Nat.lt_trichotomy (below xs j) i with z | z | z
 ·have:=h3 _ (Nat.le_refl _) (by lia);have:=hr _ _ z hi;lia
 ·exact z
 ·have:=h2 i z; lia
def zab {t:SetTable}(hr:Rise t.place){i j:Nat}(h:t.place[i]? = some j):t.slot j = .live i:=by
 unfold SetTable.slot;rw[zgu hr h];dsimp only;rw[h];simp
def zcA {t:SetTable}(hd:t.dummies = #[]){j:Nat}(h:∀i:Nat,t.place[i]? ≠ some j):t.slot j = .empty:=by
 unfold SetTable.slot;have h1:(t.place[below t.place j]? == some j)=false:=by
  have:=h (below t.place j);simpa using this
 have h2:has t.dummies j=false:=by rw[hd]; unfold has; simp
 simp only[h1,h2]
 rfl
def adv (mask:Nat)(p:Probe):Probe:=
 if p.more > 0 then { p with j:=p.j+1,more:=p.more - 1 } else
 { p with j:=(leap mask p.i p.perturb).1,more:=runEnd mask (leap mask p.i p.perturb).1 - (leap mask p.i p.perturb).1,i:=(leap mask p.i p.perturb).1,perturb:=(leap mask p.i p.perturb).2 }
def advs (mask:Nat)(p:Probe):Nat->Probe
 | 0=>p
 | n+1=>adv mask (advs mask p n)
def z4g (mask:Nat)(p:Probe)(m:Nat):∀n,advs mask p (m+n)=advs mask (advs mask p m) n
 | 0=>rfl
 | n+1=>congrArg (adv mask) (z4g mask p m n)
def z6Q (mask:Nat)(p:Probe)(n:Nat):advs mask p (n+1)=advs mask (adv mask p) n:=by
 rw[Nat.add_comm,z4g]
 rfl
def zaW (mask:Nat)(p:Probe):(adv mask p).dummy=p.dummy:=by
 unfold adv; split <;> rfl
def z9f (mask:Nat)(p:Probe):∀n,(advs mask p n).dummy=p.dummy
 | 0=>rfl
 | n+1=>by rw[advs,zaW,z9f mask p n]
def za1 (mask:Nat):∀(p:Probe) (n:Nat),n<=p.more->advs mask p n={ p with j:=p.j+n,more:=p.more - n }
 | p,0,_=>rfl
 | p,n+1,h=>by
  rw[advs,za1 mask p n (by lia)];unfold adv;rw[if_pos (by show p.more - n > 0; lia)];show ({ p with j:=p.j+n+1,more:=p.more - n - 1 }:Probe)=_
  congr 1
def z9n (mask i:Nat):runEnd mask i - i<=9:=by unfold runEnd; split <;> lia
def lp (mask:Nat)(i q:Nat):Nat->Nat × Nat
 | 0=>(i,q)
 | c+1=>leap mask (lp mask i q c).1 (lp mask i q c).2
def zet (mask:Nat)(i q:Nat):∀c,lp mask i q (c+1)=lp mask (leap mask i q).1 (leap mask i q).2 c
 | 0=>rfl
 | c+1=>by
  show leap mask (lp mask i q (c+1)).1 (lp mask i q (c+1)).2=_;rw[zet mask i q c]
  rfl
def z5r (mask:Nat)(p:Probe):advs mask p (p.more+1)={ p with j:=(leap mask p.i p.perturb).1,more:=runEnd mask (leap mask p.i p.perturb).1 - (leap mask p.i p.perturb).1,i:=(leap mask p.i p.perturb).1,perturb:=(leap mask p.i p.perturb).2 }:=by
 rw[advs,za1 mask p p.more (Nat.le_refl _)];unfold adv;rw[if_neg (by show ¬ p.more - p.more > 0; lia)]
def runs (mask:Nat):∀(c:Nat) (p:Probe),p.more<=9->∃s,s<=10*(c+1)/\(advs mask p s).j=(lp mask p.i p.perturb (c+1)).1/\(advs mask p s).i=(lp mask p.i p.perturb (c+1)).1/\(advs mask p s).perturb=(lp mask p.i p.perturb (c+1)).2/\(advs mask p s).more<=9
 | 0,p,h=>⟨p.more+1,by lia,by rw[z5r]; rfl,by rw[z5r]; rfl,by rw[z5r]; rfl,by rw[z5r]; exact z9n _ _⟩
 | c+1,p,h=>by
  obtain⟨s,h1,h2,h3,h4,h5⟩:=runs mask c p h;refine⟨s+((advs mask p s).more+1),by lia,?_⟩;rw[z4g,z5r];refine⟨?_,?_,?_,z9n _ _⟩
  ·show (leap mask (advs mask p s).i (advs mask p s).perturb).1=_; rw[h3,h4]; rfl
  ·show (leap mask (advs mask p s).i (advs mask p s).perturb).1=_; rw[h3,h4]; rfl
  ·show (leap mask (advs mask p s).i (advs mask p s).perturb).2=_; rw[h3,h4]; rfl
def z76 (mask i q:Nat):∀c,(lp mask i q c).2=q / 32 ^ c
 | 0=>by simp[lp]
 | c+1=>by
  show (lp mask i q c).2 / 32=_;rw[z76 mask i q c,Nat.div_div_eq_div_mul,Nat.pow_succ]
def zh7 {mask i q:Nat}(hq:q=0):∀c:Nat,(lp mask i q c).1=Lcg.orb (mask+1) i c
 | 0=>rfl
 | c+1=>by
  show ((lp mask i q c).1*5+1+(lp mask i q c).2 / 32) % (mask+1)=_;rw[z76,zh7 hq c,hq,Nat.zero_div,Nat.zero_div,Nat.add_zero]
  rfl
def zh8 (mask i q m:Nat):∀n,lp mask i q (m+n)=lp mask (lp mask i q m).1 (lp mask i q m).2 n
 | 0=>rfl
 | n+1=>by
  show leap mask (lp mask i q (m+n)).1 (lp mask i q (m+n)).2=_;rw[zh8 mask i q m n]
  rfl
def zgL {k mask i q e:Nat}(hm:mask+1=2 ^ k)(hq:q<2 ^ 64)(he:e<=mask):∃c,c<=13+mask/\13<=c/\(lp mask i q c).1=e:=by
 have hq13:(lp mask i q 13).2=0:=by
  rw[z76];exact Nat.div_eq_of_lt (Nat.lt_of_lt_of_le hq (by decide))
 have hi13:(lp mask i q 13).1<2 ^ k:=by
  rw[<- hm];exact Nat.mod_lt _ (by lia)
 obtain⟨d,hd,e1⟩:=Lcg.zi7 hi13 (show e<2 ^ k by lia);refine⟨13+d,by lia,by lia,?_⟩;rw[zh8,zh7 hq13,hm];exact e1
def zdz {k mask e:Nat}{p:Probe}(hm:mask+1=2 ^ k)(hq:p.perturb<2 ^ 64)(hp:p.more<=9)(he:e<=mask):∃s,s<10*turns mask/\(advs mask p s).j=e:=by
 obtain⟨c,h1,h2,h3⟩:=zgL (i:=p.i) (q:=p.perturb) hm hq he;obtain⟨c',rfl⟩:∃c',c=c'+1:=⟨c - 1,by lia⟩
 obtain⟨s,g1,g2,_⟩:=runs mask c' p hp;exact⟨s,by unfold turns; lia,g2.trans h3⟩
def zlb {mask:Nat}{p:Probe}(hq:p.perturb<2 ^ 64)(hp:p.more<=9):(adv mask p).perturb<2 ^ 64/\(adv mask p).more<=9:=by
 unfold adv
 split
 ·exact⟨hq,by show p.more - 1<=9; lia⟩
 ·exact⟨Nat.lt_of_le_of_lt (Nat.div_le_self _ _) hq,z9n _ _⟩
def zbG {mask:Nat}{p:Probe}(hq:p.perturb<2 ^ 64)(hp:p.more<=9):∀n,(advs mask p n).perturb<2 ^ 64/\(advs mask p n).more<=9
 | 0=>⟨hq,hp⟩
 | n+1=>zlb (zbG hq hp n).1 (zbG hq hp n).2
def z6k (t:SetTable)(h:Int):(t.probeStart h).perturb<2 ^ 64/\(t.probeStart h).more<=9:=by
 refine⟨?_,z9n _ _⟩;show (h % (2 ^ 64:Int)).toNat<2 ^ 64;have h1:=Int.emod_nonneg h (show (2 ^ 64:Int)≠0 by decide);have h2:=Int.emod_lt_of_pos h (show (0:Int)<2 ^ 64 by decide);lia
def zbZ {t:SetTable}(hd:t.dummies = #[])(hr:Rise t.place)(hashAt:Nat->Int)(h:Int):∀(fuel:Nat) (p:Probe),(∃s,s<fuel/\∀i:Nat,t.place[i]? ≠ some (advs t.mask p s).j)->
  ∃s,(∀m,m<s->∃i:Nat,t.place[i]? = some (advs t.mask p m).j/\hashAt i≠h)/\
   (((∀i:Nat,t.place[i]? ≠ some (advs t.mask p s).j)/\probe.go t hashAt h fuel p=some (.empty (advs t.mask p s).j p.dummy))\/
    ∃i:Nat,t.place[i]? = some (advs t.mask p s).j/\hashAt i=h/\probe.go t hashAt h fuel p=some (.candidate (advs t.mask p s).j i (advs t.mask p (s+1))))
 | 0,p,⟨s,hs,_⟩=>absurd hs (Nat.not_lt_zero _)
 | fuel+1,p,⟨s,hs,he⟩=>by
  by_cases hl:∃i:Nat,t.place[i]? = some p.j
  ·obtain⟨i,hi⟩:=hl;have e1:probe.go t hashAt h (fuel+1) p=if hashAt i == h then some (.candidate p.j i (t.advance p)) else probe.go t hashAt h fuel (t.advance p):=by
    rw[probe.go,zab hr hi]
   by_cases hh:hashAt i=h
   ·refine⟨0,λm hm=>absurd hm (Nat.not_lt_zero _),.inr ⟨i,hi,hh,?_⟩⟩;rw[e1,if_pos (by simpa using hh)]
    rfl
   ·have hs0:s≠0:=λz=>by subst z; exact he i hi
    obtain⟨s',rfl⟩:∃s',s=s'+1:=⟨s - 1,by lia⟩
    rw[z6Q] at he;obtain⟨r,h1,h2⟩:=zbZ hd hr hashAt h fuel (adv t.mask p) ⟨s',by lia,he⟩;refine⟨r+1,λm hm =>?_,?_⟩
    ·cases m with
     | zero=>exact⟨i,hi,hh⟩
     | succ m=>rw[z6Q]; exact h1 m (by lia)
    ·rw[e1,if_neg (by simpa using hh),z6Q,z6Q, <- zaW t.mask p];exact h2
  ·have hn:∀i:Nat,t.place[i]? ≠ some p.j:=λi z=>hl ⟨i,z⟩;refine⟨0,λm hm=>absurd hm (Nat.not_lt_zero _),.inl ⟨hn,?_⟩⟩;rw[probe.go,zcA hd hn]
   rfl
def z4D:∀{l l':List Nat},l.Nodup->(∀x∈l,x∈l')->l.length<=l'.length
 | [],_,_,_=>Nat.zero_le _
 | a::l,l',h,hs=>by
  obtain⟨h1,h2⟩:=List.nodup_cons.mp h;have ha:=hs a (by simp);have:=z4D (l:=l) (l':=l'.erase a) h2 λx hx=>(List.mem_erase_of_ne (λ(z:x=a)=>h1 (z ▸ hx))).mpr (hs x (by simp[hx]));rw[List.length_erase_of_mem ha] at this;have hp:0<l'.length:=List.length_pos_of_mem ha;simp only[List.length_cons];lia
def z6r:∀{l l':List Nat},l.Nodup->l'.Nodup->(∀x,x∈l↔x∈l')->l.Perm l'
 | [],l',_,_,h=>by
  cases l' with
  | nil=>exact List.Perm.refl _
  | cons b l'=>exact absurd ((h b).mpr (by simp)) (by simp)
 | a::l,l',h1,h2,h=>by
  obtain⟨n1,n2⟩:=List.nodup_cons.mp h1;have ha:a∈l':=(h a).mp (by simp);have p:=z6r (l:=l) (l':=l'.erase a) n2 (h2.erase a) λx=>by
   constructor
   ·intro hx;exact(List.mem_erase_of_ne (λ(z:x=a)=>n1 (z ▸ hx))).mpr ((h x).mp (by simp[hx]))
   ·intro hx;have hne:x≠a:=λz=>by
     subst z;exact(List.Nodup.not_mem_erase h2) hx
    rcases List.mem_cons.mp ((h x).mpr (List.mem_of_mem_erase hx)) with z | z
    ·exact absurd z hne
    ·exact z
  exact(List.Perm.cons a p).trans (List.perm_cons_erase ha).symm
variable {α:Type}
abbrev Rw (α:Type):=Nat × Int × α
def zde (mask:Nat)(occ:Nat->Prop)(h:Int)(j:Nat):Prop:=∃n,(advs mask (probeStart { mask:=mask,place := #[],dummies := #[],finger:=0,led:=true,moves:=0,plain:=true } h) n).j=j/\∀m,m<n->occ (advs mask (probeStart { mask:=mask,place := #[],dummies := #[],finger:=0,led:=true,moves:=0,plain:=true } h) m).j
abbrev st0 (mask:Nat)(h:Int):Probe:=probeStart { mask:=mask,place := #[],dummies := #[],finger:=0,led:=true,moves:=0,plain:=true } h
def zde.mono {mask:Nat}{occ occ':Nat->Prop}{h:Int}{j:Nat}(x:zde mask occ h j)(i:∀a,occ a->occ' a):zde mask occ' h j:=by
 obtain⟨n,h1,h2⟩:=x;exact⟨n,h1,λm hm=>i _ (h2 m hm)⟩
structure TabW (t:SetTable)(es:Array (Int × α))(L:List (Rw α)):Prop where
 place:t.place=(L.map (·.1)).toArray
 es:es=(L.map (·.2)).toArray
 rise:L.Pairwise λa b=>a.1<b.1
 le:∀r∈L,r.1<=t.mask
 dum:t.dummies = #[]
 pow:∃k,3<=k/\t.mask+1=2 ^ k
 reach:∀r∈L,zde t.mask (λj=>∃r'∈L,r'.1=j) r.2.1 r.1
def TabW.occ {t:SetTable}{es:Array (Int × α)}{L:List (Rw α)}(w:TabW t es L){j:Nat}:(∃i:Nat,t.place[i]? = some j)↔∃r∈L,r.1=j:=by
 rw[w.place]
 constructor
 ·rintro⟨i,h⟩;have h':(L.map (·.1))[i]? = some j:=by simpa using h
  obtain⟨r,hr,e⟩:=List.mem_map.mp (List.mem_of_getElem? h');exact⟨r,hr,e⟩
 ·rintro⟨r,hr,rfl⟩;obtain⟨i,hi,e⟩:=List.mem_iff_getElem.mp hr;exact⟨i,by simp[hi,e]⟩
def TabW.riseP {t:SetTable}{es:Array (Int × α)}{L:List (Rw α)}(w:TabW t es L):Rise t.place:=by
 rw[w.place];intro a b hab hb;have hb':b<L.length:=by simpa using hb
 have:=List.pairwise_iff_getElem.mp w.rise a b (by lia) hb' hab;simpa[Array.getD,show a<L.length by lia,hb'] using this
def TabW.size {t:SetTable}{es:Array (Int × α)}{L:List (Rw α)}(w:TabW t es L):t.place.size=L.length/\es.size=L.length/\t.fill=L.length:=by
 refine⟨by rw[w.place]; simp,by rw[w.es]; simp,?_⟩;unfold fill;rw[w.place,w.dum];simp
def TabW.nodup {t:SetTable}{es:Array (Int × α)}{L:List (Rw α)}(w:TabW t es L):(L.map (·.1)).Nodup:=by
 rw[List.nodup_iff_pairwise_ne,List.pairwise_map];exact w.rise.imp λh=>Nat.ne_of_lt h
def TabW.room {t:SetTable}{es:Array (Int × α)}{L:List (Rw α)}(w:TabW t es L)(h:L.length<=t.mask):∃e,e<=t.mask/\¬ ∃r∈L,r.1=e:=by
 refine Classical.byContradiction λhno =>?_;have all:∀e,e<=t.mask->∃r∈L,r.1=e:=λe he=>Classical.byContradiction λz=>hno ⟨e,he,z⟩;have:=z4D (l:=List.range (t.mask+1)) (l':=L.map (·.1)) List.nodup_range λx hx=>by
  obtain⟨r,hr,e⟩:=all x (by have:=List.mem_range.mp hx; lia);exact List.mem_map.mpr ⟨r,hr,e⟩
 simp at this;lia
def TabW.probe {t:SetTable}{es:Array (Int × α)}{L:List (Rw α)}(w:TabW t es L)(hroom:L.length<=t.mask)(hashAt:Nat->Int)(h:Int)(n:Nat):
  ∃s,(∀m,n<=m->m<n+s->∃i:Nat,t.place[i]? = some (advs t.mask (st0 t.mask h) m).j/\hashAt i≠h)/\
   (((∀i:Nat,t.place[i]? ≠ some (advs t.mask (st0 t.mask h) (n+s)).j)/\t.probe hashAt h (advs t.mask (st0 t.mask h) n)=some (.empty (advs t.mask (st0 t.mask h) (n+s)).j none))\/
    ∃i:Nat,t.place[i]? = some (advs t.mask (st0 t.mask h) (n+s)).j/\hashAt i=h/\t.probe hashAt h (advs t.mask (st0 t.mask h) n)=some (.candidate (advs t.mask (st0 t.mask h) (n+s)).j i (advs t.mask (st0 t.mask h) (n+s+1)))):=by
 obtain⟨e,he,hne⟩:=w.room hroom;obtain⟨k,_,hk⟩:=w.pow;have ok:=zbG (mask:=t.mask) (z6k t h).1 (z6k t h).2 n;obtain⟨s0,hs0,e0⟩:=zdz (p:=advs t.mask (st0 t.mask h) n) hk ok.1 ok.2 he;obtain⟨s,h1,h2⟩:=zbZ w.dum w.riseP hashAt h (10*turns t.mask) (advs t.mask (st0 t.mask h) n) ⟨s0,hs0,λi z=>by
  rw[e0] at z;exact hne (w.occ.mp ⟨i,z⟩)⟩
 refine⟨s,λm hm1 hm2 =>?_,?_⟩
 ·obtain⟨d,rfl⟩:∃d,m=n+d:=⟨m - n,by lia⟩
  rw[z4g];exact h1 d (by lia)
 ·rw[Nat.add_assoc,z4g,z4g];rw[z9f] at h2;exact h2
def TabW.soon {t:SetTable}{es:Array (Int × α)}{L:List (Rw α)}(w:TabW t es L)(hroom:L.length<=t.mask)(h:Int):∃N,N<10*turns t.mask/\¬ ∃r∈L,r.1=(advs t.mask (st0 t.mask h) N).j:=by
 obtain⟨e,he,hne⟩:=w.room hroom;obtain⟨k,_,hk⟩:=w.pow;obtain⟨s0,hs0,e0⟩:=zdz (p:=st0 t.mask h) hk (z6k t h).1 (z6k t h).2 he;exact⟨s0,hs0,by rw[e0]; exact hne⟩
def ins (L:List (Rw α))(p:Nat)(r:Rw α):List (Rw α):=L.take p++r::L.drop p
def z9I {L:List (Rw α)}{p:Nat}{r x:Rw α}:x∈ins L p r↔x=r\/x∈L:=by
 unfold ins;rw[List.mem_append,List.mem_cons]
 constructor
 ·rintro(h | h | h)
  ·exact .inr (List.mem_of_mem_take h)
  ·exact .inl h
  ·exact .inr (List.mem_of_mem_drop h)
 ·rintro(h | h)
  ·exact .inr (.inl h)
  ·rw[<- List.take_append_drop p L,List.mem_append] at h
   rcases h with h | h
   ·exact .inl h
   ·exact .inr (.inr h)
def z6B {β:Type}(l:List β){p:Nat}(x:β):insertAt l.toArray p x=(l.take p++x::l.drop p).toArray:=by
 unfold insertAt;apply Array.ext';simp;exact List.take_of_length_le (by simp)
def TabW.put {t:SetTable}{es:Array (Int × α)}{L:List (Rw α)}(w:TabW t es L){h:Int}{x:α}{n:Nat}(hocc:∀m,m<n->∃r∈L,r.1=(advs t.mask (st0 t.mask h) m).j)(hemp:¬ ∃r∈L,r.1=(advs t.mask (st0 t.mask h) n).j)(hle:(advs t.mask (st0 t.mask h) n).j<=t.mask):
  TabW (t.put (advs t.mask (st0 t.mask h) n).j).1 (insertAt es (t.put (advs t.mask (st0 t.mask h) n).j).2 (h,x)) (ins L (t.put (advs t.mask (st0 t.mask h) n).j).2 ((advs t.mask (st0 t.mask h) n).j,h,x)):=by
 generalize hj:(advs t.mask (st0 t.mask h) n).j=j at*;obtain⟨b1,b2,b3⟩:=z79 w.riseP j;have hp:(t.put j).2=below t.place j:=rfl;rw[hp];generalize hq:below t.place j=p at*;have hpl:p<=L.length:=by rw[<- w.size.1]; exact b1
 have at':∀i (hi:i<L.length),t.place.getD i 0=(L[i]).1:=λi hi=>by rw[w.place]; simp[Array.getD,hi]
 have lo:∀r∈L.take p,r.1<j:=λr hr=>by
  obtain⟨i,hi,rfl⟩:=List.mem_iff_getElem.mp hr;have hi':i<p/\i<L.length:=by simp at hi; lia
  have:=b2 i hi'.1;rw[at' i hi'.2] at this;simpa using this
 have hi:∀r∈L.drop p,j<r.1:=λr hr=>by
  obtain⟨i,hi,rfl⟩:=List.mem_iff_getElem.mp hr;have hi':p+i<L.length:=by simp at hi; lia
  have h1:=b3 (p+i) (by lia) (by rw[w.size.1]; exact hi');rw[at' _ hi'] at h1;have h2:(L[p+i]).1≠j:=λz=>hemp ⟨L[p+i],List.getElem_mem hi',z⟩;simp only[List.getElem_drop];lia
 have hdum:(t.put j).1.dummies = #[]:=by
  show (if has t.dummies j then eraseAt t.dummies (below t.dummies j) else t.dummies) = #[];rw[w.dum];simp[has]
 refine⟨?_,?_,?_,λr hr =>?_,hdum,w.pow,λr hr =>?_⟩
 ·show insertAt t.place (below t.place j) j=_;rw[hq,w.place,z6B];unfold ins;rw[List.map_append,List.map_cons,List.map_take,List.map_drop]
 ·rw[w.es,z6B];unfold ins;rw[List.map_append,List.map_cons,List.map_take,List.map_drop]
 ·unfold ins;rw[List.pairwise_append];have pw:=w.rise;rw[<- List.take_append_drop p L,List.pairwise_append] at pw;refine⟨pw.1,List.pairwise_cons.mpr ⟨λr hr=>hi r hr,pw.2.1⟩,λa ha b hb =>?_⟩
  rcases List.mem_cons.mp hb with rfl | hb
  ·exact lo a ha
  ·exact pw.2.2 a ha b hb
 ·show r.1<=t.mask
  rcases z9I.mp hr with rfl | hr
  ·exact hle
  ·exact w.le r hr
 ·show zde t.mask _ r.2.1 r.1
  rcases z9I.mp hr with rfl | hr
  ·exact⟨n,hj,λm hm=>by
    obtain⟨r',hr',e⟩:=hocc m hm;exact⟨r',z9I.mpr (.inr hr'),e⟩⟩
  ·exact(w.reach r hr).mono λa ⟨r',hr',e⟩=>⟨r',z9I.mpr (.inr hr'),e⟩
def j_le {mask:Nat}:∀(n:Nat) {p:Probe},p.j+p.more<=mask->(advs mask p n).j+(advs mask p n).more<=mask
 | 0,_,h=>h
 | n+1,p,h=>by
  have ih:=j_le n h;show (adv mask (advs mask p n)).j+(adv mask (advs mask p n)).more<=mask;unfold adv
  split
  ·show (advs mask p n).j+1+((advs mask p n).more - 1)<=mask; lia
  ·have hl:(leap mask (advs mask p n).i (advs mask p n).perturb).1<=mask:=Nat.le_of_lt_succ (Nat.mod_lt _ (Nat.succ_pos _));show (leap mask (advs mask p n).i (advs mask p n).perturb).1+(runEnd mask (leap mask (advs mask p n).i (advs mask p n).perturb).1 - (leap mask (advs mask p n).i (advs mask p n).perturb).1)<=mask;generalize (leap mask (advs mask p n).i (advs mask p n).perturb).1=x at hl;unfold runEnd
   split <;> lia
def zdx (mask:Nat)(h:Int)(n:Nat):(advs mask (st0 mask h) n).j<=mask:=by
 have:(st0 mask h).j+(st0 mask h).more<=mask:=by
  show bits h % (mask+1)+(runEnd mask (bits h % (mask+1)) - bits h % (mask+1))<=mask;have hl:bits h % (mask+1)<=mask:=Nat.le_of_lt_succ (Nat.mod_lt _ (Nat.succ_pos _));generalize bits h % (mask+1)=x at hl;unfold runEnd
  split <;> lia
 have:=j_le n this;lia
variable {α:Type}
def rp (mask i q:Nat):Probe:={ j:=i,more:=runEnd mask i - i,i:=i,perturb:=q,dummy:=none }
def zj9 (mask:Nat)(h:Int):st0 mask h=rp mask (bits h % (mask+1)) (bits h):=rfl
def zdM (mask i q:Nat):advs mask (rp mask i q) (runEnd mask i - i+1)=rp mask (leap mask i q).1 (leap mask i q).2:=z5r mask (rp mask i q)
def zfz (mask i q:Nat){m:Nat}(h:m<=runEnd mask i - i):(advs mask (rp mask i q) m).j=i+m:=by rw[za1 mask (rp mask i q) m h]; rfl
def zjq (mask i:Nat):i<=runEnd mask i:=by unfold runEnd; split <;> lia
def zaC {mask:Nat}{owner:Array (Option Nat)}:∀(fuel i q:Nat),(∃c,c<fuel/\(owner.getD (lp mask i q c).1 (some 0)).isNone=true)->
  ∃s,layClean.free mask owner fuel i q=some (advs mask (rp mask i q) s).j/\(owner.getD (advs mask (rp mask i q) s).j (some 0)).isNone=true/\∀m,m<s->(owner.getD (advs mask (rp mask i q) m).j (some 0)).isNone=false
 | 0,i,q,⟨c,hc,_⟩=>absurd hc (Nat.not_lt_zero _)
 | fuel+1,i,q,⟨c,hc,he⟩=>by
  rw[layClean.free];have hge:=zjq mask i
  cases hf:(List.range (runEnd mask i+1 - i)).find? λk=>(owner.getD (i+k) (some 0)).isNone with
  | some k=>
   obtain⟨h1,h2,h3⟩:=List.find?_range_eq_some.mp hf;have hk:k<runEnd mask i+1 - i:=by simpa using h2
   dsimp only;refine⟨k,by rw[zfz mask i q (by lia)],by rw[zfz mask i q (by lia)]; exact h1,λm hm =>?_⟩;rw[zfz mask i q (by lia)];have:=h3 m hm;simpa using this
  | none=>
   have hn:=List.find?_range_eq_none.mp hf;have all:∀k,k<=runEnd mask i - i->(owner.getD (i+k) (some 0)).isNone=false:=λk hk=>by
    have:=hn k (by lia);simpa using this
   have hc0:c≠0:=λz=>by
    subst z;have:=all 0 (Nat.zero_le _);rw[Nat.add_zero] at this;have he':(owner.getD i (some 0)).isNone=true:=he;rw[this] at he'
    cases he'
   obtain⟨c',rfl⟩:∃c',c=c'+1:=⟨c - 1,by lia⟩
   rw[zet] at he;obtain⟨s,h1,h2,h3⟩:=zaC fuel _ _ ⟨c',by lia,he⟩;rw[<- zdM, <- z4g] at h1 h2;dsimp only;refine⟨runEnd mask i - i+1+s,h1,h2,λm hm =>?_⟩
   rcases Nat.lt_or_ge m (runEnd mask i - i+1) with z | z
   ·rw[zfz mask i q (by lia)];exact all m (by lia)
   ·obtain⟨d,rfl⟩:∃d,m=runEnd mask i - i+1+d:=⟨m - (runEnd mask i - i+1),by lia⟩
    rw[z4g,zdM];exact h3 d (by lia)
structure Own (mask:Nat)(hs:List Int)(owner:Array (Option Nat))(pos:List Nat):Prop where
 size:owner.size=mask+1
 len:pos.length=hs.length
 le:∀j∈pos,j<=mask
 nd:pos.Nodup
 own:∀j,j<=mask->∀k,owner.getD j (some 0)=some k↔pos[k]? = some j
 reach:∀(k:Nat) (h:Int) (j:Nat),hs[k]? = some h->pos[k]? = some j->zde mask (· ∈ pos) h j
def Own.free {mask:Nat}{hs:List Int}{owner:Array (Option Nat)}{pos:List Nat}(o:Own mask hs owner pos){j:Nat}(hj:j<=mask):(owner.getD j (some 0)).isNone=true↔j ∉ pos:=by
 constructor
 ·intro h z;obtain⟨k,hk,e⟩:=List.mem_iff_getElem.mp z;have:=(o.own j hj k).mpr (by rw[List.getElem?_eq_getElem hk,e]);rw[this] at h
  cases h
 ·intro h
  cases e:owner.getD j (some 0) with
  | none=>rfl
  | some k=>exact absurd (List.mem_of_getElem? ((o.own j hj k).mp e)) h
def Own.add {mask k:Nat}{hs:List Int}{owner:Array (Option Nat)}{pos:List Nat}(o:Own mask hs owner pos)(hm:mask+1=2 ^ k)(hroom:hs.length<=mask)(h:Int):
  ∃j,layClean.free mask owner (turns mask) (bits h % (mask+1)) (bits h)=some j/\Own mask (hs++[h]) (owner.setIfInBounds j (some hs.length)) (pos++[j]):=by
 have hex:∃e,e<=mask/\e ∉ pos:=by
  refine Classical.byContradiction λhno =>?_;have:=z4D (l:=List.range (mask+1)) (l':=pos) List.nodup_range λx hx=>Classical.byContradiction λz=>hno ⟨x,by have:=List.mem_range.mp hx; lia,z⟩;rw[List.length_range,o.len] at this;lia
 obtain⟨e,he,hne⟩:=hex;have hq:bits h<2 ^ 64:=(z6k { mask:=mask,place := #[],dummies := #[],finger:=0,led:=true,moves:=0,plain:=true } h).1;obtain⟨c,c1,c2,c3⟩:=zgL (i:=bits h % (mask+1)) (q:=bits h) hm hq he;obtain⟨s,h1,h2,h3⟩:=zaC (mask:=mask) (owner:=owner) (turns mask) (bits h % (mask+1)) (bits h) ⟨c,by unfold turns; lia,by rw[c3]; exact(o.free he).mpr hne⟩;rw[<- zj9] at h1 h2 h3;have hjl:=zdx mask h s;refine⟨_,h1,?_⟩;generalize hj:(advs mask (st0 mask h) s).j=j at*;have hjn:j ∉ pos:=(o.free hjl).mp h2;refine⟨by rw[Array.size_setIfInBounds]; exact o.size,by rw[List.length_append,List.length_append,o.len]; rfl,λx hx =>?_,?_,λx hx n =>?_,λn h' j' e1 e2 =>?_⟩
 ·rcases List.mem_append.mp hx with z | z
  ·exact o.le x z
  ·rw[List.mem_singleton.mp z]; exact hjl
 ·rw[List.nodup_append];exact⟨o.nd,by simp,λa ha b hb z=>hjn (by rw[List.mem_singleton.mp hb] at z; exact z ▸ ha)⟩
 ·have hxs:x<owner.size:=by rw[o.size]; lia
  have e0:(owner.setIfInBounds j (some hs.length)).getD x (some 0)=if j=x then some hs.length else owner.getD x (some 0):=by
   have hjs:j<owner.size:=by rw[o.size]; lia
   rw[Array.getD_eq_getD_getElem?, Array.getD_eq_getD_getElem?, Array.getElem?_setIfInBounds]
   by_cases hxj:j=x
   ·subst hxj; rw[if_pos rfl,if_pos hjs,if_pos rfl]; rfl
   ·rw[if_neg hxj,if_neg hxj]
  rw[e0]
  by_cases hxj:j=x
  ·subst hxj;rw[if_pos rfl]
   constructor
   ·intro z;have:hs.length=n:=Option.some.inj z;rw[<- this, <- o.len,List.getElem?_append_right (Nat.le_refl _)];simp
   ·intro z
    rcases Nat.lt_or_ge n pos.length with hl | hl
    ·rw[List.getElem?_append_left hl] at z;exact absurd (List.mem_of_getElem? z) hjn
    ·rw[List.getElem?_append_right hl] at z;have hn0:n - pos.length=0:=by
      rcases Nat.eq_zero_or_pos (n - pos.length) with w | w
      ·exact w
      ·rw[List.getElem?_eq_none (by show 1<=_; lia)] at z; cases z
     rw[<- o.len]
     congr 1
     lia
  ·rw[if_neg hxj,o.own x hx n]
   constructor
   ·intro z;obtain⟨hn,_⟩:=List.getElem?_eq_some_iff.mp z;rw[List.getElem?_append_left hn]; exact z
   ·intro z
    rcases Nat.lt_or_ge n pos.length with hl | hl
    ·rw[List.getElem?_append_left hl] at z; exact z
    ·rw[List.getElem?_append_right hl] at z;exact absurd (List.mem_singleton.mp (List.mem_of_getElem? z)).symm hxj
 ·rcases Nat.lt_or_ge n pos.length with hl | hl
  ·rw[List.getElem?_append_left hl] at e2;rw[List.getElem?_append_left (by rw[<- o.len]; exact hl)] at e1;exact(o.reach n h' j' e1 e2).mono λa ha=>List.mem_append_left _ ha
  ·rw[List.getElem?_append_right hl] at e2;rw[List.getElem?_append_right (by rw[<- o.len]; exact hl)] at e1;have z1:=List.mem_singleton.mp (List.mem_of_getElem? e1);have z2:=List.mem_singleton.mp (List.mem_of_getElem? e2);subst z1 z2;refine⟨s,hj,λm hm=>List.mem_append_left _ ?_⟩;have:=h3 m hm;refine Classical.byContradiction λz =>?_;rw[(o.free (zdx mask h' m)).mpr z] at this
   cases this
def z7X {mask k:Nat}(hm:mask+1=2 ^ k):∀(hs done:List Int) (owner:Array (Option Nat)) (pos:List Nat),Own mask done owner pos->done.length+hs.length<=mask+1->
  ∃owner' pos',(hs.foldl (init:=some (owner,done.length)) λacc h=>do
   let (owner,k) <- acc
   let j <- layClean.free mask owner (turns mask) (bits h % (mask+1)) (bits h)
   pure (owner.setIfInBounds j (some k),k+1))=some (owner',done.length+hs.length)/\Own mask (done++hs) owner' pos'
 | [],done,owner,pos,o,_=>⟨owner,pos,rfl,by rw[List.append_nil]; exact o⟩
 | h::hs,done,owner,pos,o,hl=>by
  simp only[List.length_cons] at hl;obtain⟨j,e,o'⟩:=o.add hm (by lia) h;obtain⟨ow,ps,e2,o2⟩:=z7X hm hs (done++[h]) _ _ o' (by simp; lia);refine⟨ow,ps,?_,by simpa using o2⟩;rw[List.foldl_cons];have:(do
   let (owner,k) <- some (owner,done.length)
   let j <- layClean.free mask owner (turns mask) (bits h % (mask+1)) (bits h)
   pure (owner.setIfInBounds j (some k),k+1))=some (owner.setIfInBounds j (some done.length),(done++[h]).length):=by
   simp[e]
  rw[this,e2];simp;lia
def own0 (mask:Nat):Own mask [] (Array.replicate (mask+1) none) []:=by
 refine⟨by simp,rfl,by simp,by simp,λj hj k =>?_,λk h j e _=>by simp at e⟩;have:(Array.replicate (mask+1) (none:Option Nat)).getD j (some 0)=none:=by simp[Array.getD,show j<mask+1 by lia]
 rw[this];simp
def zis {mask k finger moves:Nat}{led plain:Bool}(hm:mask+1=2 ^ k)(hk:3<=k){es:Array (Int × α)}(hl:es.size<=mask+1):
  ∃t' z2X L',laid mask finger moves led plain (es.map (·.1))=some (t',z2X)/\t'.mask=mask/\t'.finger=finger/\t'.moves=moves/\t'.led=led/\t'.plain=plain/\(z2X.filterMap (es[·]?)).size=es.size/\TabW t' (z2X.filterMap (es[·]?)) L'/\(z2X.filterMap (es[·]?)).toList.Perm es.toList:=by
 obtain⟨owner,pos,e,o⟩:=z7X hm (es.map (·.1)).toList [] _ _ (own0 mask) (by simpa using hl);simp only[List.nil_append,List.length_nil,Nat.zero_add] at e o;have hlay:layClean mask (es.map (·.1))=some owner:=by
  unfold layClean;rw[<- Array.foldl_toList,e]
  rfl
 have hn:(es.map (·.1)).toList.length=es.size:=by simp
 have hpl:pos.length=es.size:=by rw[o.len,hn]
 generalize hlive:((List.range (mask+1)).filterMap λj=>(owner.getD j none).map (j, ·))=live;have gd:∀j,j<=mask->owner.getD j none=owner.getD j (some 0):=λj hj=>by
  have:j<owner.size:=by rw[o.size]; lia
  simp[Array.getD,this]
 have mem:∀j n,(j,n)∈live↔pos[n]? = some j:=λj n=>by
  rw[<- hlive,List.mem_filterMap]
  constructor
  ·rintro⟨x,hx,e⟩;have hx':x<=mask:=by have:=List.mem_range.mp hx; lia
   rw[gd x hx'] at e;obtain⟨y,hy,e2⟩:=Option.map_eq_some_iff.mp e
   cases e2
   exact(o.own j hx' n).mp hy
  ·intro h;have hj:j<=mask:=o.le j (List.mem_of_getElem? h);refine⟨j,List.mem_range.mpr (by lia),?_⟩;rw[gd j hj,(o.own j hj n).mpr h]
   rfl
 have sorted:live.Pairwise λa b=>a.1<b.1:=by
  rw[<- hlive];have h1:(List.range (mask+1)).Pairwise (· < ·):=List.pairwise_lt_range;generalize List.range (mask+1)=rg at h1
  induction rg with
  | nil=>simp
  | cons x rg ih=>
   obtain⟨p1,p2⟩:=List.pairwise_cons.mp h1;rw[List.filterMap_cons]
   cases hx:(owner.getD x none).map (x, ·) with
   | none=>exact ih p2
   | some y=>
    obtain⟨z,_,rfl⟩:=Option.map_eq_some_iff.mp hx;refine List.pairwise_cons.mpr ⟨λb hb =>?_,ih p2⟩;obtain⟨x',hx',e'⟩:=List.mem_filterMap.mp hb;obtain⟨z',_,rfl⟩:=Option.map_eq_some_iff.mp e';exact p1 x' hx'
 have nd2:(live.map (·.2)).Nodup:=by
  rw[List.nodup_iff_pairwise_ne,List.pairwise_map];refine List.Pairwise.imp_of_mem ?_ sorted;intro a b ha hb hab z;have h1:=(mem a.1 a.2).mp ha;have h2:=(mem b.1 b.2).mp hb;rw[<- z,h1] at h2;have:a.1=b.1:=Option.some.inj h2;lia
 have perm:(live.map (·.2)).Perm (List.range es.size):=by
  refine z6r nd2 List.nodup_range λn =>?_;rw[List.mem_range]
  constructor
  ·intro h;obtain⟨a,ha,rfl⟩:=List.mem_map.mp h;obtain⟨hlt,_⟩:=List.getElem?_eq_some_iff.mp ((mem a.1 a.2).mp ha);lia
  ·intro h;refine List.mem_map.mpr ⟨(pos[n]'(by lia),n),(mem _ _).mpr (List.getElem?_eq_getElem (by lia)),rfl⟩
 have self:(List.range es.size).filterMap (es[·]?)=es.toList:=by
  have:∀(l:List (Int × α)),(List.range l.length).filterMap (l[·]?)=l:=λl=>by
   have e1:(List.range l.length).map (l[·]?)=l.map some:=by
    apply List.ext_getElem
    ·simp
    ·intro i h1 h2;simp at h1;simp[h1]
   have e2:(List.range l.length).filterMap (l[·]?)=((List.range l.length).map (l[·]?)).filterMap id:=by rw[List.filterMap_map]; rfl
   rw[e2,e1,List.filterMap_map];simp
  have h:=this es.toList;simpa using h
 have pe:(((live.map (·.2)).toArray).filterMap (es[·]?)).toList.Perm es.toList:=by
  have:=perm.filterMap (es[·]?);rw[self] at this;simpa using this
 refine⟨{ mask,place:=(live.map (·.1)).toArray,dummies := #[],finger,led,moves,plain },(live.map (·.2)).toArray,live.filterMap λa=>(es[a.2]?).map λx=>(a.1,x),?_,rfl,rfl,rfl,rfl,rfl,?_,?_,pe⟩
 ·unfold laid;rw[hlay];simp only[Option.bind_eq_bind,Option.bind_some];rw[hlive]
  rfl
 ·have:=pe.length_eq;simpa using this
 ·-- each live row has an element
  have has:∀a∈live,∃x,es[a.2]? = some x:=λa ha=>by
   obtain⟨hlt,_⟩:=List.getElem?_eq_some_iff.mp ((mem a.1 a.2).mp ha);exact⟨es[a.2]'(by lia),Array.getElem?_eq_getElem (by lia)⟩
  have e1:∀(l:List (Nat × Nat)),(∀a∈l,∃x,es[a.2]? = some x)->(l.filterMap λa=>(es[a.2]?).map λx=>(a.1,x)).map (·.1)=l.map (·.1)/\(l.filterMap λa=>(es[a.2]?).map λx=>(a.1,x)).map (·.2)=(l.map (·.2)).filterMap (es[·]?):=λl=>by
   induction l with
   | nil=>intro _; exact⟨rfl,rfl⟩
   | cons a l ih=>
    intro h;obtain⟨x,hx⟩:=h a (by simp);obtain⟨i1,i2⟩:=ih λb hb=>h b (by simp[hb]);refine⟨?_,?_⟩
    ·rw[List.filterMap_cons,hx]; simp only[Option.map_some,List.map_cons]; rw[i1]
    ·rw[List.filterMap_cons,hx]; simp only[Option.map_some,List.map_cons,List.filterMap_cons,hx]; rw[i2]
  have memL:∀r:Rw α,r∈(live.filterMap λa=>(es[a.2]?).map λx=>(a.1,x))->∃n,pos[n]? = some r.1/\es[n]? = some r.2:=λr hr=>by
   obtain⟨a,ha,e⟩:=List.mem_filterMap.mp hr;obtain⟨x,hx,rfl⟩:=Option.map_eq_some_iff.mp e;exact⟨a.2,(mem a.1 a.2).mp ha,hx⟩
  have occ:∀j,j∈pos->∃r'∈(live.filterMap λa=>(es[a.2]?).map λx=>(a.1,x)),r'.1=j:=λj hj=>by
   obtain⟨n,hn',e⟩:=List.mem_iff_getElem.mp hj;have hlv:(j,n)∈live:=(mem j n).mpr (by rw[List.getElem?_eq_getElem hn',e]);obtain⟨x,hx⟩:=has _ hlv;exact⟨(j,x),List.mem_filterMap.mpr ⟨(j,n),hlv,by rw[show es[(j,n).2]? = some x from hx]; rfl⟩,rfl⟩
  refine⟨by rw[(e1 live has).1],?_,?_,λr hr =>?_,rfl,⟨k,hk,hm⟩,λr hr =>?_⟩
  ·rw[(e1 live has).2];apply Array.ext';simp
  ·have:((live.filterMap λa=>(es[a.2]?).map λx=>(a.1,x)).map (·.1)).Pairwise (· < ·):=by
    rw[(e1 live has).1,List.pairwise_map];exact sorted
   rw[List.pairwise_map] at this;exact this
  ·obtain⟨n,h1,_⟩:=memL r hr;exact o.le r.1 (List.mem_of_getElem? h1)
  ·obtain⟨n,h1,h2⟩:=memL r hr;exact(o.reach n r.2.1 r.1 (by simp[h2]) h1).mono λa ha=>occ a ha
end Tab
namespace Tab
open PySem PySem.SetTable PyProof.Rows
section
variable {prog:Program}{w:World}{A:Around}{E:Value->Shared->Prop}{s:Shared}
abbrev TK (prog:Program)(w:World)(h:Heap)(k:List Int)(a:Addr):Prop:=IsTupleKey (intKind prog w) h k a
def zbo {n:Nat}{v:Value}(h:carriedByValue v=true):ofAClassStatement n v=pure false:=by
 cases v with
 | ref a=>simp[carriedByValue] at h
 | _=>first | rfl | (unfold ofAClassStatement; rfl) | (cases n <;> rfl)
def z3G {ks:List Int}{a:Addr}{Q:Bool->Shared->Prop}(hk:TK prog w s.heap ks a)(h:Q false s):wpAny (model prog w) A (ofAClassStatement 8 (.ref a)) Q E s:=by
 have hT:=hk.typeIs;obtain⟨o,items,n,ho,_,hd,hi⟩:=hk;unfold ofAClassStatement;refine wpAny_bind (wpAny_typeOf hT ?_);dsimp only;rw[if_pos (by decide)];refine wpAny_bind (wpAny_pure ?_);simp only[Bool.not_true,Bool.false_eq_true,if_false];refine wpAny_bind (wpAny_seqItems ho hd ?_);refine wpAny_bind ?_;show wpAny _ _ (forIn items _ _) _ _ s;rw[<- Array.forIn_toList];refine wpAny_forIn_list _ (λrest r s'=>r.1=none/\s'=s/\∀v∈rest,carriedByValue v=true) _ ?_ ?_ _ _ ⟨rfl,rfl,hi.byValue⟩
 ·rintro v rest r s' ⟨hr,rfl,hall⟩;rw[zbo (hall v List.mem_cons_self)];refine wpAny_bind (wpAny_pure ?_);simp only[Bool.false_eq_true,if_false];exact wpAny_pure ⟨rfl,rfl,λu hu'=>hall u (List.mem_cons_of_mem _ hu')⟩
 ·rintro⟨r1,r2⟩ s' ⟨hr,rfl,_⟩;simp only at hr;subst hr;exact wpAny_pure h
def zcW {n:Nat}{k:Int}{v:Value}(h:(intKind prog w).is k v=true):hashByValue n v=pure true:=by
 obtain⟨t,rfl⟩:=Value.isInt_shape h
 cases n <;> rfl
def z6j {ks:List Int}{a:Addr}{Q:Bool->Shared->Prop}(hk:TK prog w s.heap ks a)(h:Q true s):wpAny (model prog w) A (hashByValue 8 (.ref a)) Q E s:=by
 have hT:=hk.typeIs;obtain⟨o,items,n,ho,_,hd,hi⟩:=hk;unfold hashByValue;refine wpAny_bind (wpAny_specialOf hT F.slot_tuple_hash.lookup ?_);dsimp only;refine wpAny_bind (wpAny_seqItems ho hd ?_);refine wpAny_bind ?_;show wpAny _ _ (forIn items _ _) _ _ s;rw[<- Array.forIn_toList];refine wpAny_forIn_list _ (λrest r s'=>r.1=none/\s'=s/\∃l,ItemsAre (intKind prog w) l rest) _ ?_ ?_ _ _ ⟨rfl,rfl,ks,hi⟩
 ·rintro v rest r s' ⟨hr,rfl,l,hl⟩
  cases hl with
  | cons h1 h2=>
   rw[zcW h1];refine wpAny_bind (wpAny_pure ?_);simp only[Bool.not_true,Bool.false_eq_true,if_false];exact wpAny_pure ⟨rfl,rfl,_,h2⟩
 ·rintro⟨r1,r2⟩ s' ⟨hr,rfl,_⟩;simp only at hr;subst hr;exact wpAny_pure h
def zcw {ks:List Int}{a:Addr}{stored:List Value}{Q:Bool->Shared->Prop}(hk:TK prog w s.heap ks a)(hst:∀y∈stored,∃b k,y = .ref b/\TK prog w s.heap k b)(h:Q false s):wpAny (model prog w) A (searchCouldBeSeen (.ref a) stored) Q E s:=by
 unfold searchCouldBeSeen;refine wpAny_bind ?_;refine wpAny_forIn_list _ (λrest r s'=>r.1=none/\s'=s/\∀y∈rest,∃b k,y = .ref b/\TK prog w s.heap k b) _ ?_ ?_ _ _ ⟨rfl,rfl,hst⟩
 ·rintro y rest r s' ⟨hr,rfl,hall⟩;obtain⟨b,k,rfl,hb⟩:=hall y List.mem_cons_self;dsimp only
  split
  ·exact wpAny_pure ⟨rfl,rfl,λu hu=>hall u (List.mem_cons_of_mem _ hu)⟩
  ·refine wpAny_bind (wpAny_eqIsQuiet_tuple hk ?_);simp only[Bool.not_true,Bool.false_eq_true,if_false];refine wpAny_bind (wpAny_eqIsQuiet_tuple hb ?_);simp only[Bool.not_true,Bool.false_eq_true,if_false];refine wpAny_bind (z3G hk ?_);simp only[Bool.false_eq_true,if_false];refine wpAny_bind (z3G hb ?_);simp only[Bool.false_eq_true,if_false];exact wpAny_pure ⟨rfl,rfl,λu hu=>hall u (List.mem_cons_of_mem _ hu)⟩
 ·rintro⟨r1,r2⟩ s' ⟨hr,rfl,_⟩;simp only at hr;subst hr;exact wpAny_pure h
structure zaZ (prog:Program)(w:World)(h:Heap)(a:Addr)(L:List (Rw Value))(o:Obj)(es:Array (Int × Value))(ep:Nat)(t:SetTable):Prop where
 get:h.get? a=some o
 ex:o.ExactSet
 data:o.data = .set es ep t
 tab:TabW t es L
 room:L.length<=t.mask
 small:t.mask<=8191
 plain:t.plain=true
 led:t.led = !w.params.followText "set-order"
 key:∀r∈L,∃b k,r.2.2 = .ref b/\TK prog w h k b/\r.2.1=tupleKeyHash (intKind prog w) k
def zaZ.fits {h:Heap}{a:Addr}{L:List (Rw Value)}{o:Obj}{es:Array (Int × Value)}{ep:Nat}{t:SetTable}(x:zaZ prog w h a L o es ep t):t.fits es.size=true:=by
 unfold SetTable.fits;rw[x.tab.size.1,x.tab.size.2.1,x.tab.size.2.2];simp[x.room]
def zaZ.odd {h:Heap}{a:Addr}{L:List (Rw Value)}{o:Obj}{es:Array (Int × Value)}{ep:Nat}{t:SetTable}(x:zaZ prog w h a L o es ep t):t.gaveWay=false:=by
 unfold SetTable.gaveWay;obtain⟨k,hk,e⟩:=x.tab.pow;have:2 ^ k=2*2 ^ (k - 1):=by rw[<- Nat.pow_succ']; congr 1; lia
 have h1:t.mask % 2=1:=by lia
 rw[h1]
 rfl
def zgM {t:SetTable}{es:Array (Int × Value)}{L:List (Rw Value)}(w:TabW t es L){i j:Nat}(h:t.place[i]? = some j):∃r,L[i]? = some r/\r.1=j/\es[i]? = some r.2:=by
 have h':(L.map (·.1))[i]? = some j:=by rw[w.place] at h; simpa using h
 rw[List.getElem?_map] at h';obtain⟨r,hr,e⟩:=Option.map_eq_some_iff.mp h';refine⟨r,hr,e,?_⟩;rw[w.es];simp[hr]
def za4 {a b:Addr}{kx:List Int}{L:List (Rw Value)}{o:Obj}{es:Array (Int × Value)}{ep:Nat}{t:SetTable}(x:zaZ prog w s.heap a L o es ep t)(hu:A.units<cLine)(hk:TK prog w s.heap kx b){N:Nat}
  (hN:¬ ∃r∈L,r.1=(advs t.mask (st0 t.mask (tupleKeyHash (intKind prog w) kx)) N).j) {Q:SetFound->Shared->Prop}
  (hthere:(∃r∈L,∃c,r.2.2 = .ref c/\TK prog w s.heap kx c)->Q (.there none) s)
  (hfree:∀n,(∀m,m<n->∃r∈L,r.1=(advs t.mask (st0 t.mask (tupleKeyHash (intKind prog w) kx)) m).j/\∀c,r.2.2 = .ref c->¬ TK prog w s.heap kx c)->(¬ ∃r∈L,r.1=(advs t.mask (st0 t.mask (tupleKeyHash (intKind prog w) kx)) n).j)->Q (.free (advs t.mask (st0 t.mask (tupleKeyHash (intKind prog w) kx)) n).j false) s):
  ∀(fuel n:Nat) (stand:Option Probe),stand.getD (t.probeStart (tupleKeyHash (intKind prog w) kx))=advs t.mask (st0 t.mask (tupleKeyHash (intKind prog w) kx)) n->N<fuel+n->
   (∀m,m<n->∃r∈L,r.1=(advs t.mask (st0 t.mask (tupleKeyHash (intKind prog w) kx)) m).j/\∀c,r.2.2 = .ref c->¬ TK prog w s.heap kx c)->
   wpAny (model prog w) A (setSearchFrom a (.ref b) (tupleKeyHash (intKind prog w) kx) true fuel stand) Q E s:=by
 intro fuel
 induction fuel with
 | zero=>
  intro n stand hs hl hocc;obtain⟨r,hr,e,_⟩:=hocc N (by lia);exact absurd ⟨r,hr,e⟩ hN
 | succ fuel ih=>
  intro n stand hs hl hocc;generalize hh:tupleKeyHash (intKind prog w) kx=hx at*;unfold setSearchFrom;refine wpAny_bind (wpAny_setState_of x.get x.data x.fits ?_);dsimp only;rw[x.odd];simp only[Bool.false_eq_true,if_false]
  try refine wpAny_bind (wpAny_pure ?_)
  rw[hs];obtain⟨f,hf⟩:∃f:Nat->Int,f=λi=>(es[i]?.map (·.1)).getD 0:=⟨_,rfl⟩
  show wpAny (model prog w) A (match t.probe (λi=>(es[i]?.map (·.1)).getD 0) hx (advs t.mask (st0 t.mask hx) n) with
   | some met=>_
   | _=>_) Q E s
  rw[<- hf];have other:∀r∈L,r.2.1≠hx->∀c,r.2.2 = .ref c->¬ TK prog w s.heap kx c:=λr hr hne c e z=>by
   obtain⟨b',k,e',hk',eh⟩:=x.key r hr;rw[e'] at e
   cases e
   rw[hk'.inj z] at eh;exact hne (eh.trans hh)
  obtain⟨d,h1,h2⟩:=x.tab.probe x.room f hx n;have grown:∀m,m<n+d->∃r∈L,r.1=(advs t.mask (st0 t.mask hx) m).j/\∀c,r.2.2 = .ref c->¬ TK prog w s.heap kx c:=λm hm=>by
   rcases Nat.lt_or_ge m n with z | z
   ·exact hocc m z
   ·obtain⟨i,hi,hne⟩:=h1 m z hm;obtain⟨r,hr,e1,e2⟩:=zgM x.tab hi;have hrL:r∈L:=List.mem_of_getElem? hr;refine⟨r,hrL,e1,other r hrL ?_⟩;rw[hf] at hne;simpa[e2] using hne
  rcases h2 with ⟨hemp,e⟩ | ⟨i,hi,hhash,e⟩
  ·rw[e];dsimp only;exact wpAny_pure (hfree (n+d) grown λ⟨r,hr,e'⟩=>by
    obtain⟨i,hi⟩:=x.tab.occ.mpr ⟨r,hr,e'⟩;exact hemp i hi)
  ·rw[e];dsimp only;obtain⟨r,hr,e1,e2⟩:=zgM x.tab hi;have hrL:r∈L:=List.mem_of_getElem? hr;obtain⟨c,k,ec,hc,ehash⟩:=x.key r hrL;have rest:wpAny (model prog w) A (match es[i]? with
             | some (_,y)=>do
              let equal <- holding [y] (eqBool y (Value.ref b))
              let __x <- setState a
              if (true && equal)=true then pure (SetFound.there none)
               else
                match __x.2.snd.sameMemory t.moves t.mask with
                | some same=>
                 match if same=true then __x.2.snd.slot (advs t.mask (st0 t.mask hx) (n+d)).j else Slot.empty with
                 | Slot.live i'=>
                  match __x.fst[i']? with
                  | some (_,y')=>do
                   let __do_lift <- isSame y' y
                   let still <- pure (if __do_lift=true then some i' else none)
                   match still with
                    | none=>do
                     rule "set.search.anew"
                     setSearchFrom a (Value.ref b) hx true fuel none
                    | some i'=>if equal=true then pure (SetFound.there (some i')) else setSearchFrom a (Value.ref b) hx true fuel (some (advs t.mask (st0 t.mask hx) (n+d+1)))
                  | none=>do
                   let still <- pure none
                   match still with
                    | none=>do
                     rule "set.search.anew"
                     setSearchFrom a (Value.ref b) hx true fuel none
                    | some i'=>if equal=true then pure (SetFound.there (some i')) else setSearchFrom a (Value.ref b) hx true fuel (some (advs t.mask (st0 t.mask hx) (n+d+1)))
                 | _=>do
                  let still <- pure none
                  match still with
                   | none=>do
                    rule "set.search.anew"
                    setSearchFrom a (Value.ref b) hx true fuel none
                   | some i'=>if equal=true then pure (SetFound.there (some i')) else setSearchFrom a (Value.ref b) hx true fuel (some (advs t.mask (st0 t.mask hx) (n+d+1)))
                | _=>unsupported "set.changed-during-lookup:is-the-new-block-at-the-old-address"
             | _=>unsupported "internal:set-entry") Q E s:=by
    rw[e2, <- Prod.eta r.2];dsimp only;rw[ec];refine wpAny_bind (wpAny_holding (wpAny_eqBool_tuple hu hc hk ?_));refine wpAny_bind (wpAny_setState_of x.get x.data x.fits ?_);dsimp only
    by_cases hkk:k=kx
    ·rw[decide_eq_true hkk];simp only[Bool.and_self,if_true];exact wpAny_pure (hthere ⟨r,hrL,c,ec,hkk ▸ hc⟩)
    ·rw[decide_eq_false hkk];simp only[Bool.and_false,Bool.false_eq_true,if_false];have hsm:t.sameMemory t.moves t.mask=some true:=by unfold SetTable.sameMemory; simp
     rw[hsm];dsimp only;rw[if_pos rfl,zab x.tab.riseP hi];dsimp only;rw[e2, <- Prod.eta r.2];dsimp only;rw[ec];refine wpAny_bind (wpAny_isSame_ref_self ?_);refine wpAny_bind (wpAny_pure ?_);simp only[if_true];refine ih (n+d+1) _ rfl (by lia) λm hm =>?_
     rcases Nat.lt_or_ge m (n+d) with z | z
     ·exact grown m z
     ·have:m=n+d:=by lia
      subst this;exact⟨r,hrL,e1,λc' e' z=>by
       rw[ec] at e'
       cases e'
       exact hkk (hc.inj z)⟩
   by_cases hled:t.led=true
   ·rw[hled];simp only[Bool.not_true,Bool.false_eq_true,if_false];exact rest
   ·have hled':t.led=false:=by simpa using hled
    rw[hled'];simp only[Bool.not_false,if_true];refine wpAny_bind (zcw hk (λy hy =>?_) ?_)
    ·obtain⟨p,hp,rfl⟩:=List.mem_map.mp hy;have hp':p∈es:=by
      have:=Array.mem_toList_iff.mp hp;exact(Array.mem_filter.mp this).1
     have hp2:p∈L.map (·.2):=by rw[x.tab.es] at hp'; simpa using hp'
     obtain⟨r',hr',rfl⟩:=List.mem_map.mp hp2;obtain⟨b',k',e',hk',_⟩:=x.key r' hr';exact⟨b',k',e',hk'⟩
    ·simp only[Bool.false_eq_true,if_false];exact rest
end
def z7b (n:Nat):∀(fuel j:Nat),n<2 ^ (j+fuel)->∃k,sizeAbove.go n fuel (2 ^ j)=2 ^ k/\j<=k/\n<2 ^ k/\(k=j\/2 ^ k<=2*n)
 | 0,j,h=>⟨j,rfl,Nat.le_refl _,h,.inl rfl⟩
 | fuel+1,j,h=>by
  rw[sizeAbove.go]
  by_cases hl:2 ^ j<=n
  ·rw[if_pos hl, <- Nat.pow_succ];obtain⟨k,h1,h2,h3,h4⟩:=z7b n fuel (j+1) (by rw[show j+1+fuel=j+(fuel+1) by lia]; exact h);refine⟨k,h1,by lia,h3,.inr ?_⟩
   rcases h4 with h4 | h4
   ·subst h4; rw[Nat.pow_succ]; lia
   ·exact h4
  ·rw[if_neg hl];exact⟨j,rfl,Nat.le_refl _,by lia,.inl rfl⟩
def z8x {n:Nat}(h:n<2 ^ 60):∃k,sizeAbove n=2 ^ k/\3<=k/\n<2 ^ k/\(k=3\/2 ^ k<=2*n):=z7b n 64 3 (Nat.lt_of_lt_of_le h (by decide))
section
variable {prog:Program}{w:World}{A:Around}{E:Value->Shared->Prop}{s:Shared}
def TK.stay {h h':Heap}{k:List Int}{a b:Addr}{o:Obj}{es ep t}(x:TK prog w h k b)(ho:h.get? a=some o)(hd:o.data = .set es ep t)(hs:Heap.SameBut a h h'):TK prog w h' k b:=by
 obtain⟨o',items,n,ho',hc,hd',hi⟩:=x;have hne:b≠a:=by
  rintro rfl;obtain rfl:o'=o:=Option.some.inj (ho'.symm.trans ho);rw[hd] at hd'
  cases hd'
 exact⟨o',items,n,(hs.2 b hne).trans ho',hc,hd',hi⟩
structure zfd (prog:Program)(w:World)(h:Heap)(a:Addr)(L:List (Rw Value)):Prop where
 ex:∃o es ep t,zaZ prog w h a L o es ep t/\L.length*5<t.mask*3
def za8 {h:Heap}{a:Addr}{o:Obj}{es:Array (Int × Value)}{ep:Nat}{t:SetTable}(ho:h.get? a=some o)(hd:o.data = .set es ep t)(es':Array (Int × Value))(t':SetTable):
  (h.update a (Obj.putSet es' t')).get? a=some { o with data :=.set es' (ep+1) t' }:=by
 have:=Heap.get?_update_self (Obj.putSet es' t') ho (by rw[putSet_of es' t' hd]; rfl);rw[putSet_of es' t' hd] at this;exact this
def z7o {a b:Addr}{kx:List Int}{L:List (Rw Value)}(x:zfd prog w s.heap a L)(hu:A.units<cLine)(hk:TK prog w s.heap kx b)(hlen:L.length<2047){Q:Bool->Shared->Prop}
  (hthere:(∃r∈L,∃c,r.2.2 = .ref c/\TK prog w s.heap kx c)->∀tk,Q false { s with toks:=tk })
  (hnew:(¬ ∃r∈L,∃c,r.2.2 = .ref c/\TK prog w s.heap kx c)->∀h' tk L',Heap.SameBut a s.heap h'->zfd prog w h' a L'->(L'.map (·.2)).Perm ((tupleKeyHash (intKind prog w) kx,.ref b)::L.map (·.2))->Q true { s with heap:=h',toks:=tk }):
  wpAny (model prog w) A (setAdd a (.ref b)) Q E s:=by
 obtain⟨o,es,ep,t,y,hfull⟩:=x.ex;unfold setAdd;refine wpAny_holding (wpAny_bind (wpAny_pyHash_tuple hu hk ?_));generalize hs1:({ s with toks:=s.toks+(kx.length+1) }:Shared)=s1;have y1:zaZ prog w s1.heap a L o es ep t:=by rw[<- hs1]; exact y
 have hk1:TK prog w s1.heap kx b:=by rw[<- hs1]; exact hk
 unfold setAddHashed;refine wpAny_holding ?_;show wpAny _ _ (setAddHashedIn a (.ref b) _ (99999+1)) _ _ _;unfold setAddHashedIn;refine wpAny_bind (wpAny_setState_of y1.get y1.data y1.fits ?_);dsimp only;have hbs:byScan (Value.ref b) es=false:=by unfold byScan; simp[Value.scannable]
 rw[hbs];simp only[Bool.false_eq_true,if_false];obtain⟨N,hN,hNe⟩:=y1.tab.soon y1.room (tupleKeyHash (intKind prog w) kx);have hmask:t.mask<=8191:=y1.small;refine wpAny_bind ?_;unfold setSearch;refine za4 (s:=s1) y1 hu hk1 hNe ?_ ?_ 100000 0 none rfl (by unfold turns at hN; lia) (λm hm=>absurd hm (Nat.not_lt_zero _))
 ·intro hex;dsimp only;refine wpAny_pure ?_;rw[<- hs1] at hex ⊢;exact hthere hex _
 ·intro n hocc hemp;dsimp only;refine wpAny_bind (wpAny_setState_of y1.get y1.data y1.fits ?_);dsimp only;have habs:¬ ∃r∈L,∃c,r.2.2 = .ref c/\TK prog w s1.heap kx c:=by
   rintro⟨r,hr,c,ec,hc⟩;obtain⟨b',k',e',hk',eh⟩:=y1.key r hr;rw[ec] at e'
   cases e'
   have ek:=hk'.inj hc;subst ek;obtain⟨m,e1,e2⟩:=y1.tab.reach r hr;rw[eh] at e1 e2
   rcases Nat.lt_trichotomy m n with z | z | z
   ·obtain⟨r',hr',e3,e4⟩:=hocc m z;have:r'=r:=by
     have nd:=y1.tab.nodup;have e5:r'.1=r.1:=e3.trans e1;obtain⟨i,hi,ei⟩:=List.mem_iff_getElem.mp hr';obtain⟨j,hj,ej⟩:=List.mem_iff_getElem.mp hr;have hij:i=j:=by
      rcases Nat.lt_trichotomy i j with q | q | q
      ·have:=List.pairwise_iff_getElem.mp y1.tab.rise i j hi hj q;rw[ei,ej] at this; lia
      ·exact q
      ·have:=List.pairwise_iff_getElem.mp y1.tab.rise j i hj hi q;rw[ei,ej] at this; lia
     subst hij;exact ei.symm.trans ej
    subst this;exact e4 c ec hc
   ·subst z;exact hemp ⟨r,hr,e1.symm⟩
   ·obtain⟨r',hr',e3⟩:=e2 n z;exact hemp ⟨r',hr',e3⟩
  generalize hh:tupleKeyHash (intKind prog w) kx=hx at*;generalize hj:(advs t.mask (st0 t.mask hx) n).j=j at*;have hjl:j<=t.mask:=by rw[<- hj]; exact zdx t.mask hx n
  have tab2:TabW (t.put j).1 (insertAt es (t.put j).2 (hx,Value.ref b)) (ins L (t.put j).2 (j,hx,Value.ref b)):=by
   have:=y1.tab.put (x:=Value.ref b) (h:=hx) (n:=n) (λm hm=>by
    obtain⟨r,hr,e,_⟩:=hocc m hm;exact⟨r,hr,e⟩) (by rw[hj]; exact hemp) (by rw[hj]; exact hjl)
   rw[hj] at this;exact this
  have hlp:(ins L (t.put j).2 (j,hx,Value.ref b)).length=L.length+1:=by
   unfold ins;rw[List.length_append,List.length_cons,List.length_take,List.length_drop];lia
  have hmk:(t.put j).1.mask=t.mask:=rfl;have hpl:(t.put j).1.plain=true:=y1.plain;have hperm:((ins L (t.put j).2 (j,hx,Value.ref b)).map (·.2)).Perm ((hx,Value.ref b)::L.map (·.2)):=by
   unfold ins;rw[List.map_append,List.map_cons];refine List.perm_middle.trans ?_;refine List.Perm.cons _ ?_;rw[<- List.map_append,List.take_append_drop]
  generalize hT2:(t.put j).1=t2 at*;generalize hL2:ins L (t.put j).2 (j,hx,Value.ref b)=L2 at*;generalize hE2:insertAt es (t.put j).2 (hx,Value.ref b)=es2 at*;have hput:t.put j=(t2,(t.put j).2):=by rw[<- hT2]
  rw[hpl];simp only[if_true];refine wpAny_bind (z6j hk1 ?_);simp only[if_true];have hsz2:es2.size=L.length+1:=by rw[tab2.size.2.1,hlp]
  refine wpAny_bind (wpAny_storeSet_of y1.get y1.data ?_ (by rw[hsz2]; exact fits_of_scanBound (by unfold scanBound; lia)));have g2:=za8 y1.get y1.data es2 t2;have sb2:=Heap.SameBut.update s1.heap a (Obj.putSet es2 t2);have hled2:t2.led=t.led:=by rw[<- hT2]; rfl
  have key2:∀h',Heap.SameBut a s1.heap h'->∀r:Int × Value,r∈(hx,Value.ref b)::L.map (·.2)->∃b' k,r.2 = .ref b'/\TK prog w h' k b'/\r.1=tupleKeyHash (intKind prog w) k:=λh' sb r hr=>by
   rcases List.mem_cons.mp hr with rfl | hr
   ·exact⟨b,kx,rfl,hk1.stay y1.get y1.data sb,hh.symm⟩
   ·obtain⟨r',hr',rfl⟩:=List.mem_map.mp hr;obtain⟨b',k',e',hk',eh⟩:=y1.key r' hr';exact⟨b',k',e',hk'.stay y1.get y1.data sb,eh⟩
  have fin:∀h' L',Heap.SameBut a s1.heap h'->zfd prog w h' a L'->(L'.map (·.2)).Perm ((hx,.ref b)::L.map (·.2))->Q true { s1 with heap:=h' }:=λh' L' sb ok pm=>by
   rw[<- hs1] at sb habs ⊢;exact hnew habs h' _ L' sb ok pm
  have h7:7<=t.mask:=by
   obtain⟨k,hk3,e⟩:=y1.tab.pow;have:2 ^ 3<=2 ^ k:=Nat.pow_le_pow_right (by decide) hk3;lia
  have at2:zaZ prog w (s1.heap.update a (Obj.putSet es2 t2)) a L2 { o with data :=.set es2 (ep+1) t2 } es2 (ep+1) t2:=by
   refine⟨g2,y1.ex,rfl,tab2,?_,?_,hpl,?_,λr hr =>?_⟩
   ·rw[hlp,hmk]; lia
   ·rw[hmk]; exact hmask
   ·rw[hled2]; exact y1.led
   ·obtain⟨b',k',e',hk',eh⟩:=key2 _ sb2 r.2 (hperm.mem_iff.mp (List.mem_map.mpr ⟨r,hr,rfl⟩));exact⟨b',k',e',hk',eh⟩
  have hfill:t2.fill=L.length+1:=by rw[tab2.size.2.2,hlp]
  by_cases htf:t2.tooFull=true
  ·rw[htf];simp only[Bool.not_false,Bool.and_self,if_true];obtain⟨k,hk1',hk3,hk4,hk5⟩:=z8x (n:=SetTable.grown (es.size+1)) (by
    have:es.size=L.length:=y1.tab.size.2.1;unfold SetTable.grown;rw[this,if_neg (by lia)];exact Nat.lt_of_lt_of_le (show (L.length+1)*4<8192 by lia) (by decide))
   have hgr:SetTable.grown (es.size+1)=(L.length+1)*4:=by
    have:es.size=L.length:=y1.tab.size.2.1;unfold SetTable.grown;rw[this,if_neg (by lia)]
   have hk6:2 ^ k<=8192:=by
    rcases hk5 with z | z
    ·subst z; decide
    ·rw[hgr] at z
     rcases Nat.lt_or_ge k 14 with y | y
     ·exact Nat.pow_le_pow_right (by decide) (show k<=13 by lia)
     ·have:=Nat.pow_le_pow_right (show 0<2 by decide) y;have:(2:Nat) ^ 14=16384:=by decide
      lia
   have hmk1:2 ^ k - 1+1=2 ^ k:=Nat.sub_add_cancel (Nat.one_le_two_pow);obtain⟨t3,z2X,L3,hl,m1,m2,m3,m4,m5,m6,tab3,pm3⟩:=zis (es:=es2) (mask:=2 ^ k - 1) (finger:=t2.finger) (moves:=t2.movedTo (2 ^ k - 1)) (led:=t2.led) (plain:=t2.plain) hmk1 hk3 (by rw[hsz2,hmk1]; lia);unfold setRelay;refine wpAny_bind (wpAny_bind (wpAny_setState_of at2.get at2.data at2.fits ?_));dsimp only;rw[hk1'];rw[if_neg (show ¬ 2 ^ k > sizeLine by rw[sizeLine_eq]; lia)]
   try refine wpAny_bind (wpAny_pure ?_)
   have hrl:t2.relaid (es2.map (·.1)) (SetTable.grown (es.size+1))=some (t3,z2X):=by
    unfold SetTable.relaid;rw[hk1'];exact hl
   rw[hrl];refine wpAny_bind ?_;show wpAny _ _ (if (((z2X.filterMap (es2[·]?)).size != es2.size)=true) then _ else _) _ _ _;rw[if_neg (by rw[m6]; simp)];refine wpAny_pure ?_;dsimp only;generalize hE3:z2X.filterMap (es2[·]?)=es3 at*;have hsz3:es3.size=L.length+1:=by rw[m6,hsz2]
   have hl3:L3.length=L.length+1:=by rw[<- tab3.size.2.1,hsz3]
   refine wpAny_storeSet_of at2.get at2.data ?_ (by rw[hsz3]; exact fits_of_scanBound (by unfold scanBound; lia));have g3:=za8 at2.get at2.data es3 t3;have sb3:=sb2.trans (Heap.SameBut.update (s1.heap.update a (Obj.putSet es2 t2)) a (Obj.putSet es3 t3));have e3:es3.toList=L3.map (·.2):=by rw[tab3.es]
   have e2':es2.toList=L2.map (·.2):=by rw[tab2.es]
   have pm:(L3.map (·.2)).Perm ((hx,Value.ref b)::L.map (·.2)):=by
    rw[e3,e2'] at pm3;exact pm3.trans hperm
   refine wpAny_pure (fin _ L3 sb3 ⟨_,_,_,_,⟨g3,y1.ex,rfl,tab3,?_,?_,m5.trans hpl,?_,λr hr =>?_⟩,?_⟩ pm)
   ·rw[hl3,m1]; lia
   ·rw[m1]; lia
   ·rw[m4,hled2]; exact y1.led
   ·obtain⟨b',k',e',hk',eh⟩:=key2 _ sb3 r.2 (pm.mem_iff.mp (List.mem_map.mpr ⟨r,hr,rfl⟩));exact⟨b',k',e',hk',eh⟩
   ·rw[hl3,m1]; lia
  ·have htf':t2.tooFull=false:=by simpa using htf
   rw[htf'];simp only[Bool.and_false,Bool.false_eq_true,if_false];refine wpAny_pure (fin _ L2 sb2 ⟨_,_,_,_,at2,?_⟩ hperm);unfold SetTable.tooFull at htf';rw[hfill] at htf';rw[hlp];have:=of_decide_eq_false htf';lia
end
inductive Two {α β:Type}(R:α->β->Prop):List α->List β->Prop
 | nil:Two R [] []
 | cons {a b l m}:R a b->Two R l m->Two R (a::l) (b::m)
def Two.imp {α β:Type}{R R':α->β->Prop}(i:∀a b,R a b->R' a b){l:List α}{m:List β}(h:Two R l m):Two R' l m:=by
 induction h with
 | nil=>exact .nil
 | cons h _ ih=>exact .cons (i _ _ h) ih
def Two.perm {α β:Type}{R:α->β->Prop}{l l':List α}(p:l.Perm l'):∀{m:List β},Two R l m->∃m',m.Perm m'/\Two R l' m':=by
 induction p with
 | nil=>intro m h; exact⟨m,List.Perm.refl _,h⟩
 | cons x _ ih=>
  intro m h
  cases h with
  | cons h1 h2=>
   obtain⟨m',p',h'⟩:=ih h2;exact⟨_::m',p'.cons _,.cons h1 h'⟩
 | swap x y l=>
  intro m h
  cases h with
  | cons h1 h2=>
   cases h2 with
   | cons h3 h4=>exact⟨_,List.Perm.swap _ _ _,.cons h3 (.cons h1 h4)⟩
 | trans _ _ ih1 ih2=>
  intro m h;obtain⟨m',p',h'⟩:=ih1 h;obtain⟨m'',p'',h''⟩:=ih2 h';exact⟨m'',p'.trans p'',h''⟩
def Two.mem_left {α β:Type}{R:α->β->Prop}{l:List α}{m:List β}(h:Two R l m){a:α}(ha:a∈l):∃b∈m,R a b:=by
 induction h with
 | nil=>simp at ha
 | cons h _ ih=>
  rcases List.mem_cons.mp ha with rfl | ha
  ·exact⟨_,by simp,h⟩
  ·obtain⟨b,hb,r⟩:=ih ha;exact⟨b,by simp[hb],r⟩
def Two.mem_right {α β:Type}{R:α->β->Prop}{l:List α}{m:List β}(h:Two R l m){b:β}(hb:b∈m):∃a∈l,R a b:=by
 induction h with
 | nil=>simp at hb
 | cons h _ ih=>
  rcases List.mem_cons.mp hb with rfl | hb
  ·exact⟨_,by simp,h⟩
  ·obtain⟨a,ha,r⟩:=ih hb;exact⟨a,by simp[ha],r⟩
section
variable {prog:Program}{w:World}
def IsK (prog:Program)(w:World)(M:Value->Prop)(h:Heap)(v:Value)(k:List Int):Prop:=M v/\∃b,v = .ref b/\TK prog w h k b
structure SetK (prog:Program)(w:World)(M:Value->Prop)(h:Heap)(a:Addr)(kl:List (List Int)):Prop where
 ex:∃L,zfd prog w h a L/\Two (IsK prog w M h) (L.map (·.2.2)) kl
 nd:kl.Nodup
def SetK.len {M:Value->Prop}{h:Heap}{a:Addr}{kl:List (List Int)}(x:SetK prog w M h a kl):∃L,zfd prog w h a L/\Two (IsK prog w M h) (L.map (·.2.2)) kl/\L.length=kl.length:=by
 obtain⟨L,h1,h2⟩:=x.ex;refine⟨L,h1,h2,?_⟩;have:∀{l:List Value}{m:List (List Int)},Two (IsK prog w M h) l m->l.length=m.length:=by
  intro l m t
  induction t with
  | nil=>rfl
  | cons _ _ ih=>simp[ih]
 have:=this h2;simpa using this
def SetK.stay {M:Value->Prop}{h h':Heap}{a:Addr}{kl:List (List Int)}{wr:List Addr}(x:SetK prog w M h a kl)(k:∀b o,b ∉ wr->h.get? b=some o->h'.get? b=some o)(ha:a ∉ wr)(hw:∀b∈wr,∀ks,¬ TK prog w h ks b):SetK prog w M h' a kl:=by
 obtain⟨L,⟨o,es,ep,t,y,hf⟩,h2⟩:=x.ex;have tk:∀{ks:List Int}{b:Addr},TK prog w h ks b->TK prog w h' ks b:=λ{ks b} z=>by
  have hb:b ∉ wr:=λq=>hw b q ks z;obtain⟨o,it,n,e,r⟩:=z;exact⟨o,it,n,k _ _ hb e,r⟩
 refine⟨⟨L,⟨o,es,ep,t,⟨k _ _ ha y.get,y.ex,y.data,y.tab,y.room,y.small,y.plain,y.led,λr hr =>?_⟩,hf⟩,h2.imp λa b ⟨m,c,e,z⟩=>⟨m,c,e,tk z⟩⟩,x.nd⟩;obtain⟨b,ks,e,z,q⟩:=y.key r hr;exact⟨b,ks,e,tk z,q⟩
variable {A:Around}{R:Result->Shared->Prop}{I:Addr}{fp wr:List Addr}{G:Array GenState->Array GenState->Prop}{n:Nat}{P:Nat->Value->Prop}{St:Nat->Shared->Prop}
def zb3 {M:Value->Prop}(W:WalksS prog w A.in1 I fp wr G n P St)(S:Addr)(hSf:S ∉ fp)(hu:A.in1.units<cLine)(ks:Nat->List Int)(hn:n<=2040)(hw:∀i s,St i s->∀b∈wr,∀k,¬ TK prog w s.heap k b)(hM:∀j v,P j v->M v):
  ∀(k i:Nat) (s:Shared) (kl:List (List Int)),n - i=k->i<=n->St i s->(∀j v,P j v->∃b,v = .ref b/\TK prog w s.heap (ks j) b)->
   SetK prog w M s.heap S kl->kl.length<=i->(∀x,x∈kl↔∃j,j<i/\ks j=x)->
   (∀s' kl',Moved (S::wr) G s s'->SetK prog w M s'.heap S kl'->kl'.length<=n->(∀x,x∈kl'↔∃j,j<n/\ks j=x)->R (.ok (.ret .none)) s')->
   codeAny (model prog w) A (.builtin "set.update.loop" ⟨[.ref S,.ref I],[]⟩) R s:=by
 have hSw:S ∉ wr:=λh=>hSf (W.sub _ h);have hsub:∀b∈wr,b∈S::wr:=λb hb=>List.mem_cons_of_mem _ hb;intro k
 induction k with
 | zero=>
  intro i s kl hk hi hst hP hS hl hm hR;have hin:i=n:=by lia
  subst hin;refine codeAny_builtin F.entry_set_update_loop ?_;rw[Around.under_plainId F.plain_set_update_loop _];show wpAny _ A.in1 (pyNext (.ref I) >>= _) _ _ s;refine wpAny_bind (W.done s _ _ hst λs' hmv =>?_);show wpAny _ A.in1 (ret Value.none) _ _ s';exact wpAny_pure (hR s' kl (hmv.mono hsub) (hS.stay hmv.heap hSw (hw _ _ hst)) hl hm)
 | succ k ih=>
  intro i s kl hk hi hst hP hS hl hm hR;have hlt:i<n:=by lia
  refine codeAny_builtin F.entry_set_update_loop ?_;rw[Around.under_plainId F.plain_set_update_loop _];show wpAny _ A.in1 (pyNext (.ref I) >>= _) _ _ s;refine wpAny_bind (W.item i s _ _ hlt hst λv s' hPv hst' hmv =>?_);have hS':=hS.stay hmv.heap hSw (hw _ _ hst);have hP':∀j v,P j v->∃b,v = .ref b/\TK prog w s'.heap (ks j) b:=λj u hu'=>by
   obtain⟨b,e,z⟩:=hP j u hu';have hb:b ∉ wr:=λq=>hw _ _ hst b q _ z;obtain⟨o,it,m,e',r⟩:=z;exact⟨b,e,o,it,m,hmv.heap _ _ hb e',r⟩
  obtain⟨b,rfl,hkb⟩:=hP' i v hPv;show wpAny _ A.in1 (holding [Value.ref b] (setAdd S (.ref b)) >>= _) _ _ s';refine wpAny_bind (wpAny_holding ?_);obtain⟨L,hL,h2,hlen⟩:=hS'.len;have grow:∀(h':Heap) (tk:Nat),s'.toks<=tk->Heap.SameBut S s'.heap h'->St (i+1) { s' with heap:=h',toks:=tk }/\(∀j v,P j v->∃b,v = .ref b/\TK prog w h' (ks j) b)/\∀s'',Moved (S::wr) G { s' with heap:=h',toks:=tk } s''->Moved (S::wr) G s s'':=λh' tk htk hsb=>by
   obtain⟨o,es,ep,t,y,_⟩:=hL.ex;refine⟨W.frame _ s' _ _ hst' htk λc hc o' e =>?_,λj u hu' =>?_,λs'' hm'' =>?_⟩
   ·rw[hsb.2 c (λz:c=S=>hSf (by rw[<- z]; exact hc))]; exact e
   ·obtain⟨c,e,z⟩:=hP' j u hu';exact⟨c,e,z.stay y.get y.data hsb⟩
   ·refine Moved.trans W.gtrans ((hmv.mono hsub).then_heap htk λc o' hc e =>?_) hm'';rw[hsb.2 c (λz:c=S=>hc (by rw[z]; exact List.mem_cons_self))]; exact e
  refine wpAny_with_toks (Nat.le_refl s'.toks) ?_;refine z7o hL hu hkb (by lia) ?_ ?_
  ·intro hex tk htk;obtain⟨g1,g2,g3⟩:=grow s'.heap tk htk (Heap.SameBut.refl _ _);refine wpAny_pure ⟨plainId_quiet F.plain_set_update_loop _,ih (i+1) _ kl (by lia) hlt g1 g2 hS' (by lia) (λx =>?_) λs'' kl' hm''=>hR s'' kl' (g3 s'' hm'')⟩;rw[hm x]
   constructor
   ·rintro⟨j,hj,e⟩;exact⟨j,by lia,e⟩
   ·rintro⟨j,hj,e⟩
    rcases Nat.lt_or_ge j i with z | z
    ·exact⟨j,z,e⟩
    ·have:j=i:=by lia
     subst this;obtain⟨r,hr,c,ec,hc⟩:=hex;obtain⟨y,hy,_,c',ec',hc'⟩:=h2.mem_left (List.mem_map.mpr ⟨r,hr,rfl⟩);rw[ec] at ec'
     cases ec'
     have:=hc.inj hc';rw[<- e,this];exact(hm y).mp hy
  ·intro habs h' tk L' hsb hok pm htk;obtain⟨g1,g2,g3⟩:=grow h' tk htk hsb;obtain⟨o,es,ep,t,y,_⟩:=hL.ex;have t1:Two (IsK prog w M h') (Value.ref b::L.map (·.2.2)) (ks i::kl) :=.cons ⟨hM i _ hPv,b,rfl,hkb.stay y.get y.data hsb⟩ (h2.imp λa k ⟨m,c,e,z⟩=>⟨m,c,e,z.stay y.get y.data hsb⟩);have pm2:(Value.ref b::L.map (·.2.2)).Perm (L'.map (·.2.2)):=by
    have:=pm.symm.map (·.2);simpa[Function.comp_def] using this
   obtain⟨kl',p',t'⟩:=t1.perm pm2;have hnk:ks i ∉ kl:=λz=>by
    obtain⟨a',ha',_,c,e,z'⟩:=h2.mem_right z;obtain⟨r,hr,rfl⟩:=List.mem_map.mp ha';exact habs ⟨r,hr,c,e,z'⟩
   have nd':kl'.Nodup:=p'.nodup_iff.mp (List.nodup_cons.mpr ⟨hnk,hS.nd⟩);have hl':kl'.length=kl.length+1:=by rw[<- p'.length_eq]; rfl
   refine wpAny_pure ⟨plainId_quiet F.plain_set_update_loop _,ih (i+1) _ kl' (by lia) hlt g1 g2 ⟨⟨L',hok,t'⟩,nd'⟩ (by lia) (λx =>?_) λs'' kl'' hm''=>hR s'' kl'' (g3 s'' hm'')⟩;rw[<- p'.mem_iff,List.mem_cons,hm x]
   constructor
   ·rintro(e | ⟨j,hj,e⟩)
    ·exact⟨i,by lia,e.symm⟩
    ·exact⟨j,by lia,e⟩
   ·rintro⟨j,hj,e⟩
    rcases Nat.lt_or_ge j i with z | z
    ·exact .inr ⟨j,z,e⟩
    ·have:j=i:=by lia
     subst this;exact .inl e.symm
end
section
variable {prog:Program}{w:World}{A:Around}{E:Value->Shared->Prop}{s:Shared}
def z9h:isSubtype (.type "tuple") (.type "set")=pure false:=by rw[isSubtype_type]; kernel_rfl
def z60:isSubtype (.type "tuple") (.type "frozenset")=pure false:=by rw[isSubtype_type]; kernel_rfl
abbrev led0 (w:World):Bool := !w.params.followText "set-order"
def z9X (a:Value){Q₁:Value->Shared->Prop}
  (h:Q₁ (.ref s.heap.objs.size) { s with heap:=s.heap.push { cls :=.type "set",dict:=none,data :=.set #[] 0 (.fresh 0 0 (led0 w)) } }):
  codeAny (model prog w) A (.call (.builtin "set.__new__") ⟨[.type "set",a],[]⟩) (wants Q₁ E) s:=by
 refine codeAny_of_tree ?_;show wpAny _ A.in1 (do checkBuiltinCall "set.__new__" ⟨[.type "set",a],[]⟩; again (.builtin "set.__new__" ⟨[.type "set",a],[]⟩)) _ _ s;refine wpAny_bind (wpAny_of_eq (F.newCall_set_1 a) (wpAny_pure ⟨plainId_quiet F.plain_set_new _,codeAny_builtin F.entry_set_new ?_⟩));rw[Around.under_plainId F.plain_set_new _];unfold Builtin.«set.__new__» Builtin.Frozenset.newClass;have hsub:=sub_set_self;obtain⟨hp,g,d,tk,os⟩:=s;dsimp only
 wp_walk
 refine wpAny_askSetting (wpAny_pure ?_);dsimp only;simp only[newObj];refine wpAny_bind (wpAny_alloc (wpAny_pure ?_));exact wpAny_pure h
def zcC {M:Value->Prop}{h:Heap}{a:Addr}(e:h.get? a=some { cls :=.type "set",dict:=none,data :=.set #[] 0 (.fresh 0 0 (led0 w)) }):SetK prog w M h a []:=by
 refine⟨⟨[],⟨_, #[],0,_,⟨e,⟨rfl,rfl,rfl⟩,rfl,⟨rfl,rfl,.nil,(λr hr=>by simp at hr),rfl,⟨3,Nat.le_refl _,rfl⟩,(λr hr=>by simp at hr)⟩,(by show 0<=7; decide),(by show 7<=8191; decide),rfl,rfl,(λr hr=>by simp at hr)⟩,(by show 0*5<7*3; decide)⟩,.nil⟩,.nil⟩
def z8S {M:Value->Prop}{l:Addr}{items:Array Value}{ks:List (List Int)}{Q:Value->Shared->Prop}
  (hh:A.handled=none) (hu:A.units+8<cLine) (hl:s.heap.IsTuple l items) (hi:Two (IsK prog w M s.heap) items.toList ks) (hb:items.size<=2040)
  (h:∀(h':Heap) (tk:Nat) (kl:List (List Int)),SetK prog w M h' s.heap.objs.size kl->kl.length<=items.size->(∀x,x∈kl↔x∈ks)->
   (∀b o,b<s.heap.objs.size->s.heap.get? b=some o->h'.get? b=some o)->Q (.ref s.heap.objs.size) { s with heap:=h',toks:=tk }):
  wpAny (model prog w) A (call (.type "set") [.ref l]) Q E s:=by
 obtain⟨c,tl,hmro⟩:=F.called_set.mro;have hmade:=F.called_set.made;have hsub:=F.called_set.sub;refine wpAny_call (codeAny_of_tree ?_);show wpAny _ _ (callAny (.type "set") _) _ _ _;refine wpAny_pure ⟨Code.quiet_builtin _ (by decide +kernel),codeAny_builtin F.entry_type_call ?_⟩;rw[Around.under_plain (weight_type_call_type "set" [.ref l] []) rfl];have h1:=F.called_set.notType;have h2:=F.called_set.canCreate;have hct:=F.typeCall_set_1 (.ref l)
 repeat (any_goals (first | assumption | wp_step))
 refine codeAny_mono (z9X (.ref l) (E:=E) (Q₁:=λobj s₁=>obj = .ref s.heap.objs.size/\s₁={ s with heap:=s.heap.push { cls :=.type "set",dict:=none,data :=.set #[] 0 (.fresh 0 0 (led0 w)) } }) ⟨rfl,rfl⟩) λr s₁ hr =>?_
 cases r with
 | error e=>exact hr
 | ok fl=>
  cases fl with
  | ret obj=>
   obtain⟨rfl,rfl⟩:=hr;generalize hled:led0 w=led at*;have hS:(s.heap.push { cls :=.type "set",dict:=none,data :=.set #[] 0 (.fresh 0 0 led) }).get? s.heap.objs.size=some { cls :=.type "set",dict:=none,data :=.set #[] 0 (.fresh 0 0 led) }:=Heap.get?_push_size _ rfl;have hT:Shared.TypeIs { s with heap:=s.heap.push { cls :=.type "set",dict:=none,data :=.set #[] 0 (.fresh 0 0 led) } } (.ref s.heap.objs.size) "set":=⟨_,hS,rfl⟩
   have hli:=F.called_set.init.lookup;have hbi:=F.called_set.init.bind (.ref s.heap.objs.size)
   repeat (any_goals (first | assumption | wp_step))
   refine codeAny_mono (codeAny_call_builtin (R:=wants (λr s₂=>r = .none/\∃h' tk kl,s₂={ s with heap:=h',toks:=tk }/\SetK prog w M h' s.heap.objs.size kl/\kl.length<=items.size/\(∀x,x∈kl↔x∈ks)/\
     (∀b o,b<s.heap.objs.size->s.heap.get? b=some o->h'.get? b=some o)) E) F.called_set.init.plain F.entry_set_init (check_set_init_1 hT ?_)) λr₂ s₂ hr₂ =>?_
   ·obtain⟨ol,hol,hcl,nl,hdl⟩:=hl;obtain⟨ocls,odict,odata,oslots⟩:=ol;simp only at hcl hdl;subst hcl; subst hdl;have hol':(s.heap.push { cls :=.type "set",dict:=none,data :=.set #[] 0 (.fresh 0 0 led) }).get? l=some { cls :=.type "tuple",dict:=odict,data :=.seq items nl,slots:=oslots }:=Heap.get?_push_of_some _ hol;have hsls:=z9h;have hslf:=z60;have hne:(Value.type "tuple" == Value.type "dict")=false:=by decide
    have hl1:(s.heap.push { cls :=.type "set",dict:=none,data :=.set #[] 0 (.fresh 0 0 led) }).IsTuple l items:=⟨_,hol',rfl,nl,rfl⟩
    unfold Builtin.«set.__init__» noKeywords Builtin.Frozenset.updateFrom;generalize hPI:pyIter=PI
    wp_walk
    subst hPI;refine wpAny_pyIter_tuple hl1 ?_;refine wpAny_bind (wpAny_runValue ?_);have hlS:l<s.heap.objs.size:=Heap.lt_size hol;have hh3:A.in1.in1.in1.handled=none:=by simp[hh]
    have hneI:l≠(s.heap.push { cls :=.type "set",dict:=none,data :=.set #[] 0 (.fresh 0 0 led) }).objs.size:=by
     rw[Heap.size_push]; exact Nat.ne_of_lt (Nat.lt_succ_of_lt hlS)
    have hSf:s.heap.objs.size ∉ [(s.heap.push { cls :=.type "set",dict:=none,data :=.set #[] 0 (.fresh 0 0 led) }).objs.size,l]:=by
     rw[Heap.size_push]; simp only[List.mem_cons,List.mem_singleton,List.not_mem_nil,or_false,not_or];exact⟨Nat.ne_of_lt (Nat.lt_succ_self _),Nat.ne_of_gt hlS⟩
    have hkat:∀(i:Nat) (v:Value),items[i]? = some v->M v/\∃b,v = .ref b/\TK prog w s.heap (ks.getD i []) b:=λi v hv=>by
     have hv':items.toList[i]? = some v:=by simpa using hv
     generalize items.toList=il at hi hv';clear hv h
     induction hi generalizing i with
     | nil=>simp at hv'
     | cons h0 _ ih=>
      cases i with
      | zero=>
       simp at hv';subst hv';exact h0
      | succ i=>exact ih i (by simpa using hv')
    have hks:ks.length=items.size:=by
     have:∀{l:List Value}{m:List (List Int)},Two (IsK prog w M s.heap) l m->l.length=m.length:=by
      intro l m t
      induction t with
      | nil=>rfl
      | cons _ _ ih=>simp[ih]
     have:=this hi;simpa using this.symm
    refine zb3 ((Walks.tuple hh3 _ l hneI items).toS) s.heap.objs.size hSf (by simp; lia) (λi=>ks.getD i []) hb ?hw (λj v hv=>(hkat j v hv).1) (items.size - 0) 0 _ [] (by lia) (Nat.zero_le _)
     ⟨⟨_,Heap.get?_push_size _ rfl,rfl,rfl⟩,?hl2⟩ (λj v hv => ?hP) ?hS0 (Nat.zero_le _) (λx=>by simp) ?hR
    case hl2=>exact⟨_,Heap.get?_push_of_some _ hol',rfl,nl,rfl⟩
    case hw=>
     intro i s0 hst b hb' k z;rw[List.mem_singleton.mp hb'] at z;obtain⟨⟨o1,e1,c1,_⟩,_⟩:=hst;obtain⟨o2,_,_,e2,c2,_⟩:=z;rw[e1] at e2
     cases e2
     rw[c1] at c2
     injection c2 with c3
     exact absurd c3 (by decide)
    case hP=>
     obtain⟨_,b,e,o2,it,m,e2,r⟩:=hkat j v hv;exact⟨b,e,o2,it,m,Heap.get?_push_of_some _ (Heap.get?_push_of_some _ e2),r⟩
    case hS0=>
     refine zcC (h:=(s.heap.push { cls :=.type "set",dict:=none,data :=.set #[] 0 (.fresh 0 0 led) }).push { cls :=.type "tuple_iterator",data :=.fields #[.ref l,.int 0 0] }) ?_;rw[hled];exact Heap.get?_push_of_some _ hS
    case hR=>
     intro s' kl hm hS' hkl hmem;obtain⟨h',g',d',tk',os'⟩:=s';have eg:g'=s.gens:=hm.gens;have ed:d'=s.drawn:=hm.drawn;have eo:os'=s.os:=hm.os;subst eg; subst ed; subst eo;show wpAny _ _ _ _ _ _;refine wpAny_pure ?_;show wpAny _ _ (ret Value.none) _ _ _;refine wpAny_pure ⟨rfl,h',tk',kl,rfl,hS',hkl,λx =>?_,λb o hb e =>?_⟩
     ·rw[hmem x]
      constructor
      ·rintro⟨j,hj,e⟩;have hj':j<ks.length:=by rw[hks]; exact hj
       rw[<- e];show ks.getD j []∈ks;rw[List.getD_eq_getElem?_getD,List.getElem?_eq_getElem hj'];exact List.getElem_mem hj'
      ·intro hx;obtain⟨j,hj,e⟩:=List.mem_iff_getElem.mp hx;refine⟨j,by rw[<- hks]; exact hj,?_⟩;show ks.getD j []=x;rw[List.getD_eq_getElem?_getD,List.getElem?_eq_getElem hj];exact e
     ·have hb1:b≠s.heap.objs.size:=Nat.ne_of_lt hb;have hb2:b≠(s.heap.push { cls :=.type "set",dict:=none,data :=.set #[] 0 (.fresh 0 0 led) }).objs.size:=by
       rw[Heap.size_push]; exact Nat.ne_of_lt (Nat.lt_succ_of_lt hb)
      exact hm.heap b o (by simp only[List.mem_cons,List.mem_singleton,List.not_mem_nil,or_false,not_or]; exact⟨hb1,hb2⟩) (Heap.get?_push_of_some _ (Heap.get?_push_of_some _ e))
   ·cases r₂ with
    | error e=>exact hr₂
    | ok fl₂=>
     cases fl₂ with
     | ret r=>
      obtain⟨rfl,h',tk,kl,rfl,hS',hk1,hk2,hk'⟩:=hr₂
      repeat (any_goals (first | assumption | wp_step))
      exact h _ _ _ hS' hk1 hk2 hk'
     | _=>exact hr₂.elim
  | _=>exact hr.elim
end
end Tab
namespace Tim
open PySem PyProof.Rows
section
variable {M:Model}{A:Around}{E:Value->Shared->Prop}{s:Shared}{rk:Keyed->Nat}{κ:SortKind}{a₀:Array Keyed}
def Asks (M:Model)(A:Around)(s:Shared)(κ:SortKind)(a₀:Array Keyed)(rk:Keyed->Nat):Prop:=
 ∀x y,x∈a₀.toList->y∈a₀.toList->∀(Q:Bool->Shared->Prop) (E:Value->Shared->Prop),Q (decide (rk x<rk y)) s->wpAny M A (keyLt' κ x.1 y.1) Q E s
structure TB (κ:SortKind)(a₀:Array Keyed)(st:SortSt):Prop where
 kind:kindOf st=κ
 failed:failedOf st=none
 perm:(arrOf st).Perm a₀
def zid {α:Type}{H P:α->Prop}{G:Prop}(p:∀x,H x->P x)(u:(∀x,H x->P x)->G):G:=u p
def ziP (hL:Asks M A s κ a₀ rk){st:SortSt}{x y:Keyed}{Q:Option Bool->SortSt->Prop}(hk:kindOf st=κ)(hx:x∈a₀.toList)(hy:y∈a₀.toList)(h:Q (some (decide (rk x<rk y))) st):
  wpS M A E s (lt' x y) Q st:=by
 rw[lt'_eq];refine wpS_bind (wpS_get ?_);rw[hk];refine wpS_bind (wpS_lift (wpAny_attempt (hL x y hx hy _ _ ⟨rfl,?_⟩)));exact wpS_pure h
def zbI {st:SortSt}{arr:Array Keyed}{i:Nat}{p:Keyed}{Q:Keyed->SortSt->Prop}(e:arr[i]? = some p)(h:Q p st):wpS M A E s (elem' arr i) Q st:=by
 rw[elem'_eq,e];exact wpS_pure h
def TB.size {st:SortSt}(h:TB κ a₀ st):(arrOf st).size=a₀.size:=h.perm.size_eq
def TB.mem {st:SortSt}(h:TB κ a₀ st){p:Keyed}(hp:p∈(arrOf st).toList):p∈a₀.toList:=(Array.perm_iff_toList_perm.mp h.perm).mem_iff.mp hp
def Rk (rk:Keyed->Nat)(xs:Array Keyed)(i:Nat):Nat:=match xs[i]? with
 | some p=>rk p
 | none=>0
def za2 {xs:Array Keyed}{i:Nat}{p:Keyed}(h:xs[i]? = some p):Rk rk xs i=rk p:=by unfold Rk; rw[h]
def z6R {xs ys:Array Keyed}{i j:Nat}(h:xs[i]? = ys[j]?):Rk rk xs i=Rk rk ys j:=by unfold Rk; rw[h]
def zf9 {xs:Array Keyed}{i:Nat}(h:i<xs.size):∃p,xs[i]? = some p/\p∈xs.toList:=⟨xs[i],getElem?_pos xs i h,by simp⟩
def TB.setArr {st:SortSt}(h:TB κ a₀ st){xs:Array Keyed}(hp:xs.Perm (arrOf st)):TB κ a₀ (setArr st xs):=⟨h.kind,h.failed,hp.trans h.perm⟩
def z6T (hL:Asks M A s κ a₀ rk){st:SortSt}{i j:Nat}{Q:Option Bool->SortSt->Prop}(hB:TB κ a₀ st)(hi:i<a₀.size)(hj:j<a₀.size)
  (h:Q (some (decide (Rk rk (arrOf st) i<Rk rk (arrOf st) j))) st):wpS M A E s (ltAt' i j) Q st:=by
 obtain⟨p,e1,m1⟩:=zf9 (xs:=arrOf st) (i:=i) (by rw[hB.size]; exact hi);obtain⟨q,e2,m2⟩:=zf9 (xs:=arrOf st) (i:=j) (by rw[hB.size]; exact hj);rw[za2 e1,za2 e2] at h;rw[ltAt'_eq];refine wpS_bind (wpS_get ?_);exact wpS_bind (zbI e1 (wpS_bind (zbI e2 (ziP hL hB.kind (hB.mem m1) (hB.mem m2) h))))
def z3E {σ α:Type}{c:Prop}[Decidable c]{x y:StateT σ Sem α}{Q:α->σ->Prop}{st:σ}(h:c)(k:wpS M A E s x Q st):wpS M A E s (if c then x else y) Q st:=by
 rw[if_pos h];exact k
def z3F {σ α:Type}{c:Prop}[Decidable c]{x y:StateT σ Sem α}{Q:α->σ->Prop}{st:σ}(h:¬ c)(k:wpS M A E s y Q st):wpS M A E s (if c then x else y) Q st:=by
 rw[if_neg h];exact k
end
section
variable {t1 t2 t3 t4 t5 t6 t7 C S:Type}{c:C}{s:S}{G:C->S->Prop}
def elc0 {C:Type}{c F:C}{P:Prop}{G:C->Prop}(h:c=F/\P)(k:P->G F):G c:=by
 obtain⟨rfl,p⟩:=h;exact k p
def elc1 {t1 C:Type}{c:C}{F:t1->C}{P:t1->Prop}{G:C->Prop}(h:∃a,c=F a/\P a)(k:∀a,P a->G (F a)):G c:=by
 obtain⟨a,rfl,p⟩:=h;exact k a p
end
section
variable {M:Model}{A:Around}{E:Value->Shared->Prop}{s:Shared}{rk:Keyed->Nat}{κ:SortKind}{a₀:Array Keyed}
def Seg (rk:Keyed->Nat)(xs:Array Keyed)(i j:Nat):Prop:=∀p q,i<=p->p<=q->q<j->Rk rk xs p<=Rk rk xs q
def Gec (rk:Keyed->Nat)(xs:Array Keyed)(i j:Nat):Prop:=∀p q,i<=p->p<=q->q<j->Rk rk xs q<=Rk rk xs p
def Low (xs ys:Array Keyed)(lo:Nat):Prop:=∀k,k<lo->xs[k]? = ys[k]?
def Seg.one {xs:Array Keyed}{i j:Nat}(h:j<=i+1):Seg rk xs i j:=λp q a1 a2 a3=>by
 obtain rfl:p=q:=by lia
 exact Nat.le_refl _
def Low.refl {xs:Array Keyed}{lo:Nat}:Low xs xs lo:=λ_ _=>rfl
def Low.trans {xs ys zs:Array Keyed}{lo:Nat}(h:Low xs ys lo)(k:Low ys zs lo):Low xs zs lo:=λi hi=>(h i hi).trans (k i hi)
def z8u {xs:Array Keyed}{i j:Nat}(hj:j<=xs.size)(k:Nat):
  Rk rk (mirror xs i j ((j - i) / 2)) k=if i<=k/\k<j then Rk rk xs (i+j - 1 - k) else Rk rk xs k:=by
 have e:=getElem?_mirror_all (i:=i) hj k
 by_cases h1:i<=k/\k<j
 ·rw[if_pos h1] at e ⊢; exact z6R e
 ·rw[if_neg h1] at e ⊢; exact z6R e
def z22 {xs:Array Keyed}{i j:Nat}(hj:j<=xs.size)(heq:∀k,i<=k->k<j->Rk rk xs k=Rk rk xs (j - 1))(k:Nat):
  Rk rk (mirror xs i j ((j - i) / 2)) k=Rk rk xs k:=by
 rw[z8u hj]
 split
 ·rw[heq _ (by lia) (by lia),heq k (by lia) (by lia)]
 ·rfl
def z5C {xs:Array Keyed}{i j lo:Nat}(hj:j<=xs.size)(hi:lo<=i):Low (mirror xs i j ((j - i) / 2)) xs lo:=λk hk=>by
 rw[getElem?_mirror_all hj k,if_neg (by lia)]
def zb0 {xs:Array Keyed}{src d:Nat}(hs:src<xs.size)(hd:d<=src)(k:Nat):
  Rk rk (bubble xs src d) k=if k=src - d then Rk rk xs src else if src - d<k/\k<=src then Rk rk xs (k - 1) else Rk rk xs k:=by
 have e:=getElem?_bubble hs d hd k
 by_cases h1:k=src - d
 ·rw[if_pos h1] at e ⊢; exact z6R e
 ·rw[if_neg h1] at e ⊢
  by_cases h2:src - d<k/\k<=src
  ·rw[if_pos h2] at e ⊢; exact z6R e
  ·rw[if_neg h2] at e ⊢; exact z6R e
def zdf {xs:Array Keyed}{src d lo:Nat}(hs:src<xs.size)(hd:d<=src)(hl:lo<=src - d):Low (bubble xs src d) xs lo:=λk hk=>by
 rw[getElem?_bubble hs d hd k,if_neg (by lia),if_neg (by lia)]
def z3Y {st:SortSt}{i j:Nat}{Q:Unit->SortSt->Prop}(h:Q () (setArr st (mirror (arrOf st) i j ((j - i) / 2)))):
  wpS M A E s (reverseSlice' i j) Q st:=by
 rw[reverseSlice'_eq]; exact wpS_modify h
def zdg {st:SortSt}{lo a nrem:Nat}{Q:Option Nat->SortSt->Prop}{f:Nat->Option (Option Nat) × Nat->StateT SortSt Sem (ForInStep (Option (Option Nat) × Nat))}{k:Option (Option Nat) × Nat->StateT SortSt Sem (Option Nat)}
  (ha:1<=a) (han:a<=nrem) (hs:Seg rk (arrOf st) lo (lo+a))
  (hf:∀x n (R:ForInStep (Option (Option Nat) × Nat)->SortSt->Prop),1<=n->n<nrem->(Rk rk (arrOf st) (lo+n)<Rk rk (arrOf st) (lo+n - 1)->R (.done (none,n)) st)->(Rk rk (arrOf st) (lo+n - 1)<=Rk rk (arrOf st) (lo+n)->R (.yield (none,n+1)) st)->wpS M A E s (f x (none,n)) R st)
  (hk:∀n,a<=n->n<=nrem->Seg rk (arrOf st) lo (lo+n)->(n=nrem\/Rk rk (arrOf st) (lo+n)<Rk rk (arrOf st) (lo+n - 1))->wpS M A E s (k (none,n)) Q st):
  wpS M A E s (forIn [a:nrem] ((none,a):Option (Option Nat) × Nat) f >>= k) Q st:=by
 refine wpS_bind (wpS_mono (wpS_forRange (I:=λx c st'=>st'=st/\c=(none,x)/\Seg rk (arrOf st) lo (lo+x))
  (Q:=λc st'=>st'=st/\∃n,c=(none,n)/\a<=n/\n<=nrem/\Seg rk (arrOf st) lo (lo+n)/\(n=nrem\/Rk rk (arrOf st) (lo+n)<Rk rk (arrOf st) (lo+n - 1))) ?step ?fin ⟨rfl,rfl,hs⟩) ?post)
 case fin=>
  rintro c st' ⟨rfl,rfl,hs'⟩;rw[show max a nrem=nrem by lia] at hs' ⊢;exact⟨rfl,nrem,rfl,han,Nat.le_refl _,hs',.inl rfl⟩
 case post=>
  rintro c st' ⟨rfl,n,rfl,h1,h2,h3,h4⟩;exact hk n h1 h2 h3 h4
 case step=>
  rintro x c st' hax hxn ⟨rfl,rfl,hs'⟩;refine hf x x _ (by lia) hxn (λhl=>⟨rfl,x,rfl,hax,by lia,hs',.inr hl⟩) (λhl=>⟨rfl,rfl,λp q h1 h2 h3 =>?_⟩)
  by_cases hq:q<lo+x
  ·exact hs' p q h1 h2 hq
  ·have e:q=lo+x:=by lia
   subst e
   by_cases hp:p=lo+x
   ·subst hp; exact Nat.le_refl _
   ·exact Nat.le_trans (hs' p (lo+x - 1) h1 (by lia) (by lia)) hl
def za3 (hL:Asks M A s κ a₀ rk){st:SortSt}{lo nrem:Nat}{Q:Option Nat->SortSt->Prop}(hn:lo+nrem<=a₀.size)(h1:1<=nrem)(hB:TB κ a₀ st)
  (h:∀m st',TB κ a₀ st'->pendingOf st'=pendingOf st->1<=m->m<=nrem->Seg rk (arrOf st') lo (lo+m)->Low (arrOf st') (arrOf st) lo->Q (some m) st'):
  wpS M A E s (countRun' lo nrem) Q st:=by
 try dsimp only
 refine zdg (rk:=rk) (lo:=lo) (Nat.le_refl 1) h1 (Seg.one (Nat.le_refl _)) ?f ?k
 case f=>
  intro x n R n1 n2 ha hb;dsimp only;refine wpS_bind (z6T hL hB (by lia) (by lia) ?_)
  by_cases hl:Rk rk (arrOf st) (lo+n)<Rk rk (arrOf st) (lo+n - 1)
  ·refine z3E (by simpa using hl) ?_; exact wpS_pure (ha hl)
  ·refine z3F (by simpa using hl) ?_; exact wpS_pure (hb (by lia))
 case k=>
  intro n hn1 hn2 hsn hor;dsimp only
  by_cases hnn:n=nrem
  ·refine z3E (by simpa using hnn) ?_;exact wpS_pure (h n st hB rfl hn1 hn2 hsn Low.refl)
  ·refine z3F (by simpa using hnn) ?_;have hlt:=hor.resolve_left hnn;have hsz:lo+n<=(arrOf st).size:=by rw[hB.size]; lia
   refine zid (H:=λst1:SortSt=>TB κ a₀ st1/\pendingOf st1=pendingOf st/\Gec rk (arrOf st1) lo (lo+n+1)/\Low (arrOf st1) (arrOf st) lo) (P := ?pp1) ?tl1 ?us1
   case us1=>
    intro J
    by_cases hgt:n > 1
    ·refine z3E hgt ?_;refine wpS_bind (z6T hL hB (by lia) (by lia) ?_)
     by_cases hrose:Rk rk (arrOf st) lo<Rk rk (arrOf st) (lo+n - 1)
     ·refine z3E (by simpa using hrose) ?_;exact wpS_pure (h n st hB rfl hn1 hn2 hsn Low.refl)
     refine z3F (by simpa using hrose) ?_;have hall:∀k,lo<=k->k<lo+n->Rk rk (arrOf st) k=Rk rk (arrOf st) (lo+n - 1):=by
      intro k k1 k2;have a1:=hsn lo k (by lia) (by lia) k2;have a2:=hsn k (lo+n - 1) (by lia) (by lia) (by lia);lia
     refine wpS_bind (z3Y ?_);obtain⟨st1,e1,hB1,hp1,hG1,hl1⟩:∃st1:SortSt,st1=setArr st (mirror (arrOf st) lo (lo+n) ((lo+n - lo) / 2))/\TB κ a₀ st1/\pendingOf st1=pendingOf st/\Gec rk (arrOf st1) lo (lo+n+1)/\Low (arrOf st1) (arrOf st) lo:=by
      refine⟨_,rfl,hB.setArr (mirror_perm _ _ _ _),rfl,λp q p1 p2 p3 =>?_,z5C hsz (Nat.le_refl _)⟩;show Rk rk (mirror (arrOf st) _ _ _) q<=Rk rk (mirror (arrOf st) _ _ _) p;rw[z22 hsz hall,z22 hsz hall]
      by_cases hq:q<lo+n
      ·rw[hall p (by lia) (by lia),hall q (by lia) hq]; exact Nat.le_refl _
      ·have e:q=lo+n:=by lia
       subst e
       by_cases hp:p=lo+n
       ·subst hp; exact Nat.le_refl _
       ·rw[hall p (by lia) (by lia)]; lia
     rw[<- e1];exact J st1 ⟨hB1,hp1,hG1,hl1⟩
    ·refine z3F hgt ?_;refine J st ⟨hB,rfl,λp q p1 p2 p3 =>?_,Low.refl⟩
     by_cases hp:p=q
     ·subst hp; exact Nat.le_refl _
     ·obtain rfl:p=lo:=by lia
      obtain rfl:q=p+n:=by lia
      obtain rfl:n=1:=by lia
      rw[show p+1 - 1=p by lia] at hlt;lia
   rintro st1 ⟨hB1,hp1,hG1,hl1⟩;refine wpS_bind (wpS_lift (wpAny_rule ⟨rfl,?_⟩));refine wpS_bind (wpS_mono (wpS_forRange (I:=λx c st2=>∃neq,c=(none,x,neq)/\TB κ a₀ st2/\pendingOf st2=pendingOf st/\Low (arrOf st2) (arrOf st) lo/\Gec rk (arrOf st2) lo (lo+x)/\neq+1<=x/\
     (∀i,lo+x - (neq+1)<=i->i<lo+x->Rk rk (arrOf st2) i=Rk rk (arrOf st2) (lo+x - 1)))
    (Q:=λc st2=>∃m neq,c=(none,m,neq)/\m<=nrem/\TB κ a₀ st2/\pendingOf st2=pendingOf st/\Low (arrOf st2) (arrOf st) lo/\Gec rk (arrOf st2) lo (lo+m)/\neq+1<=m/\
     (∀i,lo+m - (neq+1)<=i->i<lo+m->Rk rk (arrOf st2) i=Rk rk (arrOf st2) (lo+m - 1))) ?step ?fin ⟨0,rfl,hB1,hp1,hl1,hG1,by lia,λi h1 h2=>by congr 1; lia⟩) ?post)
   case fin=>
    rintro c st2 hI1;apply elc1 (c:=c) hI1;intro neq p1;have hB2:=p1.1;have hp2:=p1.2.1;have hl2:=p1.2.2.1;have hG2:=p1.2.2.2.1;have hq:=p1.2.2.2.2.1;have he:=p1.2.2.2.2.2;clear p1 hI1;refine⟨_,neq,rfl,by lia,hB2,hp2,hl2,hG2,hq,he⟩
   case step=>
    rintro x c st2 hax hxn hI2;apply elc1 (c:=c) hI2;intro neq p2;have hB2:=p2.1;have hp2:=p2.2.1;have hl2:=p2.2.2.1;have hG2:=p2.2.2.2.1;have hq:=p2.2.2.2.2.1;have he:=p2.2.2.2.2.2;clear p2 hI2;dsimp only;have hsz2:lo+x<=(arrOf st2).size:=by rw[hB2.size]; lia
    refine wpS_bind (z6T hL hB2 (by lia) (by lia) ?_)
    by_cases hless:Rk rk (arrOf st2) (lo+x)<Rk rk (arrOf st2) (lo+x - 1)
    ·refine z3E (by simpa using hless) ?_;have step1:∀xs:Array Keyed,(∀k,Rk rk xs k=Rk rk (arrOf st2) k)->Gec rk xs lo (lo+(x+1)):=by
      intro xs hk p q p1 p2 p3;rw[hk,hk]
      by_cases hq':q<lo+x
      ·exact hG2 p q p1 p2 hq'
      ·obtain rfl:q=lo+x:=by lia
       by_cases hp':p=lo+x
       ·subst hp'; exact Nat.le_refl _
       ·exact Nat.le_trans (Nat.le_of_lt hless) (hG2 p (lo+x - 1) p1 (by lia) (by lia))
     by_cases hneq:neq > 0
     ·refine z3E hneq ?_;refine wpS_bind (z3Y (wpS_pure ⟨0,rfl,hB2.setArr (mirror_perm _ _ _ _),hp2,(z5C hsz2 (by lia)).trans hl2,step1 _ (z22 hsz2 he),by lia,λi h1 h2=>by congr 1; lia⟩))
     ·refine z3F hneq ?_;exact wpS_pure ⟨0,rfl,hB2,hp2,hl2,step1 _ (λ_=>rfl),by lia,λi h1 h2=>by congr 1; lia⟩
    ·refine z3F (by simpa using hless) ?_;refine wpS_bind (z6T hL hB2 (by lia) (by lia) ?_)
     by_cases hlarger:Rk rk (arrOf st2) (lo+x - 1)<Rk rk (arrOf st2) (lo+x)
     ·refine z3E (by simpa using hlarger) ?_;exact wpS_pure ⟨x,neq,rfl,by lia,hB2,hp2,hl2,hG2,hq,he⟩
     ·refine z3F (by simpa using hlarger) ?_;have heqx:Rk rk (arrOf st2) (lo+x)=Rk rk (arrOf st2) (lo+x - 1):=by lia
      refine wpS_pure ⟨neq+1,rfl,hB2,hp2,hl2,λp q p1 p2 p3 =>?_,by lia,λi h1 h2 =>?_⟩
      ·by_cases hq':q<lo+x
       ·exact hG2 p q p1 p2 hq'
       ·obtain rfl:q=lo+x:=by lia
        by_cases hp':p=lo+x
        ·subst hp'; exact Nat.le_refl _
        ·rw[heqx]; exact hG2 p (lo+x - 1) p1 (by lia) (by lia)
      ·rw[show lo+(x+1) - 1=lo+x by lia]
       by_cases hix:i=lo+x
       ·subst hix; rfl
       ·rw[heqx]; exact he i (by lia) (by lia)
   case post=>
    rintro c st2 ⟨m,neq,rfl,hm,hB2,hp2,hl2,hG2,hq,he⟩;dsimp only;have hsz2:lo+m<=(arrOf st2).size:=by rw[hB2.size]; lia
    refine zid (H:=λst3:SortSt=>TB κ a₀ st3/\pendingOf st3=pendingOf st/\Low (arrOf st3) (arrOf st) lo/\Gec rk (arrOf st3) lo (lo+m)) (P := ?pp2) ?tl2 ?us2
    case us2=>
     intro J
     by_cases hneq:neq > 0
     ·refine z3E hneq ?_;refine wpS_bind (z3Y ?_);obtain⟨st3,e3,hB3,hp3,hl3,hG3⟩:∃st3:SortSt,st3=setArr st2 (mirror (arrOf st2) (lo+m - (neq+1)) (lo+m) ((lo+m - (lo+m - (neq+1))) / 2))/\TB κ a₀ st3/\pendingOf st3=pendingOf st/\Low (arrOf st3) (arrOf st) lo/\Gec rk (arrOf st3) lo (lo+m):=by
       refine⟨_,rfl,hB2.setArr (mirror_perm _ _ _ _),hp2,(z5C hsz2 (by lia)).trans hl2,λp q p1 p2 p3 =>?_⟩;show Rk rk (mirror (arrOf st2) _ _ _) q<=Rk rk (mirror (arrOf st2) _ _ _) p;rw[z22 hsz2 he,z22 hsz2 he];exact hG2 p q p1 p2 p3
      rw[<- e3];exact J st3 ⟨hB3,hp3,hl3,hG3⟩
     ·refine z3F hneq ?_;exact J st2 ⟨hB2,hp2,hl2,hG2⟩
    rintro st3 ⟨hB3,hp3,hl3,hG3⟩;have hsz3:lo+m<=(arrOf st3).size:=by rw[hB3.size]; lia
    refine wpS_bind (z3Y ?_);have hB4:TB κ a₀ (setArr st3 (mirror (arrOf st3) lo (lo+m) ((lo+m - lo) / 2))):=hB3.setArr (mirror_perm _ _ _ _);refine zdg (rk:=rk) (lo:=lo) (by lia) hm (λp q p1 p2 p3 =>?_) ?f ?k
    case f=>
     intro x n R n1 n2 ha hb;dsimp only;refine wpS_bind (z6T hL hB4 (by lia) (by lia) ?_)
     by_cases hl:Rk rk (mirror (arrOf st3) lo (lo+m) ((lo+m - lo) / 2)) (lo+n)<Rk rk (mirror (arrOf st3) lo (lo+m) ((lo+m - lo) / 2)) (lo+n - 1)
     ·refine z3E (by simpa using hl) ?_; exact wpS_pure (ha hl)
     ·refine z3F (by simpa using hl) ?_; exact wpS_pure (hb (Nat.le_of_not_lt hl))
    case k=>
     intro n hn1 hn2 hsn _;exact wpS_pure (h n _ hB4 hp3 (by lia) hn2 hsn ((z5C hsz3 (Nat.le_refl _)).trans hl3))
    show Rk rk (mirror (arrOf st3) lo (lo+m) ((lo+m - lo) / 2)) p<=Rk rk (mirror (arrOf st3) lo (lo+m) ((lo+m - lo) / 2)) q;rw[z8u hsz3,z8u hsz3,if_pos (by lia),if_pos (by lia)];exact hG3 _ _ (by lia) (by lia) (by lia)
end
section
variable {M:Model}{A:Around}{E:Value->Shared->Prop}{s:Shared}{rk:Keyed->Nat}{κ:SortKind}{a₀:Array Keyed}
def z8w (hL:Asks M A s κ a₀ rk){st:SortSt}{lo n ok:Nat}{Q:Bool->SortSt->Prop}(hn:lo+n<=a₀.size)(hok:ok<=n)(h1:1<=ok)(hB:TB κ a₀ st)(hs:Seg rk (arrOf st) lo (lo+ok))
  (h:∀st',TB κ a₀ st'->pendingOf st'=pendingOf st->Seg rk (arrOf st') lo (lo+n)->Low (arrOf st') (arrOf st) lo->Q true st'):wpS M A E s (binarySort' lo n ok) Q st:=by
 refine wpS_bind (wpS_mono (wpS_forRange (I:=λk c st'=>c=(none,())/\TB κ a₀ st'/\pendingOf st'=pendingOf st/\Seg rk (arrOf st') lo (lo+k)/\Low (arrOf st') (arrOf st) lo)
  (Q:=λc st'=>c=(none,())/\TB κ a₀ st'/\pendingOf st'=pendingOf st/\Seg rk (arrOf st') lo (lo+n)/\Low (arrOf st') (arrOf st) lo) ?step ?fin ?init) ?post)
 case post=>
  rintro c st' hI1;apply elc0 (c:=c) hI1;intro p1;have hB':=p1.1;have hp':=p1.2.1;have hs':=p1.2.2.1;have hl':=p1.2.2.2;clear p1 hI1;exact wpS_pure (h st' hB' hp' hs' hl')
 case init=>
  rw[show max ok 1=ok by lia];exact⟨rfl,hB,rfl,hs,Low.refl⟩
 case fin=>
  rintro c st' ⟨hc,hB',hp',hs',hl'⟩;rw[show max (max ok 1) n=n by lia] at hs';exact⟨hc,hB',hp',hs',hl'⟩
 case step=>
  rintro k c st' hak hkn hI2;apply elc0 (c:=c) hI2;intro p2;have hB':=p2.1;have hp':=p2.2.1;have hs':=p2.2.2.1;have hl':=p2.2.2.2;clear p2 hI2;dsimp only;have hk:lo+k<a₀.size:=by lia
  refine wpS_bind (wpS_mono (wpS_forRange (I:=λx c st''=>st''=st'/\∃l r,c=(none,l,r)/\l<=r/\r<=k/\r - l<=k - x/\
    (∀i,i<l->Rk rk (arrOf st') (lo+i)<=Rk rk (arrOf st') (lo+k))/\(∀i,r<=i->i<k->Rk rk (arrOf st') (lo+k)<Rk rk (arrOf st') (lo+i)))
   (Q:=λc st''=>st''=st'/\∃l r,c=(none,l,r)/\l<=k/\
    (∀i,i<l->Rk rk (arrOf st') (lo+i)<=Rk rk (arrOf st') (lo+k))/\(∀i,l<=i->i<k->Rk rk (arrOf st') (lo+k)<Rk rk (arrOf st') (lo+i))) ?istep ?ifin ?iinit) ?ipost)
  case iinit=>exact⟨rfl,0,k,rfl,by lia,by lia,by lia,λi hi=>by lia,λi h1 h2=>by lia⟩
  case ifin=>
   rintro c st'' ⟨rfl,l,r,rfl,hlr,hrk,hm,hlo,hhi⟩;obtain rfl:l=r:=by lia
   exact⟨rfl,l,l,rfl,hrk,hlo,hhi⟩
  case istep=>
   rintro x c st'' _ hxk ⟨rfl,l,r,rfl,hlr,hrk,hm,hlo,hhi⟩;dsimp only
   by_cases hge:l>=r
   ·refine z3E hge ?_;obtain rfl:l=r:=by lia
    exact wpS_pure ⟨rfl,l,l,rfl,hrk,hlo,hhi⟩
   ·refine z3F hge ?_;refine wpS_bind (z6T hL hB' hk (by lia) ?_)
    by_cases hless:Rk rk (arrOf st'') (lo+k)<Rk rk (arrOf st'') (lo+(l+r) / 2)
    ·refine z3E (by simpa using hless) ?_;refine wpS_pure ⟨rfl,l,(l+r) / 2,rfl,by lia,by lia,by lia,hlo,λi h1 h2 =>?_⟩;exact Nat.lt_of_lt_of_le hless (hs' _ _ (by lia) (by lia) (by lia))
    ·refine z3F (by simpa using hless) ?_;refine wpS_pure ⟨rfl,(l+r) / 2+1,r,rfl,by lia,by lia,by lia,λi h1 =>?_,hhi⟩;exact Nat.le_trans (hs' (lo+i) (lo+(l+r) / 2) (by lia) (by lia) (by lia)) (Nat.le_of_not_lt hless)
  case ipost=>
   rintro c st'' ⟨rfl,l,r,rfl,hlk,hlo,hhi⟩;dsimp only;show wpS M A E s (moveDown' _ _ >>= _) _ _;rw[moveDown'_eq];have hks:lo+k<(arrOf st'').size:=by rw[hB'.size]; exact hk
   refine wpS_bind (wpS_modify (wpS_pure ⟨rfl,hB'.setArr (bubble_perm _ _ _),hp',?_,(zdf hks (by lia) (by lia)).trans hl'⟩));intro i j hi hij hj;show Rk rk (bubble (arrOf st'') (lo+k) (lo+k - (lo+l))) i<=Rk rk (bubble (arrOf st'') (lo+k) (lo+k - (lo+l))) j;rw[zb0 hks (by lia),zb0 hks (by lia),show lo+k - (lo+k - (lo+l))=lo+l by lia];have hlo':∀i,lo<=i->i<lo+l->Rk rk (arrOf st'') i<=Rk rk (arrOf st'') (lo+k):=λi h1 h2=>by
    have:=hlo (i - lo) (by lia)
    rwa [show lo+(i - lo)=i by lia] at this
   have hhi':∀i,lo+l<=i->i<lo+k->Rk rk (arrOf st'') (lo+k)<Rk rk (arrOf st'') i:=λi h1 h2=>by
    have:=hhi (i - lo) (by lia) (by lia)
    rwa [show lo+(i - lo)=i by lia] at this
   repeat' split
   all_goals first
    | (exfalso; lia)
    | exact Nat.le_refl _
    | exact hlo' _ (by lia) (by lia)
    | exact Nat.le_of_lt (hhi' _ (by lia) (by lia))
    | exact hs' _ _ (by lia) (by lia) (by lia)
end
section
variable {M:Model}{A:Around}{E:Value->Shared->Prop}{s:Shared}{rk:Keyed->Nat}{κ:SortKind}{a₀:Array Keyed}
def Up (rk:Keyed->Nat)(l:List Keyed):Prop:=l.Pairwise λx y=>rk x<=rk y
def zjd {a:Array Keyed}{i j:Nat}(h:Seg rk a i j)(hj:j<=a.size):Up rk (a.extract i j).toList:=by
 refine List.pairwise_iff_getElem.mpr λp q hp hq hpq =>?_;have hp':p<(a.extract i j).size:=by rw[<- Array.length_toList]; exact hp
 have hq':q<(a.extract i j).size:=by rw[<- Array.length_toList]; exact hq
 have hsz:(a.extract i j).size=j - i:=by rw[Array.size_extract]; lia
 have:=h (i+p) (i+q) (by lia) (by lia) (by lia);rw[za2 (getElem?_pos a (i+p) (by lia)),za2 (getElem?_pos a (i+q) (by lia))] at this;simpa[Array.getElem_extract] using this
end
section
variable {M:Model}{A:Around}{E:Value->Shared->Prop}{s:Shared}{rk:Keyed->Nat}{κ:SortKind}{a₀:Array Keyed}
def zb2 (hL:Asks M A s κ a₀ rk){st:SortSt}{Q:Unit->SortSt->Prop}(hB:TB κ a₀ st)(hp:pendingOf st = #[])(h1:1<=a₀.size)(h64:a₀.size<64)
  (h:∀st',TB κ a₀ st'->Seg rk (arrOf st') 0 a₀.size->Q () st'):wpS M A E s sortRuns' Q st:=by
 refine wpS_bind (wpS_get ?_);dsimp only;have hz:(PyProof.Rows.arrOf st).size=a₀.size:=hB.size;rw[hz];have emr:minRun' a₀.size a₀.size 0=a₀.size:=by
  cases e:a₀.size with
  | zero=>rfl
  | succ f=>rw[minRun'_succ,if_pos (by omega)]
 delta minRun' at emr
 rw[emr];refine wpS_bind (wpS_mono (wpS_forRange
  (I:=λx c st'=>TB κ a₀ st'/\(c=(none,0)/\x=0/\pendingOf st' = #[]\/c=(none,a₀.size)/\(pendingOf st').size=1/\Seg rk (arrOf st') 0 a₀.size))
  (Q:=λc st'=>c=(none,a₀.size)/\TB κ a₀ st'/\(pendingOf st').size=1/\Seg rk (arrOf st') 0 a₀.size) ?step ?fin ⟨hB,.inl ⟨rfl,rfl,hp⟩⟩) ?post)
 case fin=>
  rintro c st' ⟨hB',⟨_,e,_⟩ | ⟨rfl,e,q⟩⟩
  ·omega
  ·exact⟨rfl,hB',e,q⟩
 case step=>
  rintro x c st' _ hx ⟨hB',⟨rfl,rfl,e⟩ | ⟨rfl,e,q⟩⟩
  ·dsimp only;rw[if_neg (by omega)];refine wpS_bind (za3 hL (by omega) (by omega) hB' λm st1 hB1 hp1 m1 m2 hs1 hl1 =>?_);dsimp only;refine zid (H:=λst2:SortSt=>TB κ a₀ st2/\pendingOf st2 = #[]/\Seg rk (arrOf st2) 0 a₀.size) (P := ?pp1) ?tl1 ?us1
   case us1=>
    intro J
    by_cases c2:m<a₀.size
    ·rw[if_pos c2];refine wpS_bind (wpS_lift (wpAny_rule ⟨rfl,?_⟩));refine wpS_bind (z8w hL (by omega) (by omega) m1 hB1 hs1 λst2 hB2 hp2 hs2 hl2 =>?_);simp only[Bool.not_true,Bool.false_eq_true,if_false];rw[show min (a₀.size - 0) a₀.size=a₀.size by omega] at hs2 ⊢;rw[Nat.zero_add] at hs2;exact J st2 ⟨hB2,by rw[hp2,hp1,e],hs2⟩
    ·rw[if_neg c2];obtain rfl:m=a₀.size:=by omega
     rw[Nat.zero_add] at hs1;exact J st1 ⟨hB1,by rw[hp1,e],hs1⟩
   rintro st2 ⟨hB2,hp2,hs2⟩;refine wpS_bind (wpS_get ?_)
   split
   ·rename_i eb
    replace eb:(pendingOf st2).back? = some _:=eb
    rw[hp2] at eb
    cases eb
   ·refine wpS_bind (wpS_modify (wpS_pure ⟨⟨hB2.kind,hB2.failed,hB2.perm⟩,.inr ⟨by rw[Nat.zero_add],?_,hs2⟩⟩));show ((pendingOf st2).push _).size=1;rw[hp2]
    rfl
  ·dsimp only;rw[if_pos (Nat.le_refl _)];exact wpS_pure ⟨rfl,hB',e,q⟩
 case post=>
  rintro c st' ⟨rfl,hB',hz',hs'⟩;dsimp only;refine wpS_bind (wpS_mono (wpS_forRange (I:=λy c st3=>c=(none,())/\st3=st') (Q:=λc st3=>c=(none,())/\st3=st') ?fstep (λ_ _ z=>z) ⟨rfl,rfl⟩) ?fpost)
  case fpost=>
   rintro c st3 ⟨rfl,rfl⟩;exact wpS_pure (h st3 hB' hs')
  case fstep=>
   rintro y c st3 _ _ ⟨rfl,rfl⟩;refine wpS_bind (wpS_get ?_);rw[if_pos (by rw[hz']; exact Nat.le_refl _)];exact wpS_pure ⟨rfl,rfl⟩
end
end Tim
namespace Tim
open PySem PyProof.Rows PySem.W HT
def zbs:∀k:List Int,z3e k k=false
 | []=>rfl
 | x::xs=>by rw[z2Z,if_pos rfl]; exact zbs xs
def zev:∀{a b c:List Int},z3e a b=true->z3e b c=true->z3e a c=true
 | [],[],_,h,_=>by cases h
 | [],_::_,[],_,k=>by cases k
 | [],_::_,_::_,_,_=>rfl
 | _::_,[],_,h,_=>by cases h
 | _::_,_::_,[],_,k=>by cases k
 | x::xs,y::ys,z::zs,h,k=>by
  rw[z2Z] at h k ⊢
  by_cases e1:x=y
  ·subst e1
   by_cases e2:x=z
   ·subst e2;rw[if_pos rfl] at h k ⊢;exact zev h k
   ·rw[if_neg e2] at k ⊢; exact k
  ·rw[if_neg e1] at h;have h':=of_decide_eq_true h
   by_cases e2:y=z
   ·subst e2;rw[if_neg e1]; exact h
   ·rw[if_neg e2] at k;have k':=of_decide_eq_true k;rw[if_neg (by omega)];exact decide_eq_true (by omega)
def zbr:∀(a b:List Int),z3e a b=false->z3e b a=false->a=b
 | [],[],_,_=>rfl
 | [],_::_,h,_=>by cases h
 | _::_,[],_,k=>by cases k
 | x::xs,y::ys,h,k=>by
  rw[z2Z] at h k
  by_cases e:x=y
  ·subst e;rw[if_pos rfl] at h k;rw[zbr xs ys h k]
  ·rw[if_neg e] at h;rw[if_neg (Ne.symm e)] at k;have h':=of_decide_eq_false h;have k':=of_decide_eq_false k;omega
def rkL (l:List (List Int))(k:List Int):Nat:=l.countP λq=>z3e q k
def zaJ {α:Type}{p q:α->Bool}{l:List α}(h:∀x,p x=true->q x=true){a:α}(ha:a∈l)(hp:p a=false)(hq:q a=true):l.countP p<l.countP q:=by
 induction l with
 | nil=>cases ha
 | cons y l ih=>
  rw[List.countP_cons,List.countP_cons];have hle:l.countP p<=l.countP q:=List.countP_mono_left λx _ hx=>h x hx
  rcases List.mem_cons.mp ha with rfl | ha
  ·rw[hp,hq]; simp; omega
  ·have:=ih ha
   by_cases py:p y=true
   ·rw[py,h y py]; simp; omega
   ·rw[if_neg py]; split <;> omega
def zbQ {l:List (List Int)}{a b:List Int}(ha:a∈l)(hb:b∈l):z3e a b=decide (rkL l a<rkL l b):=by
 cases q:z3e a b with
 | true=>
  symm
  apply decide_eq_true;exact zaJ (λx hx=>zev hx q) ha (zbs a) q
 | false=>
  symm
  apply decide_eq_false;intro hlt
  cases q2:z3e b a with
  | true=>
   have:=zaJ (p:=λx=>z3e x b) (q:=λx=>z3e x a) (λx hx=>zev hx q2) hb (zbs b) q2;unfold rkL at hlt; omega
  | false=>
   rw[zbr a b q q2] at hlt;omega
section
variable {prog:Program}{w:World}{A:Around}{E:Value->Shared->Prop}{s:Shared}
def z7Y {b fin:Bool}{Q:Bool->Shared->Prop}:∀{vs ws:List Value}{ns ms:List Int}(i:Nat),IntsAre vs ns->IntsAre ws ms->fin=decide (ns.length<ms.length)->Q (z3e ns ms) s->KatLex prog w A b fin Q (vs.zip ws) i s
 | _,_,_,_,i,.nil,.nil,hf,h=>by
  refine kat_nil ?_; rw[hf]; exact h
 | _,_,_,_,i,.nil,.cons m u r,hf,h=>by
  refine kat_nil ?_; rw[hf];rw[show decide (([]:List Int).length<(m::_).length)=true by simp]; exact h
 | _,_,_,_,i,.cons n t r,.nil,hf,h=>by
  refine kat_nil ?_; rw[hf];rw[show decide ((n::_).length<([]:List Int).length)=false by simp]; exact h
 | _,_,_,_,i,.cons n t r,.cons m u r2,hf,h=>by
  refine kat_cons (wpAny_eqBool_int ?_);rw[z2Z] at h
  by_cases e:n=m
  ·subst e;rw[if_pos rfl] at h;rw[show (n == n)=true by simp];exact kat_yes (z7Y (i+1) r r2 (by rw[hf]; simp) h)
  ·rw[if_neg e] at h;rw[show (n == m)=false by simpa using e];refine kat_no ?_
   cases hb:(b && i == 0) with
   | true=>exact oneLt_int h
   | false=>exact kat_one _ _ (lt_int h)
def TI (h:Heap)(v:Value)(k:List Int):Prop:=∃a o items n,v = .ref a/\h.get? a=some o/\o.cls = .type "tuple"/\o.data = .seq items n/\IntsAre items.toList k
def TI.keep {h h':Heap}{v:Value}{k:List Int}(x:TI h v k)(g:∀b o,h.get? b=some o->o.cls = .type "tuple"->h'.get? b=some o):TI h' v k:=by
 obtain⟨a,o,items,n,e,h1,h2,h3,h4⟩:=x;exact⟨a,o,items,n,e,g _ _ h1 h2,h2,h3,h4⟩
def zgw {vs:List Value}{key:Value->List Int}(hk:∀v∈vs,TI s.heap v (key v))(b:Bool):Asks (model prog w) A s (tuples' b) (pairsOf vs) (λp=>rkL (vs.map key) (key p.1)):=by
 intro x y hx hy Q E h;rw[pairsOf_toList] at hx hy;have mx:=(mem_zip_self hx).2;have my:=(mem_zip_self hy).2;rw[<- zbQ (List.mem_map.mpr ⟨_,mx,rfl⟩) (List.mem_map.mpr ⟨_,my,rfl⟩)] at h;obtain⟨a1,o1,i1,n1,e1,g1,c1,d1,k1⟩:=hk _ mx;obtain⟨a2,o2,i2,n2,e2,g2,c2,d2,k2⟩:=hk _ my;rw[e1] at h k1;rw[e2] at h k2;rw[e1,e2];exact kat_lt g1 d1 g2 d2 (z7Y 0 k1 k2 (by rw[<- IntsAre.length k1, <- IntsAre.length k2,Array.length_toList,Array.length_toList]) h)
def z7Z {h:Heap}{key:Value->List Int}:∀{vs:List Value},(∀v∈vs,TI h v (key v)/\key v≠[])->∃fs:List Value,KatTups h vs fs/\fs.length=vs.length/\∀f∈fs,∃n t,f = .int n t
 | [],_=>⟨[],.nil,rfl,λ_ h=>by cases h⟩
 | v::vs,hk=>by
  obtain⟨fs,q1,q2,q3⟩:=z7Z (vs:=vs) (λv hv=>hk v (List.mem_cons_of_mem _ hv));obtain⟨⟨a,o,items,n,e,h1,h2,h3,h4⟩,hne⟩:=hk v (List.mem_cons_self ..);subst e;obtain⟨x,xs,ex⟩:∃x xs,key (.ref a)=x::xs:=by
   cases hq:key (.ref a) with
   | nil=>exact(hne hq).elim
   | cons x xs=>exact⟨x,xs,rfl⟩
  rw[ex] at h4;generalize hi:items.toList=il at h4
  cases h4 with
  | cons _ t r=>
   refine⟨.int x t::fs,.cons h1 h2 h3 ?_ q1,by simp[q2],λf hf =>?_⟩
   ·rw[<- Array.getElem?_toList,hi]; rfl
   ·rcases List.mem_cons.mp hf with rfl | hf
    ·exact⟨_,_,rfl⟩
    ·exact q3 f hf
def zga {vs:List Value}{key:Value->List Int}{Q:SortKind->Shared->Prop}(hk:∀v∈vs,TI s.heap v (key v)/\key v≠[])(hne:0<vs.length)(h:Q (tuples' true) s):wpAny (model prog w) A (keyKind' vs.toArray) Q E s:=by
 obtain⟨fs,q1,q2,q3⟩:=z7Z hk;refine kat_kind (T :=.type "int") q1 (by omega) (λv hv =>?_) rfl h;obtain⟨n,t,rfl⟩:=q3 v hv;exact Looks.now
def zfI {α:Type}{R:α->α->Prop}{l:List α}(h:l.length<2):l.Pairwise R:=by
 match l,h with
 | [],_=>exact List.Pairwise.nil
 | [x],_=>exact List.pairwise_singleton _ _
def z8t (prog:Program)(w:World)(h:Heap)(vs:List Value)(rk:Value->Nat):Prop:=∀(A:Around) (s:Shared),(∀b o,h.get? b=some o->o.cls = .type "tuple"->s.heap.get? b=some o)->
 Asks (model prog w) A s (tuples' true) (pairsOf vs) (λp=>rk p.1)/\(1<vs.length->∀(Q:SortKind->Shared->Prop) (E:Value->Shared->Prop),Q (tuples' true) s->wpAny (model prog w) A (keyKind' vs.toArray) Q E s)
def z8t.keep {h h':Heap}{vs:List Value}{rk:Value->Nat}(x:z8t prog w h vs rk)(k:∀b o,h.get? b=some o->h'.get? b=some o):z8t prog w h' vs rk:=λA s k'=>x A s λb o e c=>k' b o (k b o e) c
def z8t.tups {h:Heap}{vs:List Value}{key:Value->List Int}(hk:∀v∈vs,TI h v (key v)/\key v≠[]):z8t prog w h vs (λv=>rkL (vs.map key) (key v)):=λA s k=>
 ⟨zgw (λv hv=>(hk v hv).1.keep k) true,λhl Q E q=>zga (λv hv=>⟨(hk v hv).1.keep k,(hk v hv).2⟩) (by omega) q⟩
def zat {a:Addr}{vs:List Value}{rk:Value->Nat}{n:Nat}{P:PySem.Fin->Shared->Prop}(ho:s.heap.get? a=some (seqObj "list" vs.toArray n))(hz:vs.length<=sizeLine)(h64:vs.length<64)
  (hk:z8t prog w s.heap vs rk)
  (h:∀out:List Value,out.Perm vs->out.Pairwise (λx y=>rk x<=rk y)->P (.done (.ret .none)) { s with heap:=sortedHeap s.heap a vs out.toArray }):
  wpAny (model prog w) A (Builtin.«list.sort» ⟨[.ref a],[]⟩) P E s:=by
 rw[list_sort_plain];have ha:a<s.heap.objs.size:=Heap.lt_size ho;refine wpAny_bind (listItems_at ho rfl ?_);refine wpAny_bind (listUpdate_at ho rfl ?_ (by rw[List.size_toArray]; omega) (Nat.zero_le _));obtain⟨e1,ho1⟩:∃e1,(s.heap.update a (Obj.mapSeq λ_ => #[])).get? a=some (seqObj "list" #[] e1):=⟨_,get?_update_seq ho (λ_ => #[])⟩
 refine wpAny_bind (seqEpoch_at ho1 rfl ?_);refine wpAny_bind (wpAny_newTuple ?_ (by show vs.length<=_; omega));refine wpAny_bind (wpAny_newList ?_ (Nat.zero_le _));refine wpAny_holding ?_;have ho6:(((s.heap.update a (Obj.mapSeq λ_ => #[])).push (seqObj "tuple" vs.toArray 0)).push (seqObj "list" #[] 0)).get? a=some (seqObj "list" #[] e1):=by
  rw[Heap.get?_push_ne _ _ _ (by rw[size_push',Heap.size_update]; exact Nat.ne_of_lt (Nat.lt_succ_of_lt ha)),Heap.get?_push_ne _ _ _ (by rw[Heap.size_update]; exact Nat.ne_of_lt ha)];exact ho1
 have keep:∀b o,s.heap.get? b=some o->o.cls = .type "tuple"->(((s.heap.update a (Obj.mapSeq λ_ => #[])).push (seqObj "tuple" vs.toArray 0)).push (seqObj "list" #[] 0)).get? b=some o:=λb o hb hc=>by
  have hlt:b<s.heap.objs.size:=Heap.lt_size hb;have hne:b≠a:=by
   rintro rfl;rw[ho] at hb
   cases hb
   exact absurd (show Value.type "list"=Value.type "tuple" from hc) (by decide)
  rw[Heap.get?_push_ne _ _ _ (by rw[size_push',Heap.size_update]; exact Nat.ne_of_lt (Nat.lt_succ_of_lt hlt)),Heap.get?_push_ne _ _ _ (by rw[Heap.size_update]; exact Nat.ne_of_lt hlt),Heap.get?_update_ne _ _ _ _ hne];exact hb
 show wpAny (model prog w) A _ P E { s with heap:=((s.heap.update a (Obj.mapSeq λ_ => #[])).push (seqObj "tuple" vs.toArray 0)).push (seqObj "list" #[] 0) };dsimp only;have hsz:vs.toArray.size=vs.length:=by simp
 have snd:∀st':SortSt,(arrOf st').Perm (pairsOf vs)->∃out:List Value,(arrOf st').map (·.2)=out.toArray/\out.Perm vs/\(arrOf st').toList.map (·.1)=out:=λst' hp=>by
  refine⟨(arrOf st').toList.map (·.2),?_,?_,?_⟩
  ·apply Array.toList_inj.mp;rw[Array.toList_map]
  ·have:=(Array.perm_iff_toList_perm.mp hp).map (·.2);rw[pairsOf_toList] at this;refine this.trans ?_;rw[List.map_snd_zip (Nat.le_refl _)]
  ·apply List.map_congr_left;intro p hp';have:=(Array.perm_iff_toList_perm.mp hp).mem_iff.mp hp';rw[pairsOf_toList] at this;exact(mem_zip_self this).1
 have outsz:∀st':SortSt,(arrOf st').Perm (pairsOf vs)->((arrOf st').map (·.2)).size<=sizeLine:=λst' hp=>by
  rw[Array.size_map,hp.size_eq,pairsOf_size]; exact hz
 by_cases h2:vs.toArray.size<2
 ·rw[if_pos h2,if_pos h2];refine wpAny_bind (wpAny_pure ?_);rw[StateT.run_pure];refine wpAny_bind (wpAny_pure ?_);dsimp only;refine wpAny_bind (seqEpoch_at ho6 rfl ?_);have hp0:(arrOf (SortSt.mk' general' (vs.toArray.zip vs.toArray) #[] 7 none)).Perm (pairsOf vs):=Array.Perm.refl _;refine wpAny_bind (listUpdate_at ho6 rfl ?_ (Nat.zero_le _) (Nat.le_succ_of_le (outsz _ hp0)));simp only[bne_self_eq_false,Bool.false_eq_true,if_false];obtain⟨out,o1,o2,o3⟩:=snd _ hp0;have ee:sortedHeap s.heap a vs out.toArray=sortedHeap s.heap a vs ((arrOf (SortSt.mk' general' (vs.toArray.zip vs.toArray) #[] 7 none)).map (·.2)):=by rw[o1]
  have hfin:=h out o2 (by
   have hl:out.length<2:=by rw[o2.length_eq]; omega
   exact zfI hl)
  rw[ee] at hfin;exact wpAny_pure hfin
 ·rw[if_neg h2,if_neg h2];obtain⟨ka,kk⟩:=hk A { s with heap:=((s.heap.update a (Obj.mapSeq λ_ => #[])).push (seqObj "tuple" vs.toArray 0)).push (seqObj "list" #[] 0) } keep;refine wpAny_bind (kk (by omega) _ _ ?_);refine wpAny_bind (wpAny_mono (zb2 (a₀:=pairsOf vs) (κ:=tuples' true) (rk:=λp=>rk p.1) (st:=SortSt.mk' (tuples' true) (vs.toArray.zip vs.toArray) #[] 7 none)
   (Q:=λ_ st'=>TB (tuples' true) (pairsOf vs) st'/\Seg (λp=>rk p.1) (arrOf st') 0 (pairsOf vs).size)
   ka ⟨rfl,rfl,Array.Perm.refl _⟩ rfl (by rw[pairsOf_size]; omega) (by rw[pairsOf_size]; exact h64) λst' b1 b2=>⟨b1,b2⟩) ?_ λ_ _ e=>e)
  rintro⟨⟨⟩,st'⟩ s' ⟨rfl,hB,hs⟩;dsimp only at hB hs ⊢;refine wpAny_bind (seqEpoch_at ho6 rfl ?_);refine wpAny_bind (listUpdate_at ho6 rfl ?_ (Nat.zero_le _) (Nat.le_succ_of_le (outsz st' hB.perm)));rw[hB.failed];simp only[bne_self_eq_false,Bool.false_eq_true,if_false];obtain⟨out,o1,o2,o3⟩:=snd st' hB.perm;have hfin:=h out o2 (by
   have hup:Up (λp=>rk p.1) (arrOf st').toList:=by
    have:=zjd hs (by rw[hB.perm.size_eq]; exact Nat.le_refl _);rw[<- hB.perm.size_eq] at this;simpa using this
   rw[<- o3];exact List.pairwise_map.mpr hup)
  rw[<- o1] at hfin;exact wpAny_pure hfin
end
section
variable {prog:Program}{w:World}{A:Around}{E:Value->Shared->Prop}{s:Shared}
def zld (prog:Program)(w:World)(rk:Value->Nat)(Q:Value->Shared->Prop)(vs:List Value)(s1:Shared):Prop:=
 vs.length<64/\z8t prog w s1.heap vs rk/\∀out:List Value,out.Perm vs->out.Pairwise (λx y=>rk x<=rk y)->
  ∀h',(∀b o,s1.heap.get? b=some o->h'.get? b=some o)->(∃e,h'.get? s1.heap.objs.size=some (seqObj "list" out.toArray e))->Q (.ref s1.heap.objs.size) { s1 with heap:=h' }
def zaa {v:Value}{Q:Value->Shared->Prop}(hcol:∀E',wpAny (model prog w) A.in1 (collect v) (λvs s1=>∃rk,zld prog w rk Q vs s1) E' s):wpAny (model prog w) A (call (.builtin "sorted") [v]) Q E s:=by
 refine Calls.call_function_entry kind_sorted plain_sorted entry_sorted (args_sorted1 _) ?_;unfold Builtin.«sorted»;refine wpAny_bind (m:=checkCount "sorted" 1 1 _) (wpAny_pure ?_);refine wpAny_bind (wpAny_mono (hcol _) (λvs s1 q =>?_) λ_ _ e=>e);obtain⟨rk,h64,hk,h⟩:=q;have hz:vs.length<=sizeLine:=Nat.le_trans (Nat.le_of_lt h64) (by decide);refine wpAny_bind (wpAny_newList ?_ hz);have hoL:(s1.heap.push (seqObj "list" vs.toArray 0)).get? s1.heap.objs.size=some (seqObj "list" vs.toArray 0):=Heap.get?_push_size _ rfl;have keep:∀b o,s1.heap.get? b=some o->(s1.heap.push (seqObj "list" vs.toArray 0)).get? b=some o:=λb o q=>Heap.get?_push_of_some _ q;show wpAny _ _ _ _ _ { s1 with heap:=s1.heap.push (seqObj "list" vs.toArray 0) };refine wpAny_bind (wpAny_holding (wpAny_call_entry slot_list_sort ⟨_,hoL,rfl⟩ entry_list_sort (zat hoL hz h64 (hk.keep keep) λout o1 o2=>⟨_,rfl,?_⟩) (args_list_sort _)));refine wpAny_pure ⟨_,rfl,h out o1 o2 _ (λb o g =>?_) ?_⟩
 ·have hlt:b<s1.heap.objs.size:=Heap.lt_size g;rw[sortedHeap_old (Nat.ne_of_lt hlt) (by rw[size_push']; exact Nat.lt_succ_of_lt hlt)];exact keep b o g
 ·exact sortedHeap_at hoL
def zlc (key:Value->List Int)(Q:Value->Shared->Prop)(vs:List Value)(s1:Shared):Prop:=
 vs.length<64/\(∀x∈vs,TI s1.heap x (key x)/\key x≠[])/\∀out:List Value,out.Perm vs->out.Pairwise (λx y=>z3e (key y) (key x)=false)->
  ∀h',(∀b o,s1.heap.get? b=some o->h'.get? b=some o)->(∃e,h'.get? s1.heap.objs.size=some (seqObj "list" out.toArray e))->Q (.ref s1.heap.objs.size) { s1 with heap:=h' }
def zb8 {v:Value}{key:Value->List Int}{Q:Value->Shared->Prop}(hcol:∀E',wpAny (model prog w) A.in1 (collect v) (zlc key Q) E' s):wpAny (model prog w) A (call (.builtin "sorted") [v]) Q E s:=
 zaa λE'=>wpAny_mono (hcol E') (λvs s1 ⟨hz,hk,h⟩=>⟨_,hz,z8t.tups hk,λout o2 pw=>h out o2 (pw.imp_of_mem λ{x y} hx hy hxy=>by
  rw[zbQ (List.mem_map.mpr ⟨_,o2.mem_iff.mp hy,rfl⟩) (List.mem_map.mpr ⟨_,o2.mem_iff.mp hx,rfl⟩)];exact decide_eq_false (Nat.not_lt.mpr hxy))⟩) λ_ _ e=>e
end
end Tim
namespace Tab
open PySem PySem.SetTable PyProof.Rows
def z8R:entryFor table "set.__iter__"=some Builtin.«frozenset.__iter__»:=
 entryFor_alias (id':="frozenset.__iter__") (by kernel_rfl) rfl (by decide +kernel) (by kernel_rfl)
def z2p:Slot "set_iterator" "__next__" "set_iterator.__next__":=
 .of (owner:="set_iterator") (n:="__next__") (by rw[typeLookup_type,builtinLookup_eq_fast]; kernel_rfl) (by decide +kernel) (by decide +kernel) (by decide +kernel)
  (by first | exact .inl (by decide +kernel) | exact .inr (by decide +kernel)) (by rw[isSubtype_type]; kernel_rfl)
def z7a:Slot "set_iterator" "__iter__" "set_iterator.__iter__":=
 .of (owner:="set_iterator") (n:="__iter__") (by rw[typeLookup_type,builtinLookup_eq_fast]; kernel_rfl) (by decide +kernel) (by decide +kernel) (by decide +kernel)
  (by first | exact .inl (by decide +kernel) | exact .inr (by decide +kernel)) (by rw[isSubtype_type]; kernel_rfl)
def z6N:entryFor table "set_iterator.__next__"=some Builtin.«set_iterator.__next__»:=entryFor_of_fast (by kernel_rfl)
def z7m (a:Value):argsOk "set_iterator.__next__" ⟨[a],[]⟩:=by unfold argsOk; kernel_rfl
section
variable {prog:Program}{w:World}{A:Around}{E:Value->Shared->Prop}{s:Shared}
def z3X (h:Heap)(it S:Addr)(slot i n ep:Nat):Prop:=∃o,h.get? it=some o/\o.cls = .type "set_iterator"/\o.data = .fields #[.int slot 0,.int i 0,.ref S,.int n 0,.int ep 0]
def z3X.typeIs {it S:Addr}{slot i n ep:Nat}(x:z3X s.heap it S slot i n ep):s.TypeIs (.ref it) "set_iterator":=let ⟨o,ho,hc,_⟩:=x; ⟨o,ho,hc⟩
def z7p {S:Addr}{o:Obj}{es:Array (Int × Value)}{ep:Nat}{t:SetTable}{Q:Value->Shared->Prop}(ho:s.heap.get? S=some o)(hc:o.cls = .type "set")(hd:o.data = .set es ep t)(hf:t.fits es.size=true)(hp:t.plain=true)
  (h:Q (.ref s.heap.objs.size) { s with heap:=s.heap.push { cls :=.type "set_iterator",data :=.fields #[.int 0 0,.int 0 0,.ref S,.int es.size 0,.int ep 0] } }):wpAny (model prog w) A (pyIter (.ref S)) Q E s:=by
 have hT:s.TypeIs (.ref S) "set":=⟨o,ho,hc⟩
 refine wpAny_pyIter_slot hT F.slot_set_iter (wpAny_call_entry F.slot_set_iter hT z8R ?_ (F.args_set_iter_1 _));show wpAny _ _ (Builtin.Frozenset.sizeOf S >>= _) _ _ s;unfold Builtin.Frozenset.sizeOf setEntries setDrawn setEpoch;refine wpAny_bind (wpAny_bind (wpAny_bind (wpAny_setState_of ho hd hf (wpAny_pure (wpAny_pure ?_)))));refine wpAny_bind (wpAny_bind (wpAny_setState_of ho hd hf ?_));show wpAny _ _ (setsByText >>= λbyText=>pure (!byText && (!t.plain && decide (es.size > 1)))) _ _ s;unfold setsByText;refine wpAny_bind (wpAny_bind (wpAny_askSetting (wpAny_pure (wpAny_pure ?_))));rw[hp];simp only[Bool.not_true,Bool.false_and,Bool.and_false,Bool.false_eq_true,if_false];refine wpAny_bind (wpAny_pure (wpAny_bind (wpAny_bind (wpAny_setState_of ho hd hf (wpAny_pure ?_)))));exact wpAny_bind (wpAny_newObj_type (wpAny_pure ⟨_,rfl,"set_iterator",_,⟨_,Heap.get?_push_size _ rfl,rfl⟩,z2p.lookup,h⟩))
end
section
variable {prog:Program}{w:World}{A:Around}{E:Value->Shared->Prop}{s:Shared}
def nxt (w:World)(S:Addr)(es:Array (Int × Value))(ep:Nat)(t:SetTable)(slot i:Nat):Option (Value × Nat):=
 if w.params.followText "set-order"=true then ((pickOrder (w.params.setOrder S ep) es)[i]?).map λe=>(e.2,slot) else
  match es[below t.place slot]?, t.place[below t.place slot]? with
  | some (_,x),some j=>some (x,j+1)
  | _,_=>none
def z6i {S:Addr}{o:Obj}{es:Array (Int × Value)}{ep:Nat}{t:SetTable}{slot i:Nat}{Q:Option (Value × Nat)->Shared->Prop}(ho:s.heap.get? S=some o)(hd:o.data = .set es ep t)(hf:t.fits es.size=true)(hp:t.plain=true)(hl:t.led = !w.params.followText "set-order")
  (h:Q (nxt w S es ep t slot i) s):wpAny (model prog w) A (setNext S slot i ep) Q E s:=by
 unfold setNext;refine wpAny_bind (wpAny_setState_of ho hd hf ?_);show wpAny _ _ (setsByText >>= _) _ _ s;unfold setsByText;refine wpAny_bind (wpAny_bind (wpAny_askSetting (wpAny_pure ?_)));unfold nxt at h
 by_cases c:w.params.followText "set-order"=true
 ·have c':(model prog w).w.params.followText "set-order"=true:=c;rw[if_pos c] at h;rw[if_pos c'];rw[if_neg (by simp)];unfold setWalk;refine wpAny_bind (wpAny_bind (wpAny_setState_of ho hd hf ?_));show wpAny _ _ (setsByText >>= _) _ _ s;unfold setsByText;refine wpAny_bind (wpAny_bind (wpAny_askSetting (wpAny_pure ?_)));rw[if_pos c'];exact wpAny_bind (wpAny_askSetting (wpAny_pure (wpAny_pure h)))
 ·have c':¬ (model prog w).w.params.followText "set-order"=true:=c;rw[if_neg c] at h;rw[if_neg c'];have hled:t.led=true:=by rw[hl]; simpa using c
  show wpAny _ _ (if (!t.plain && decide (es.size > 1))=true then _ else _) _ _ s;rw[hp,if_neg (by simp)];show wpAny _ _ ((if (!t.led && !es.isEmpty)=true then unsupported "set:maker-not-led" else pure PUnit.unit) >>= _) _ _ s;rw[hled,if_neg (by simp)];exact wpAny_bind (wpAny_pure (wpAny_pure h))
end
section
variable {prog:Program}{w:World}{A:Around}{E:Value->Shared->Prop}{s:Shared}
def z4X {it S:Addr}{o:Obj}{es:Array (Int × Value)}{ep:Nat}{t:SetTable}{slot i slot':Nat}{x:Value}{Q:Option Value->Shared->Prop}(hit:z3X s.heap it S slot i es.size ep)
  (ho:s.heap.get? S=some o) (hd:o.data = .set es ep t) (hf:t.fits es.size=true) (hp:t.plain=true) (hl:t.led = !w.params.followText "set-order") (hx:nxt w S es ep t slot i=some (x,slot'))
  (hQ:∀h',z3X h' it S slot' (i+1) es.size ep->Heap.SameBut it s.heap h'->Q (some x) { s with heap:=h' }):wpAny (model prog w) A (pyNext (.ref it)) Q E s:=by
 obtain⟨oi,hoi,hci,hdi⟩:=id hit;unfold pyNext;refine wpAny_bind (wpAny_attempt (wpAny_callSpecial?_slot (name:=Str.ofString "__next__") hit.typeIs z2p
  (wpAny_call_entry z2p hit.typeIs z6N ?_ (z7m _))))
 show wpAny _ _ (fieldsOf (.ref it) >>= _) _ _ s;refine wpAny_bind (wpAny_fieldsOf hoi hdi ?_);show wpAny _ _ (setEntries S >>= _) _ _ s;unfold setEntries;refine wpAny_bind (wpAny_bind (wpAny_setState_of ho hd hf (wpAny_pure ?_)));rw[if_neg (by simp)];show wpAny _ _ (setNext S (slot:Int).toNat (i:Int).toNat (ep:Int).toNat >>= _) _ _ s;simp only[Int.toNat_natCast];refine wpAny_bind (z6i ho hd hf hp hl ?_);rw[hx];dsimp only;refine wpAny_bind (wpAny_setField hoi hdi (by simp) ?_);have g1:=Heap.get?_update_self (Obj.mapFields (·.setIfInBounds 0 (rawInt (slot':Int)))) hoi (Obj.isFreed_of_fields (Obj.data_mapFields hdi _));refine wpAny_bind (wpAny_setField g1 (Obj.data_mapFields hdi _) (by simp) ?_);refine wpAny_pure ⟨x,rfl,wpAny_pure (hQ _ ?_ ((Heap.SameBut.update ..).trans (Heap.SameBut.update ..)))⟩;refine⟨_,Heap.get?_update_self _ g1 (Obj.isFreed_of_fields (Obj.data_mapFields (Obj.data_mapFields hdi _) _)),((Obj.cls_mapFields ..).trans (Obj.cls_mapFields ..)).trans hci,?_⟩;rw[Obj.data_mapFields (Obj.data_mapFields hdi _)];simp[rawInt]
def z5D {it S:Addr}{o:Obj}{es:Array (Int × Value)}{ep:Nat}{t:SetTable}{slot i:Nat}{Q:Option Value->Shared->Prop}(hh:A.handled=none)(hit:z3X s.heap it S slot i es.size ep)
  (ho:s.heap.get? S=some o) (hd:o.data = .set es ep t) (hf:t.fits es.size=true) (hp:t.plain=true) (hl:t.led = !w.params.followText "set-order") (hx:nxt w S es ep t slot i=none)
  (hQ:∀h',Heap.ExtBut it s.heap h'->Q none { s with heap:=h' }):wpAny (model prog w) A (pyNext (.ref it)) Q E s:=by
 obtain⟨oi,hoi,hci,hdi⟩:=id hit;unfold pyNext;refine wpAny_bind (wpAny_attempt (wpAny_callSpecial?_slot (name:=Str.ofString "__next__") hit.typeIs z2p
  (wpAny_call_entry z2p hit.typeIs z6N ?_ (z7m _))))
 show wpAny _ _ (fieldsOf (.ref it) >>= _) _ _ s;refine wpAny_bind (wpAny_fieldsOf hoi hdi ?_);show wpAny _ _ (setEntries S >>= _) _ _ s;unfold setEntries;refine wpAny_bind (wpAny_bind (wpAny_setState_of ho hd hf (wpAny_pure ?_)));rw[if_neg (by simp)];show wpAny _ _ (setNext S (slot:Int).toNat (i:Int).toNat (ep:Int).toNat >>= _) _ _ s;simp only[Int.toNat_natCast];refine wpAny_bind (z6i ho hd hf hp hl ?_);rw[hx];dsimp only;refine wpAny_bind (wpAny_setField hoi hdi (by simp) ?_);show wpAny _ _ (newExc (.type "StopIteration") [] >>= _) _ _ _;refine wpAny_bind ?_;simp only[newExc,newTuple];refine wpAny_bind (wpAny_newObj_type ?_ (by size_fits));refine wpAny_bind (m:=firstArgMember _ _) (wpAny_of_eq (a:=Value.none) (by first | rfl | (simp only[firstArgMember]; rfl)) ?_);refine wpAny_newObj_type ?_ (by size_fits);simp only[raiseNew];refine wpAny_bind (wpAny_handled ?_)
 first | rw[show A.in1.handled=none from hh] | rw[hh]
 refine wpAny_bind (wpAny_pure (wpAny_throw ?_));refine wpAny_bind (wpAny_isInstance (T:="StopIteration") (b:=true) ⟨_,Heap.get?_push_size _ rfl,rfl⟩ isSubtype_stop ?_);exact wpAny_pure (hQ _ (((Heap.SameBut.update ..).extBut.push _).push _))
end
def zah {α:Type}(next:Nat->Nat):∀(n k:Nat) (left:List α) (out:Array α),left.length=n->(pickOrder.go next n k left out).toList.Perm (out.toList++left)
 | 0,k,left,out,h=>by
  rw[List.eq_nil_of_length_eq_zero h,List.append_nil];exact List.Perm.refl _
 | n+1,k,left,out,h=>by
  have hlt:next k % left.length<left.length:=Nat.mod_lt _ (by omega);rw[pickOrder.go,List.getElem?_eq_getElem hlt];refine(zah next n (k+1) _ _ (by rw[List.length_eraseIdx_of_lt hlt]; omega)).trans ?_;rw[Array.toList_push,List.append_assoc];refine List.Perm.append_left _ ?_;show (left[next k % left.length]::left.eraseIdx (next k % left.length)).Perm left;rw[List.eraseIdx_eq_take_drop_succ];refine(List.perm_middle.symm).trans ?_;rw[<- List.drop_eq_getElem_cons hlt,List.take_append_drop]
def z8C {α:Type}(next:Nat->Nat)(xs:Array α):(pickOrder next xs).toList.Perm xs.toList:=by
 have:=zah next xs.size 0 xs.toList #[] (by simp);simpa[pickOrder] using this
def ordE (w:World)(S:Addr)(es:Array (Int × Value))(ep:Nat):Array (Int × Value):=if w.params.followText "set-order"=true then pickOrder (w.params.setOrder S ep) es else es
def zaj (w:World)(S:Addr)(es:Array (Int × Value))(ep:Nat):(ordE w S es ep).toList.Perm es.toList:=by
 unfold ordE
 split
 ·exact z8C _ _
 ·exact List.Perm.refl _
def z7O (w:World)(S:Addr)(es:Array (Int × Value))(ep:Nat):(ordE w S es ep).size=es.size:=by
 rw[<- Array.length_toList,(zaj w S es ep).length_eq,Array.length_toList]
def z7G (w:World)(t:SetTable)(i:Nat):Nat:=if w.params.followText "set-order"=true then 0 else if i=0 then 0 else t.place.getD (i - 1) 0+1
def z9d {t:SetTable}(hr:Rise t.place){i:Nat}(hi:i<=t.place.size):below t.place (if i=0 then 0 else t.place.getD (i - 1) 0+1)=i:=by
 obtain⟨h1,h2,h3⟩:=z79 hr (if i=0 then 0 else t.place.getD (i - 1) 0+1);generalize below t.place (if i=0 then 0 else t.place.getD (i - 1) 0+1)=k at*
 by_cases e:i=0
 ·subst e;rw[if_pos rfl] at h2
  by_cases z:k=0
  ·exact z
  ·have:=h2 0 (by omega); omega
 ·rw[if_neg e] at h2 h3
  by_cases c:k<i
  ·have:=h3 (i - 1) (by omega) (by omega); omega
  ·by_cases c2:i<k
   ·have a1:=h2 i c2;have a2:=hr (i - 1) i (by omega) (by omega);omega
   ·omega
def zg4 {w:World}{S:Addr}{es:Array (Int × Value)}{ep:Nat}{t:SetTable}(hr:Rise t.place)(hsz:t.place.size=es.size){i:Nat}(hi:i<es.size):
  ∃e,(ordE w S es ep)[i]? = some e/\nxt w S es ep t (z7G w t i) i=some (e.2,z7G w t (i+1)):=by
 have hlt:i<(ordE w S es ep).size:=by rw[z7O]; exact hi
 refine⟨(ordE w S es ep)[i],getElem?_pos _ i hlt,?_⟩;unfold nxt z7G
 by_cases c:w.params.followText "set-order"=true
 ·simp only[if_pos c];have e1:ordE w S es ep=pickOrder (w.params.setOrder S ep) es:=by unfold ordE; rw[if_pos c]
  rw[<- e1,getElem?_pos _ i hlt]
  rfl
 ·simp only[if_neg c];have e1:ordE w S es ep=es:=by unfold ordE; rw[if_neg c]
  rw[z9d hr (by omega),getElem?_pos es i hi,zmr (xs:=t.place) (by omega)];simp only[Nat.add_sub_cancel,if_neg (Nat.succ_ne_zero i)]
  congr 1
  simp only[e1]
def zil {w:World}{S:Addr}{es:Array (Int × Value)}{ep:Nat}{t:SetTable}(hr:Rise t.place)(hsz:t.place.size=es.size):nxt w S es ep t (z7G w t es.size) es.size=none:=by
 unfold nxt z7G
 by_cases c:w.params.followText "set-order"=true
 ·simp only[if_pos c];have e1:ordE w S es ep=pickOrder (w.params.setOrder S ep) es:=by unfold ordE; rw[if_pos c]
  rw[<- e1,getElem?_neg _ _ (by rw[z7O]; omega)]
  rfl
 ·simp only[if_neg c];rw[z9d hr (by omega),getElem?_neg es es.size (by omega)]
def z9U:entryFor table "set_iterator.__iter__"=some Builtin.«dict_keyiterator.__iter__»:=
 entryFor_alias (id':="dict_keyiterator.__iter__") (by kernel_rfl) rfl (by decide +kernel) (by kernel_rfl)
def zaV (a:Value):argsOk "set_iterator.__iter__" ⟨[a],[]⟩:=by unfold argsOk; kernel_rfl
section
variable {prog:Program}{w:World}{A:Around}{E:Value->Shared->Prop}{s:Shared}
def z7A {it S:Addr}{slot i n ep:Nat}{Q:Value->Shared->Prop}(hit:z3X s.heap it S slot i n ep)(h:Q (.ref it) s):wpAny (model prog w) A (pyIter (.ref it)) Q E s:=by
 refine wpAny_pyIter_slot hit.typeIs z7a (wpAny_call_entry z7a hit.typeIs z9U ?_ (zaV _));show wpAny _ _ (ret (.ref it)) _ _ s;exact wpAny_pure ⟨_,rfl,"set_iterator",_,hit.typeIs,z2p.lookup,h⟩
def Walks.set (hh:A.handled=none)(I S:Addr)(hne:S≠I){o:Obj}{es:Array (Int × Value)}{ep:Nat}{t:SetTable}(hd:o.data = .set es ep t)(hf:t.fits es.size=true)(hp:t.plain=true)(hl:t.led = !w.params.followText "set-order")(hr:Rise t.place)(hsz:t.place.size=es.size):
  Walks prog w A I [I,S] [I] es.size (λi v=>∃e,(ordE w S es ep)[i]? = some e/\v=e.2) (λi h=>z3X h I S (z7G w t i) i es.size ep/\h.get? S=some o) where
 sub:=λb hb=>by simp at hb; simp[hb]
 frame:=λi h h' st hk=>⟨let ⟨o',g1,g2⟩:=st.1; ⟨o',hk I (by simp) _ g1,g2⟩,hk S (by simp) _ st.2⟩
 item:=λi s Q E hi st hQ=>by
  obtain⟨e,e1,e2⟩:=zg4 (w:=w) (S:=S) (ep:=ep) hr hsz hi;refine z4X st.1 st.2 hd hf hp hl e2 λh' hit' hs' =>?_;exact hQ _ h' s.toks ⟨e,e1,rfl⟩ ⟨hit',hs'.extBut S _ hne st.2⟩ λb o hb e=>hs'.extBut b o (λh=>hb (by simp[h])) e
 done:=λs Q E st hQ=>z5D hh st.1 st.2 hd hf hp hl (zil hr hsz) λh' he'=>hQ h' s.toks λb o hb e=>he' b o (λh=>hb (by simp[h])) e
 self:=λ_ _ _ _ st hQ=>z7A st.1 hQ
end
section
variable {prog:Program}{w:World}{A:Around}{E:Value->Shared->Prop}{s:Shared}
def zbD {S:Addr}{o:Obj}{es:Array (Int × Value)}{ep:Nat}{t:SetTable}{Q:List Value->Shared->Prop}(hh:A.handled=none)(ho:s.heap.get? S=some o)(hc:o.cls = .type "set")(hd:o.data = .set es ep t)(hf:t.fits es.size=true)(hp:t.plain=true)(hl:t.led = !w.params.followText "set-order")(hr:Rise t.place)(hsz:t.place.size=es.size)(hz:es.size<=sizeLine)
  (h:∀s',(∀b o,s.heap.get? b=some o->s'.heap.get? b=some o)->s'.gens=s.gens->s'.drawn=s.drawn->s'.os=s.os->s.toks<=s'.toks->Q ((ordE w S es ep).toList.map (·.2)) s'):wpAny (model prog w) A (collect (.ref S)) Q E s:=by
 have hlt:S<s.heap.objs.size:=Heap.lt_size ho;unfold collect;refine wpAny_bind (wpAny_runValue (codeAny_builtin F.entry_proto_collect ?_));rw[Around.under_plainId F.plain_proto_collect _];show wpAny _ A.in1 (newList [] >>= λl=>again (.builtin "list.__iadd__" ⟨[l,.ref S],[]⟩)) _ _ s;refine wpAny_bind (wpAny_newObj_type ?_);refine wpAny_pure ⟨plainId_quiet F.plain_list_iadd _,codeAny_builtin F.entry_list_iadd ?_⟩;rw[Around.under_plainId F.plain_list_iadd _];show wpAny _ A.in1 (Builtin.List.listExtendWith (.ref s.heap.objs.size) (.ref S) (.ref s.heap.objs.size)) _ _ _;unfold Builtin.List.listExtendWith;have ho1:(s.heap.push { cls :=.type "list",data :=.seq ([]:List Value).toArray }).get? S=some o:=Heap.get?_push_of_some _ ho;have hT1:Shared.TypeIs { s with heap:=s.heap.push { cls :=.type "list",data :=.seq ([]:List Value).toArray } } (.ref S) "set":=⟨o,ho1,hc⟩
 refine wpAny_bind (wpAny_typeOf hT1 ?_);have h1:Builtin.List.listSameRef (.ref s.heap.objs.size) (.ref S)=false:=by simp[Builtin.List.listSameRef]; exact Nat.ne_of_gt hlt
 have h2:(Value.type "set" == Value.type "list")=false:=by decide
 have h3:(Value.type "set" == Value.type "tuple")=false:=by decide
 simp only[h1,h2,h3,Bool.or_false,Bool.false_eq_true,if_false];refine wpAny_bind (z7p ho1 hc hd hf hp ?_);refine wpAny_bind (wpAny_holding ?_);generalize hH:s.heap.push { cls :=.type "list",data :=.seq ([]:List Value).toArray }=H at*;have hHs:H.objs.size=s.heap.objs.size+1:=by rw[<- hH,Heap.size_push]
 dsimp only;have hT2:Shared.TypeIs { s with heap:=H.push { cls :=.type "set_iterator",data :=.fields #[.int 0 0,.int 0 0,.ref S,.int es.size 0,.int ep 0] } } (.ref S) "set":=⟨o,Heap.get?_push_of_some _ ho1,hc⟩
 unfold Builtin.List.listLengthHint;refine wpAny_bind (wpAny_specialOf hT2 F.slot_set_len.lookup ?_)
 wp_delta
 refine wpAny_bind (wpAny_isInstance (b:=true) hT2 (by rw[isSubtype_type]; kernel_rfl) ?_);show wpAny _ A.in1 (typeOf (Value.ref S) >>= _) _ _ _;refine wpAny_bind (wpAny_typeOf hT2 ?_);refine wpAny_pure ?_;rw[if_pos (by decide)];refine wpAny_bind (wpAny_rule ?_);refine wpAny_bind ?_;show wpAny _ A.in1 (updateSeq s.heap.objs.size (·.push .none) >>= λ_=>updateSeq s.heap.objs.size (·.pop)) _ _ _;generalize hO:({ cls :=.type "set_iterator",data :=.fields #[.int 0 0,.int 0 0,.ref S,.int es.size 0,.int ep 0] }:Obj)=io at*;have hS₁:(H.push io).get? s.heap.objs.size=some { cls :=.type "list",data :=.seq ([]:List Value).toArray }:=Heap.get?_push_of_some _ (hH ▸ Heap.get?_push_size _ rfl);refine wpAny_bind (wpAny_updateSeq hS₁ rfl ?_);have hS₂:=Heap.get?_update_self (Obj.mapSeq (·.push Value.none)) hS₁ rfl;refine wpAny_updateSeq hS₂ rfl ?_;have hS₃:=Heap.get?_update_self (Obj.mapSeq (·.pop)) hS₂ rfl;have oth:∀b o,b≠s.heap.objs.size->(H.push io).get? b=some o->(((H.push io).update s.heap.objs.size (Obj.mapSeq (·.push Value.none))).update s.heap.objs.size (Obj.mapSeq (·.pop))).get? b=some o:=
  λb o hb e=>(Heap.get?_update_other _ _ (Ne.symm hb)).trans ((Heap.get?_update_other _ _ (Ne.symm hb)).trans e)
 have hneS:S≠s.heap.objs.size:=Nat.ne_of_lt hlt;have hneI:H.objs.size≠s.heap.objs.size:=by rw[hHs]; exact Nat.ne_of_gt (Nat.lt_succ_self _)
 have hSI:S≠H.objs.size:=by rw[hHs]; exact Nat.ne_of_lt (Nat.lt_succ_of_lt hlt)
 have hSf:s.heap.objs.size ∉ [H.objs.size,S]:=by
  simp only[List.mem_cons,List.not_mem_nil,or_false,not_or];exact⟨Ne.symm hneI,Ne.symm hneS⟩
 have hio:(H.push io).get? H.objs.size=some io:=Heap.get?_push_size _ (by rw[<- hO]; rfl);refine wpAny_pure ⟨plainId_quiet F.plain_extend_loop _,codeAny_extend_loopS (Walks.set (A:=A.in1) (w:=w) (prog:=prog) hh H.objs.size S hSI hd hf hp hl hr hsz).toS hz _ hSf _ es.size 0 _ _ _ rfl (Nat.zero_le _)
  ⟨⟨io,oth _ _ hneI hio,by rw[<- hO],by rw[<- hO]; simp[z7G]⟩,oth _ _ hneS (Heap.get?_push_of_some _ ho1)⟩ hS₃ (ItemsOf.nil _) λs' acc' c' hm hS' hacc =>?_⟩
 show wpAny _ A (load s.heap.objs.size >>= _) _ _ s';refine wpAny_bind (wpAny_load hS' ?_);have hq:acc'.toList=(ordE w S es ep).toList.map (·.2):=by
  apply List.ext_getElem?;intro k;rw[Array.getElem?_toList,List.getElem?_map,Array.getElem?_toList]
  by_cases hk:k<es.size
  ·have hk':k<acc'.size:=by rw[hacc.1]; exact hk
   obtain⟨e,e1,e2⟩:=hacc.2 k acc'[k] (getElem?_pos acc' k hk');rw[getElem?_pos acc' k hk',e1,e2]; rfl
  ·rw[getElem?_neg acc' k (by rw[hacc.1]; exact hk),getElem?_neg (ordE w S es ep) k (by rw[z7O]; exact hk)]; rfl
 have hfin:=h s' (λb ob e=>hm.heap b ob (λhb =>?_) (oth b ob (Nat.ne_of_lt (Heap.lt_size e)) (Heap.get?_push_of_some _ (hH ▸ Heap.get?_push_of_some _ e)))) hm.gens hm.drawn hm.os hm.toks
 ·rw[<- hq] at hfin;exact wpAny_pure hfin
 ·have hlt:=Heap.lt_size e
  rcases List.mem_cons.mp hb with h | h
  ·exact absurd hlt (h ▸ Nat.lt_irrefl _)
  ·rw[List.mem_singleton.mp h,hHs] at hlt; exact absurd hlt (Nat.not_lt.mpr (Nat.le_succ _))
end
section
variable {prog:Program}{w:World}{A:Around}{E:Value->Shared->Prop}{s:Shared}
def items_ints {k:List Int}{vs:List Value}(h:ItemsAre (intKind prog w) k vs):IntsAre vs k:=by
 induction h with
 | nil=>exact .nil
 | cons h1 _ ih=>
  obtain⟨t,rfl⟩:=Value.isInt_shape h1;exact .cons _ _ ih
def TK.ti {h:Heap}{k:List Int}{b:Addr}(x:TK prog w h k b):Tim.TI h (.ref b) k:=by
 obtain⟨o,items,n,h1,h2,h3,h4⟩:=x;exact⟨b,o,items,n,rfl,h1,h2,h3,items_ints h4⟩
def ziZ {h:Heap}{v:Value}{k k':List Int}(x:Tim.TI h v k)(y:Tim.TI h v k'):k=k':=by
 obtain⟨a,o,items,n,e,h1,h2,h3,h4⟩:=x;obtain⟨a',o',items',n',e',g1,g2,g3,g4⟩:=y;rw[e] at e'; cases e';rw[h1] at g1; cases g1;rw[h3] at g3; cases g3;exact(IntsAre.nums h4).symm.trans (IntsAre.nums g4)
def z9L (h:Heap)(v:Value):List Int:=by
 classical exact if c:∃k,Tim.TI h v k then c.choose else []
def z9K {h:Heap}{v:Value}{k:List Int}(x:Tim.TI h v k):z9L h v=k:=by
 unfold z9L;have c:∃k,Tim.TI h v k:=⟨k,x⟩
 rw[dif_pos c];exact ziZ c.choose_spec x
def zfi {M:Value->Prop}{h:Heap}{l:List Value}{m:List (List Int)}(t:Two (IsK prog w M h) l m):l.map (z9L h)=m:=by
 induction t with
 | nil=>rfl
 | cons h1 _ ih=>
  obtain⟨_,b,rfl,z⟩:=h1;rw[List.map_cons,ih,z9K (TK.ti z)]
def zcz {M:Value->Prop}{S:Addr}{kl:List (List Int)}{Q:Value->Shared->Prop}(hh:A.handled=none)(x:SetK prog w M s.heap S kl)(hne:∀k∈kl,k≠[])(hz:kl.length<64)
  (h:∀s' (out:List Value),(∀b o,s.heap.get? b=some o->s'.heap.get? b=some o)->s'.gens=s.gens->s'.drawn=s.drawn->s'.os=s.os->s.toks<=s'.toks->
   (out.map (z9L s.heap)).Perm kl->(∀v∈out,M v/\Tim.TI s.heap v (z9L s.heap v))->(out.map (z9L s.heap)).Pairwise (λa b=>HT.z3e b a=false)->
   ∀D,s.heap.get? D=none->(∃e,s'.heap.get? D=some (seqObj "list" out.toArray e))->Q (.ref D) s'):wpAny (model prog w) A (call (.builtin "sorted") [.ref S]) Q E s:=by
 obtain⟨L,hL,h2,hlen⟩:=x.len;obtain⟨o,es,ep,t,y,_⟩:=hL.ex;have esz:es.size=L.length:=by rw[y.tab.es]; simp
 have hkeys:=zfi h2;have hti:∀v∈L.map (·.2.2),Tim.TI s.heap v (z9L s.heap v):=λv hv=>by
  obtain⟨k,_,_,b,rfl,z⟩:=h2.mem_left hv;rw[z9K (TK.ti z)]; exact TK.ti z
 have hvs:((ordE w S es ep).toList.map (·.2)).Perm (L.map (·.2.2)):=by
  refine((zaj w S es ep).map (·.2)).trans ?_;rw[y.tab.es];simp only[List.map_map];exact List.Perm.refl _
 refine Tim.zb8 (key:=z9L s.heap) λE' =>?_;refine zbD (A:=A.in1) hh y.get y.ex.1 y.data y.fits y.plain y.led y.tab.riseP (by rw[y.tab.place,esz]; simp) (Nat.le_trans (show es.size<=64 by omega) (by decide)) λs1 k1 g1 g2 g3 g4 =>?_;refine⟨by rw[hvs.length_eq,List.length_map]; lia,λv hv =>?_,λout p1 p2 h' keep hD =>?_⟩
 ·have hv':=hvs.mem_iff.mp hv;refine⟨(hti v hv').keep λb o g _=>k1 b o g,hne _ ?_⟩;rw[<- hkeys];exact List.mem_map.mpr ⟨v,hv',rfl⟩
 ·refine h { s1 with heap:=h' } out (λb o g=>keep b o (k1 b o g)) g1 g2 g3 g4 ?_ (λv hv=>⟨(h2.mem_left (hvs.mem_iff.mp (p1.mem_iff.mp hv))).choose_spec.2.1,hti v (hvs.mem_iff.mp (p1.mem_iff.mp hv))⟩) (List.pairwise_map.mpr p2) s1.heap.objs.size ?_ hD
  ·rw[<- hkeys];exact(p1.trans hvs).map _
  ·cases hq:s.heap.get? s1.heap.objs.size with
   | none=>rfl
   | some o=>exact absurd (Heap.lt_size (k1 _ _ hq)) (Nat.lt_irrefl _)
end
end Tab
namespace Pu
open PySem PySem.Spec PyProof.Rows L2 Tab
def SetO (P:Program)(w:World)(a:Addr)(L:List (Rw Value))(h:Heap):Prop:=∃o es ep t,h.get? a=some o/\o.ExactSet/\o.data = .set es ep t/\TabW t es L/\L.length<=t.mask/\t.mask<=8191/\t.plain=true/\t.led=(!w.params.followText "set-order")/\L.length*5<t.mask*3
def Mem (K:W.Frag)(P:Program)(w:World)(G:Hp)(L:List (Rw Value))(kl:List (List Int)):Prop:=Two (λ(r:Rw Value) (k:List Int)=>∃b,r.2.2 = .ref b/\SqT K G b (k.map V.int)/\r.2.1=tupleKeyHash (intKind P w) k) L kl
def Tis (K:W.Frag)(G:Hp)(xs:List V)(ks:List (List Int)):Prop:=Two (λ(x:V) (k:List Int)=>∃b,x = .ref b/\SqT K G b (k.map V.int)) xs ks
def MemV (K:W.Frag)(G:Hp)(v:Value):Prop:=∃b k,v = .ref b/\SqT K G b ((k:List Int).map V.int)
def zhh {α β:Type}{R:α->β->Prop}{l:List α}{m:List β}(h:Two R l m):l.length=m.length:=by
 induction h with
 | nil=>rfl
 | cons _ _ ih=>simp[ih]
def zdn {α β γ:Type}{R:α->β->Prop}{f:γ->α}:∀{l:List γ}{m:List β},Two R (l.map f) m->Two (λc b=>R (f c) b) l m
 | [],_,h=>by cases h; exact .nil
 | c::l,_,h=>by
  cases h with
  | cons h1 h2=>exact .cons h1 (zdn h2)
def zes {α β γ:Type}{R:α->β->Prop}{f:γ->α}:∀{l:List γ}{m:List β},Two (λc b=>R (f c) b) l m->Two R (l.map f) m
 | [],_,h=>by cases h; exact .nil
 | c::l,_,h=>by
  cases h with
  | cons h1 h2=>exact .cons h1 (zes h2)
def zhj {α β:Type}{R:α->β->Prop}{S:α->Prop}{l:List α}{m:List β}(h:Two R l m)(a:∀x∈l,S x):Two (λx y=>R x y/\S x) l m:=by
 induction h with
 | nil=>exact .nil
 | cons h1 _ ih=>exact .cons ⟨h1,a _ List.mem_cons_self⟩ (ih λx hx=>a x (List.mem_cons_of_mem _ hx))
def zfk {K:W.Frag}{G:Hp}{R:Value->List Int->Prop}(hR:∀b k,SqT K G b (k.map V.int)->R (.ref b) k){xs:List V}{ks:List (List Int)}(t:Tis K G xs ks):∀{its:List Value},Vals xs its->Two R its ks:=by
 unfold Tis at t
 induction t with
 | nil=>intro its r; cases r; exact .nil
 | cons h1 _ ih=>
  intro its r;obtain⟨b,rfl,hb⟩:=h1
  cases r with
  | cons r1 r2=>
   cases r1
   exact .cons (hR b _ hb) (ih r2)
def z3C.there {P:Program}{w:World}{H:Hp}{h:Heap}{a:Addr}{o:HO}(x:z3C P w H h a o):∃u,h.get? a=some u:=by
 cases o with
 | lst xs=>obtain⟨_,_,_,_,e⟩:=x; exact⟨_,e⟩
 | tup xs=>obtain⟨_,_,_,⟨o,e,_⟩,_⟩:=x; exact⟨_,e⟩
 | dK kvs=>obtain⟨_,_,_,_,o,_,_,e,_⟩:=x; exact⟨_,e⟩
 | dT kvs=>obtain⟨_,_,_,_,o,_,_,e,_⟩:=x; exact⟨_,e⟩
 | set S n=>obtain⟨o,_,_,_,e,_⟩:=x; exact⟨_,e⟩
 | ins C dx fs=>obtain⟨_,_,_,e,_⟩:=x; exact⟨_,e⟩
 | own y=>exact x
 | xd fs=>obtain⟨_,⟨_,_,_,e,_⟩,_⟩:=x; exact⟨_,e⟩
 | rng lo hi=>obtain⟨_,_,_,e⟩:=x; exact⟨_,e⟩
 | frz ob u=>obtain⟨e,_⟩:=x; exact⟨_,e⟩
 | tbl ps=>exact⟨_,(show h.get? a=some _ from x)⟩
 | met f y=>exact⟨_,(show h.get? a=some _ from x)⟩
 | ext φ=>obtain⟨_,z,_⟩:=x; exact z
def _root_.L2.HOk.none_of {P:Program}{w:World}{H:Hp}{h:Heap}{a:Addr}(x:HOk P w H h)(e:h.get? a=none):H a=none:=by
 cases q:H a with
 | none=>rfl
 | some u=>
  obtain⟨v,z⟩:=z3C.there (x a u q);rw[e] at z; cases z
def _root_.L2.Inv.laid' {X:Cx}{H:Hp}{pins:List (Addr × Obj)}{σ:L2.St}{s:Shared}{h':Heap}{a:Addr}{o:HO}{t':Nat}(I:Inv X pins σ H s)(k:∀b u,s.heap.get? b=some u->h'.get? b=some u)(hp:s.heap.get? a=none)(new:z3C X.prog X.w (upd H a o) h' a o):
  Inv X pins σ (upd H a o) { s with heap:=h',toks:=t' }:=by
 have hn:=I.hok.none_of hp;have ne:∀b u,s.heap.get? b=some u->b≠a:=λb u e z=>by rw[z,hp] at e; cases e
 have neH:∀b u,H b=some u->b≠a:=λb u e z=>by rw[z,hn] at e; cases e
 refine I.un ⟨λb o e q _ _=>k b o e,λb o e q _ _=>⟨o.slots,k b o e⟩,λb o e q _=>by rw[z0o (ne b o e)]; exact q,λb o e _=>⟨o,k b o e⟩,λb xs e=>by rw[z0o (neH b _ e)]; exact e,λb o u e=>by rw[z0o (neH b _ e)]; exact e,λb ps e=>⟨#[],by rw[z0o (neH b _ e),Array.append_empty]; exact e⟩⟩ λb u e =>?_
 by_cases hb:b=a
 ·subst hb; rw[z0A] at e; cases e; exact new
 ·rw[z0o hb] at e;exact(I.hok b u e).stay (λc v _ q=>k c v q) (λc q=>by rw[z0o (neH c _ q)]; exact q) λc xs q=>by rw[z0o (neH c _ q)]; exact q
section
variable {X:Cx}{G H:Hp}{pins:List (Addr × Obj)}{σ:L2.St}{s:Shared}
def z96 {P:Program}{w:World}:∀{ns:List Int}{us:List Value},Vals (ns.map V.int) us->ItemsAre (intKind P w) ns us
 | [],_,r=>by cases r; exact .nil
 | n::ns,_,r=>by
  cases r with
  | cons r1 r2=>
   obtain⟨t,rfl⟩:=r1;exact .cons (by simp[intKind,Value.isInt]) (z96 r2)
def zdq {b:Addr}{k:List Int}(I:Inv X pins σ H s)(g:Same G H)(h:SqT X.K G b (k.map V.int)):TK X.prog X.w s.heap k b:=by
 obtain⟨its,r,⟨o,ho,hc,n,hd⟩,_⟩:=I.tuple (z1r g h);exact⟨o,its.toArray,n,ho,hc,hd,by simpa using z96 r⟩
def zhu {p:Addr}{L:List (Rw Value)}{kl:List (List Int)}(I:Inv X pins σ H s)(g:Same G H)(hp:H p=some (.ext (SetO X.prog X.w p L)))(hm:Mem X.K X.prog X.w G L kl)(nd:kl.Nodup):SetK X.prog X.w (MemV X.K G) s.heap p kl:=by
 obtain⟨o,es,ep,t,h1,h2,h3,h4,h5,h6,h7,h8,h9⟩:SetO X.prog X.w p L s.heap:=(show z3C X.prog X.w H s.heap p (.ext (SetO X.prog X.w p L)) from I.hok p _ hp).1;refine⟨⟨L,⟨o,es,ep,t,⟨h1,h2,h3,h4,h5,h6,h7,h8,λr hr =>?_⟩,h9⟩,zes (hm.imp λr k ⟨b,e,hb,_⟩=>⟨⟨b,k,e,hb⟩,b,e,zdq I g hb⟩)⟩,nd⟩;obtain⟨k,_,b,e,hb,hh⟩:=Two.mem_left hm hr;exact⟨b,k,e,zdq I g hb,hh⟩
def rSet (K:W.Frag)(P:Program)(w:World):List V->Hp->VK->Prop:=λvs H Q=>∃G a xs ks,vs=[.ref a]/\Same G H/\SqT K G a xs/\Tis K G xs ks/\xs.length<=63/\
 ∀p L kl,H p=none->Mem K P w G L kl->kl.Nodup->(∀x,x∈kl↔x∈ks)->Q (.ref p) (upd H p (.ext (SetO P w p L)))
def zgq (hc:X.calm=true)(hu:X.A.units+64<cLine):z19 X (.type "set") (rSet X.K X.prog X.w):=by
 intro pins s σ H xs us Q I rv ⟨G,a,ys,ks,e,g,hS,ht,hl,q⟩;subst e;obtain⟨u,rfl,rx⟩:=z4V rv
 cases rx
 have hh:X.A.handled=none:=I.ok.hd hc;have isk:∀{its:List Value},Vals ys its->Two (IsK X.prog X.w (MemV X.K G) s.heap) its ks:=λr=>zfk (λb k hb=>⟨⟨b,k,rfl,hb⟩,b,rfl,zdq I g hb⟩) ht r;have fin:∀(h':Heap) (tk:Nat) (kl:List (List Int)),SetK X.prog X.w (MemV X.K G) h' s.heap.objs.size kl->(∀x,x∈kl↔x∈ks)->(∀b o,b<s.heap.objs.size->s.heap.get? b=some o->h'.get? b=some o)->EP X pins σ Q (.ref s.heap.objs.size) { s with heap:=h',toks:=tk }:=by
  intro h' tk kl hK hm keep;have keep':∀b o,s.heap.get? b=some o->h'.get? b=some o:=λb o e=>keep b o (Heap.lt_size e) e;obtain⟨L,⟨o,es,ep,t,y,hf⟩,h2⟩:=hK.ex;have so:SetO X.prog X.w s.heap.objs.size L h':=⟨o,es,ep,t,y.get,y.ex,y.data,y.tab,y.room,y.small,y.plain,y.led,hf⟩
  refine⟨.ref s.heap.objs.size,_,I.laid (o :=.ext (SetO X.prog X.w s.heap.objs.size L)) (t':=tk) keep' (Nat.le_refl _) ⟨so,⟨o,y.get⟩,λh1 h2 ⟨o,es,ep,t,z,r⟩ st=>⟨o,es,ep,t,st _ z,r⟩⟩,rfl,q _ L kl (I.hok.fresh (Nat.le_refl _)) ?_ hK.nd hm⟩;refine(zhj (zdn h2) (S:=λr=>∃b k,r.2.2 = .ref b/\TK X.prog X.w h' k b/\r.2.1=tupleKeyHash (intKind X.prog X.w) k) y.key).imp λr k ⟨⟨⟨b,k1,e1,hb⟩,b2,e2,z2⟩,b3,k3,e3,z3,hk⟩ =>?_;rw[e1] at e2 e3
  cases e2; cases e3
  have z1:TK X.prog X.w h' k1 b:=by
   obtain⟨o,it,n,w1,w2⟩:=zdq I g hb;exact⟨o,it,n,keep' _ _ w1,w2⟩
  have:=z1.inj z2;subst this;have:=z1.inj z3;subst this;exact⟨b,e1,hb,hk⟩
 ·obtain⟨its,r,pl,hz⟩:=I.tuple (z1r g hS);have hlen:=r.length;exact z8S (M:=MemV X.K G) (ks:=ks) hh (by lia) pl (by simpa using isk r) (by simp only[List.size_toArray] <;> lia) λh' tk kl hK _ hm keep=>fin h' tk kl hK hm keep
def zjt (K:W.Frag)(P:Program)(w:World):List V->Hp->VK->Prop:=λvs H Q=>∃G p L kl,vs=[.ref p]/\Same G H/\H p=some (.ext (SetO P w p L))/\Mem K P w G L kl/\kl.Nodup/\(∀k∈kl,k≠[])/\kl.length<=63/\
 ∀D out kl',H D=none->Tis K G out kl'->kl'.Perm kl->kl'.Pairwise (λa b=>HT.z3e b a=false)->Q (.ref D) (upd H D (.lst out))
def zda (hc:X.calm=true):z19 X (.builtin "sorted") (zjt X.K X.prog X.w):=by
 intro pins s σ H xs us Q I rv ⟨G,p,L,kl,e,g,hp,hm,nd,hne,hz,q⟩;subst e;obtain⟨u,rfl,rx⟩:=z4V rv
 cases rx
 have hn:=z7W;have hle:(63:Nat)<=sizeLine:=by decide
 refine zcz (M:=MemV X.K G) (I.ok.hd hc) (zhu I g hp hm nd) hne (by lia) λs' out keep g1 g2 g3 g4 perm hti pw D hD he =>?_;obtain⟨e,he⟩:=he;obtain⟨h',g',d',tk',os'⟩:=s';dsimp only at g1 g2 g3 keep he;subst g1; subst g2; subst g3;have hti':∀v∈out,MemV X.K G v:=λv hv=>(hti v hv).1;have hx:∃ys:List V,Vals ys out/\Tis X.K G ys (out.map (z9L s.heap)):=by
  clear perm pw he hti
  induction out with
  | nil=>exact⟨[],.nil,.nil⟩
  | cons v out ih=>
   obtain⟨ys,y1,y2⟩:=ih λv hv=>hti' v (List.mem_cons_of_mem _ hv);obtain⟨b,k,rfl,hb⟩:=hti' v List.mem_cons_self;refine⟨.ref b::ys,.cons rfl y1,.cons ⟨b,rfl,?_⟩ y2⟩;rw[z9K (TK.ti (zdq I g hb))];exact hb
 obtain⟨ys,y1,y2⟩:=hx;have hl:ys.length=kl.length:=by rw[<- perm.length_eq,List.length_map,y1.length]
 exact⟨.ref D,upd H D (.lst ys),I.laid' (o :=.lst ys) (t':=tk') keep hD ⟨by lia,out,e,y1,he⟩,rfl,q D ys _ (I.hok.none_of hD) y2 perm pw⟩
end
abbrev tupD (k:List Int):D :=.tup (k.map .int)
structure Rows (ks kl:List (List Int)):Prop where
 up:kl.Pairwise (λa b=>HT.z3e a b=true)
 mem:∀x,x∈kl↔x∈ks
def zdF (d:D)(P:List (List Int)->Prop):Prop:=match d with
 | .tup l=>∃ks,l=ks.map tupD/\l.length<=63/\P ks
 | _=>False
def zcB {d:D}{P P':List (List Int)->Prop}(m:∀k,P k->P' k)(h:zdF d P):zdF d P':=by
 cases d with
 | tup l=>obtain⟨ks,a,b,c⟩:=h; exact⟨ks,a,b,m _ c⟩
 | _=>exact h.elim
def zgg (d:D)(Q:DK):Prop:=zdF d λks=>(∀k∈ks,k≠[])/\∀kl,Rows ks kl->Q (.lst (kl.map tupD))
def z7v:Fn:=fn1 zgg λd Q Q' m h=>zcB (λks q=>⟨q.1,λkl z=>m _ (q.2 kl z)⟩) h
section
variable {X:Cx}{K:W.Frag}{mg:Str->Option Value}{E:XK}{G H:Hp}
def zdN:∀{ks:List (List Int)}{xs:List V},RDs K mg G (ks.map tupD) xs->Tis K G xs ks
 | [],_,h=>by rw[List.map_nil,RDs] at h; subst h; exact .nil
 | k::ks,_,h=>by
  rw[List.map_cons,RDs] at h;obtain⟨x,r,rfl,h1,h2⟩:=h;obtain⟨a,ys,rfl,h3,h4⟩:=z3b h1;rw[z7t k h4] at h3;exact .cons ⟨a,rfl,h3⟩ (zdN h2)
def zhl:∀{ks:List (List Int)}{xs:List V},Tis K G xs ks->RDs K mg G (ks.map tupD) xs:=by
 intro ks xs h;unfold Tis at h
 induction h with
 | nil=>exact RDs.nil
 | cons h1 _ ih=>
  obtain⟨b,rfl,hb⟩:=h1;exact RDs.cons (RD.ofT hb (z9N _)) ih
def zfs {d:D}{v:V}{P:List (List Int)->Prop}(r:RD K mg G d v)(h:zdF d P):∃a xs ks,v = .ref a/\SqT K G a xs/\Tis K G xs ks/\xs.length<=63/\P ks:=by
 cases d with
 | tup l=>
  obtain⟨ks,rfl,hl,q⟩:=h;obtain⟨a,xs,rfl,h1,h2⟩:=z3b r;exact⟨a,xs,ks,rfl,h1,zdN h2,by rw[h2.len]; exact hl,q⟩
 | _=>exact h.elim
def z90 {kl:List (List Int)}(nd:kl.Nodup)(h:kl.Pairwise (λa b=>HT.z3e b a=false)):kl.Pairwise (λa b=>HT.z3e a b=true):=by
 induction kl with
 | nil=>exact .nil
 | cons a l ih=>
  rw[List.pairwise_cons] at h ⊢;rw[List.nodup_cons] at nd;refine⟨λb hb =>?_,ih nd.2 h.2⟩
  cases z:HT.z3e a b with
  | true=>rfl
  | false=>
   have e:a=b:=Tim.zbr a b z (h.1 b hb);exact absurd (e ▸ hb) nd.1
def z3L {α:Type}[DecidableEq α]:∀{l m:List α},l.Nodup->(∀x∈l,x∈m)->l.length<=m.length
 | [],_,_,_=>Nat.zero_le _
 | a::l,m,nd,h=>by
  rw[List.nodup_cons] at nd;have ha:=h a List.mem_cons_self;have:=z3L (m:=m.erase a) nd.2 λx hx=>(List.mem_erase_of_ne (λ(e:x=a)=>nd.1 (by rw[<- e]; exact hx))).mpr (h x (List.mem_cons_of_mem _ hx));rw[List.length_erase_of_mem ha] at this;have:=List.length_pos_of_mem ha;simp only[List.length_cons];lia
def zgb {ks kl:List (List Int)}(nd:kl.Nodup)(h:∀x,x∈kl↔x∈ks):kl.length<=ks.length:=z3L nd λx hx=>(h x).mp hx
def z92 {e:Expr}{x:Ex}{p1 p2 p3 p4:Pos}(hu:X.A.units+64<cLine)(hc:X.calm=true)(hg:Gl X "sorted")(hm:X.mg "sorted"=none)(hg2:Gl X "set")(hm2:X.mg "set"=none)(ha:QXA X E [e] [x])
  (hs1:starEach [e] X.env=(false,eval e X.env)::starEach [] X.env:=by rfl) (hs2:starEach [.Call (.Name "set" p2) [e] [] p3] X.env=(false,eval (.Call (.Name "set" p2) [e] [] p3) X.env)::starEach [] X.env:=by rfl):QF X E (.Call (.Name "sorted" p1) [.Call (.Name "set" p2) [e] [] p3] [] p4) (.op z7v [x]):=
 QE.imp (z9r (zda hc) hg hm (by rfl) (z9s (z4v (zgq hc hu) hg2 hm2 (by rfl) ha (by decide) (by decide) hs1 (by rfl)) zbY hs2) (by decide) (by decide) hs2 (by rfl)) λσ H Q ⟨G,ρ,Q0,X0,hs,ab,hr,hk,hx⟩=>by
  refine⟨G,ρ,λds=>z7v.run ds Q0 X0,X0,hs,ab,hr,λds vs G1 H1 q g1 g2 g3 rds =>?_,hx⟩;obtain⟨d,rfl,q'⟩:=z2l q;obtain⟨v,rfl,rd⟩:=rds1 rds;obtain⟨a,xs,ks,rfl,h1,h2,h3,hne,h4⟩:=zfs rd q';refine⟨G1,a,xs,ks,rfl,g2,h1,h2,h3,λp L kl hp hM nd hmem =>?_⟩;have s1:Same H1 (upd H1 p (.ext (SetO X.prog X.w p L))):=z0G hp _;have hlen:ks.length=xs.length:=(zhh h2).symm;refine⟨G1,p,L,kl,rfl,z0a g2 s1,z0A,hM,nd,λk hk=>hne k ((hmem k).mp hk),by have:=zgb nd hmem; lia,λD out kl' hD ht pm pw =>?_⟩;have hD1:H1 D=none:=by
   cases z:H1 D with
   | none=>rfl
   | some o=>rw[s1 D o z] at hD; cases hD
  have hD0:H D=none:=by
   cases z:H D with
   | none=>rfl
   | some o=>rw[g3 D o z] at hD1; cases hD1
  have s2:=z0G (H:=upd H1 p (.ext (SetO X.prog X.w p L))) hD (.lst out);refine hk (.lst (kl'.map tupD)) D G1 _ (h4 kl' ⟨z90 (pm.nodup_iff.mpr nd) pw,λz=>by rw[pm.mem_iff]; exact hmem z⟩) g1 (z0a g2 (z0a s1 s2)) (z0a g3 (z0a s1 s2)) hD0 (z1z g2 hD1) ⟨out,z0A,zhl ht⟩
end
end Pu
namespace Rev
open PySem PyProof.Rows
def zkJ:typeLookup (.type "list_reverseiterator") "__len__"=pure none:=by
 rw[typeLookup_type,builtinLookup_eq_fast]
 kernel_rfl
def zgc:typeLookup (.type "list_reverseiterator") "__length_hint__"=pure (some (.builtin "list_reverseiterator.__length_hint__")):=by
 rw[typeLookup_type,builtinLookup_eq_fast]
 kernel_rfl
section
variable {prog:Program}{w:World}{A:Around}{E:Value->Shared->Prop}{s:Shared}{R:Result->Shared->Prop}{r:Addr}
def zix {Q:Bool->Shared->Prop}(ty:s.TypeIs (.ref r) "list_reverseiterator")(q:Q false s):wpAny (model prog w) A (Builtin.List.listLengthHint (.ref r)) Q E s:=by
 unfold Builtin.List.listLengthHint;refine wpAny_bind (wpAny_specialOf ty zkJ ?_);show wpAny _ A (specialOf (.ref r) (Str.ofString "__length_hint__") >>= _) Q E s;refine wpAny_bind (wpAny_specialOf ty zgc ?_);generalize hn:("list_reverseiterator.__length_hint__":String)=n0
 wp_delta
 rw[show splitId n0=some ("list_reverseiterator","__length_hint__") from by rw[<- hn]; decide +kernel];refine wpAny_bind (wpAny_isInstance (b:=true) ty (by rw[isSubtype_type]; kernel_rfl) ?_);subst hn;exact wpAny_pure q
def zd6 {fp wr:List Addr}{G:Array GenState->Array GenState->Prop}{n:Nat}{P:Nat->Value->Prop}{St:Nat->Shared->Prop}(W:WalksS prog w A.in1 r fp wr G n P St)(ty:∀i s,St i s->s.TypeIs (.ref r) "list_reverseiterator")(S:Addr)(res:Value)(c0:Nat)(st:St 0 s)(out:S ∉ fp)(mine:r∈fp)(hz:n<=sizeLine)
  (at_:s.heap.get? S=some { cls :=.type "list",data :=.seq #[] c0 }) (q:∀s' acc c,Moved (S::wr) G s s'->s'.heap.get? S=some { cls :=.type "list",dict:=none,data :=.seq acc c,slots := #[] }->ItemsOf P acc n->R (.ok (.ret res)) s'):
  wpAny (model prog w) A.in1 (Builtin.List.listExtendWith (.ref S) (.ref r) res) (λfin s'=>match fin with | .done f=>R (.ok f) s' | .again c'=>c'.quiet=true/\codeAny (model prog w) A c' R s') (λe s'=>R (.error e) s') s:=by
 have ne:S≠r:=λe=>out (by rw[e]; exact mine);unfold Builtin.List.listExtendWith;refine wpAny_bind (wpAny_typeOf (ty 0 s st) ?_);have k1:Builtin.List.listSameRef (.ref S) (.ref r)=false:=by simp[Builtin.List.listSameRef,ne]
 have k2:(Value.type "list_reverseiterator" == .type "list")=false:=by decide
 have k3:(Value.type "list_reverseiterator" == .type "tuple")=false:=by decide
 rw[k1,k2,k3];refine wpAny_bind (W.self 0 s _ _ st (wpAny_bind (wpAny_holding (zix (ty 0 s st) ?_))));exact wpAny_pure ⟨plainId_quiet F.plain_extend_loop _,codeAny_extend_loopS W hz S out res n 0 s #[] c0 rfl (Nat.zero_le _) st at_ (ItemsOf.nil P) q⟩
def zgd {fp wr:List Addr}{G:Array GenState->Array GenState->Prop}{n:Nat}{P:Nat->Value->Prop}{St:Nat->Shared->Prop}(W:WalksS prog w A.in1 r fp wr G n P St)(ty:∀i s,St i s->s.TypeIs (.ref r) "list_reverseiterator")(S:Addr)(st:St 0 s)(out:S ∉ fp)(mine:r∈fp)(hz:n<=sizeLine)
  (at_:s.heap.get? S=some { cls :=.type "list",data :=.seq #[] }) (q:∀s' acc c,Moved (S::wr) G s s'->s'.heap.get? S=some { cls :=.type "list",dict:=none,data :=.seq acc c,slots := #[] }->ItemsOf P acc n->R (.ok (.ret .none)) s'):
  wpAny (model prog w) A.in1 (Builtin.«list.__init__» ⟨[.ref S,.ref r],[]⟩) (λfin s'=>match fin with | .done f=>R (.ok f) s' | .again c'=>c'.quiet=true/\codeAny (model prog w) A c' R s') (λe s'=>R (.error e) s') s:=by
 show wpAny _ A.in1 (Builtin.List.listItems (.ref S) >>= λold=>Builtin.List.listUpdate (.ref S) (λ_ => #[]) >>= λ_=>letGo old.toList.reverse >>= λ_=>Builtin.List.listExtendWith (.ref S) (.ref r) .none) _ _ s;unfold Builtin.List.listItems;refine wpAny_bind (wpAny_bind (wpAny_seqItems at_ rfl (wpAny_pure ?_)));refine wpAny_bind (m:=updateSeq S λ_ => #[]) (wpAny_updateSeq at_ rfl (wpAny_bind (wpAny_letGo ?_)));have keep:∀b o,b≠S->s.heap.get? b=some o->(s.heap.update S (Obj.mapSeq λ_=>(#[]:Array Value))).get? b=some o:=λb o z e=>by rw[Heap.get?_update_other _ _ (Ne.symm z)]; exact e
 refine zd6 W ty S .none _ (W.frame 0 s _ s.toks st (Nat.le_refl _) λb hb o e=>keep b o (λz=>out (z ▸ hb)) e) out mine hz (Heap.get?_update_self _ at_ rfl) λs' acc c mv e it=>q s' acc c ?_ e it;exact Moved.trans W.gtrans ((Moved.refl W.grefl).then_heap (Nat.le_refl _) λb o hb e=>keep b o (λz=>hb (by rw[z]; exact List.mem_cons_self)) e) mv
end
section
variable {prog:Program}{w:World}{A:Around}{E:Value->Shared->Prop}{R:Result->Shared->Prop}{r:Addr}{fp wr:List Addr}{G:Array GenState->Array GenState->Prop}{n:Nat}{P:Nat->Value->Prop}{St:Nat->Shared->Prop}{bt:Nat->Nat->Bool}{Ok:Shared->Prop}
def ziJ (prog:Program)(w:World)(A:Around)(Ok:Shared->Prop)(P:Nat->Value->Prop)(bt:Nat->Nat->Bool):Prop:=∀(i j:Nat) (x y:Value) (s:Shared) (Q:Value->Shared->Prop) (E:Value->Shared->Prop),Ok s->P i x->P j y->Q (.bool (bt i j)) s->wpAny (model prog w) A (richCompare .Lt x y) Q E s
def zkM (W:WalksS prog w A.in1 r fp wr G n P St)(cmp:ziJ prog w A.in1 Ok P bt)(S:Addr)(out:S ∉ fp)(stay:∀s s',Ok s->Moved (S::wr) G s s'->Ok s'):
  ∀(left at_:Nat) (s:Shared) (best:Value) (c:Nat),n=at_+1+left->St (at_+1) s->Ok s->P (argBest bt at_) best->s.heap.get? S=some { cls :=.type "list",dict:=none,data :=.seq #[best,best] c,slots := #[] }->
   (∀v s',P (argBest bt (n - 1)) v->Moved (S::wr) G s s'->R (.ok (.ret v)) s')->codeAny (model prog w) A (.builtin "min.loop" ⟨[.ref r,.none,.ref S],[]⟩) R s:=by
 have outW:S ∉ wr:=λz=>out (W.sub S z);have more:∀b∈wr,b∈S::wr:=λb z=>List.mem_cons_of_mem S z;have apart:∀{b:Addr},b ∉ S::wr->S≠b:=λz e=>z (by subst e; exact List.mem_cons_self);have nm:(toString "min"++toString ".loop":String)="min.loop":=by decide
 intro left
 induction left with
 | zero=>
  intro at_ s best c hn st ok hb hS fin;refine codeAny_builtin F.entry_min_loop ?_;rw[Around.under_plainId F.plain_min_loop _];refine wpAny_bind (m:=seqItems? (.ref S)) (wpAny_seqItems hS rfl ?_);refine wpAny_bind (m:=tryCatch (pyNext (.ref r)) _) (wpAny_tryCatch (W.done s _ _ (by rw[hn]; exact st) λs1 mv =>?_));have hS1:=mv.heap S _ outW hS;refine wpAny_bind (m:=updateSeq S λ_ => #[]) (wpAny_updateSeq hS1 rfl (wpAny_bind (wpAny_letGo (wpAny_pure ?_))));refine fin best _ (by rw[hn]; exact hb) ((mv.mono more).then_heap (tk:=s1.toks) (Nat.le_refl _) λb o z e =>?_);rw[Heap.get?_update_other _ _ (apart z)]; exact e
 | succ left ih=>
  intro at_ s best c hn st ok hb hS fin;refine codeAny_builtin F.entry_min_loop ?_;rw[Around.under_plainId F.plain_min_loop _];refine wpAny_bind (m:=seqItems? (.ref S)) (wpAny_seqItems hS rfl ?_);refine wpAny_bind (m:=tryCatch (pyNext (.ref r)) _) (wpAny_tryCatch (W.item (at_+1) s _ _ (by lia) st λv s1 pv st1 mv =>?_));have hS1:=mv.heap S _ outW hS;have mv1:=mv.mono more;have ok1:Ok s1:=stay s s1 ok mv1;show wpAny _ A.in1 (tryCatch (holding [v,v] (richCompare .Lt v best >>= _)) _ >>= _) _ _ s1;refine wpAny_bind (wpAny_tryCatch (wpAny_holding (wpAny_bind (cmp (at_+1) (argBest bt at_) v best s1 _ _ ok1 pv hb ?_))));refine wpAny_bind (wpAny_holding (wpAny_truthy_bool (wpAny_bind (wpAny_letGo (wpAny_pure ?_)))));have step:∀(s2:Shared) (u:Value) (c2:Nat),Moved (S::wr) G s s2->St (at_+2) s2->P (argBest bt (at_+1)) u->s2.heap.get? S=some { cls :=.type "list",dict:=none,data :=.seq #[u,u] c2,slots := #[] }->codeAny (model prog w) A (.builtin "min.loop" ⟨[.ref r,.none,.ref S],[]⟩) R s2:=λs2 u c2 mv2 st2 pu hS2=>
   ih (at_+1) s2 u c2 (by lia) st2 (stay s s2 ok mv2) pu hS2 λx s3 px mv3=>fin x s3 px (Moved.trans W.gtrans mv2 mv3)
  cases hq:bt (at_+1) (argBest bt at_) with
  | true=>
   rw[if_pos rfl];refine wpAny_bind (wpAny_updateSeq hS1 rfl (wpAny_bind (wpAny_letGo ?_)));rw[nm];refine wpAny_pure ⟨plainId_quiet F.plain_min_loop _,step _ v _ (mv1.then_heap (Nat.le_refl _) λb o z e =>?_) (W.frame _ s1 _ s1.toks st1 (Nat.le_refl _) λb z o e =>?_) (by rw[argBest,hq]; exact pv) (Heap.get?_update_self _ hS1 rfl)⟩
   ·rw[Heap.get?_update_other _ _ (apart z)]; exact e
   ·rw[Heap.get?_update_other _ _ λy:S=b=>out (by rw[y]; exact z)]; exact e
  | false=>
   rw[if_neg (by decide)];refine wpAny_bind (wpAny_letGo ?_);rw[nm];exact wpAny_pure ⟨plainId_quiet F.plain_min_loop _,step s1 best c mv1 st1 (by rw[argBest,hq]; exact hb) hS1⟩
def zer (W:WalksS prog w A.in1 r fp wr G n P St)(cmp:ziJ prog w A.in1 Ok P bt)(S:Addr)(out:S ∉ fp)(stay:∀s s',Ok s->Moved (S::wr) G s s'->Ok s')(hn:0<n){s:Shared}{c:Nat}(st:St 0 s)(ok:Ok s)
  (hS:s.heap.get? S=some { cls :=.type "list",dict:=none,data :=.seq #[] c,slots := #[] }) (fin:∀v s',P (argBest bt (n - 1)) v->Moved (S::wr) G s s'->R (.ok (.ret v)) s'):codeAny (model prog w) A (.builtin "min.loop" ⟨[.ref r,.none,.ref S],[]⟩) R s:=by
 have outW:S ∉ wr:=λz=>out (W.sub S z);have apart:∀{b:Addr},b ∉ S::wr->S≠b:=λz e=>z (by subst e; exact List.mem_cons_self);have nm:(toString "min"++toString ".loop":String)="min.loop":=by decide
 refine codeAny_builtin F.entry_min_loop ?_;rw[Around.under_plainId F.plain_min_loop _];refine wpAny_bind (m:=seqItems? (.ref S)) (wpAny_seqItems hS rfl ?_);refine wpAny_bind (m:=tryCatch (pyNext (.ref r)) _) (wpAny_tryCatch (W.item 0 s _ _ hn st λv s1 pv st1 mv =>?_));have hS1:=mv.heap S _ outW hS;have mv1:=mv.mono λb z=>List.mem_cons_of_mem S z;refine wpAny_bind (m:=updateSeq S λ_ => #[v,v]) (wpAny_updateSeq hS1 rfl ?_);rw[nm];have mv2:Moved (S::wr) G s { s1 with heap:=s1.heap.update S (Obj.mapSeq λ_ => #[v,v]) }:=mv1.then_heap (Nat.le_refl _) λb o z e=>by rw[Heap.get?_update_other _ _ (apart z)]; exact e
 refine wpAny_pure ⟨plainId_quiet F.plain_min_loop _,zkM W cmp S out stay (n - 1) 0 _ v _ (by lia) (W.frame _ s1 _ s1.toks st1 (Nat.le_refl _) λb z o e =>?_) (stay _ _ ok mv2) pv (Heap.get?_update_self _ hS1 rfl) λx s3 px mv3=>fin x s3 px (Moved.trans W.gtrans mv2 mv3)⟩;rw[Heap.get?_update_other _ _ λy:S=b=>out (by rw[y]; exact z)]; exact e
def zg6 {x:Value}{s:Shared}{Q:Value->Shared->Prop}
  (h:wpAny (model prog w) A.in1 (pyIter x) (λit s2=>∃r fp wr G n P St bt Ok,it = .ref r/\WalksS prog w A.in1 r fp wr G n P St/\St 0 s2/\Ok s2/\(∀s s',Ok s->(∀b o,b ∉ wr->b<s2.heap.objs.size->s.heap.get? b=some o->s'.heap.get? b=some o)->Ok s')/\(∀b∈fp,b<s2.heap.objs.size)/\0<n/\ziJ prog w A.in1 Ok P bt/\
   ∀v s',P (argBest bt (n - 1)) v->Moved wr G s2 s'->Q v s') E s):wpAny (model prog w) A (call (.builtin "min") [x]) Q E s:=by
 have nm:(toString "min"++toString ".loop":String)="min.loop":=by decide
 refine call_function_tree F.kind_min F.plain_min F.entry_min (F.args_min1 _) ?_;refine wpAny_bind (m:=Builtin.Builtins.bindParams "min" ["key","default"] 0 ⟨[],[]⟩) (wpAny_of_eq (a:=[none,none]) rfl (wpAny_bind (wpAny_pure ?_)));refine wpAny_bind (wpAny_mono h (λit s2 h2 =>?_) λ_ _ e=>e);obtain⟨r,fp,wr,G,n,P,St,bt,Ok,rfl,W,st,ok,stay,low,hn,cmp,fin⟩:=h2;have out:s2.heap.objs.size ∉ fp:=λz=>Nat.lt_irrefl _ (low _ z);refine wpAny_bind (wpAny_newObj_type ?_);rw[nm];refine wpAny_pure ⟨plainId_quiet F.plain_min_loop _,zer (Ok:=Ok) W cmp s2.heap.objs.size out (λs s' o mv=>stay s s' o λb u hb hl e=>mv.heap b u (λz =>?_) e) hn (W.frame 0 s2 _ s2.toks st (Nat.le_refl _) λb _ o e=>Heap.get?_push_of_some _ e) (stay s2 _ ok λb o _ _ e=>Heap.get?_push_of_some _ e) (Heap.get?_push_size _ rfl) λv s' pv mv=>fin v s' pv (Moved.drop_new (tk:=s2.toks) mv (Nat.le_refl _))⟩
 rcases List.mem_cons.mp z with e | e
 ·exact absurd (e ▸ hl) (Nat.lt_irrefl _)
 ·exact hb e
end
end Rev
namespace Pu
open PySem PySem.Spec PyProof.Rows L2 Tab
def Ex.callv (T:Nat->Fn)(i:Nat)(es:List Ex):Ex:=⟨λρ Q Xp=>∃n,ρ.get i=some (.fn n)/\runs es ρ (λds=>(T n).run ds Q Xp) Xp,λρ Q Q' Xp X' m mx ⟨n,e,q⟩=>⟨n,e,z4u es ρ _ _ Xp X' (λds q1=>(T n).mono ds Q Q' Xp X' m mx q1) mx q⟩⟩
def FTab (P:Program)(w:World)(K:W.Frag)(mg:Str->Option Value)(base:Heap)(CX:CXT)(k:Nat)(T:Nat->Fn):Prop:=∀n f,mg (z8k n)=some (.ref f)->∃j fd ps,j<=k/\FnOk P w K mg base CX j f fd ps (spP K mg (T n))/\PySem.W.keepIn K (.ref f)=true/\z8U K fd ps []
def FTab.mk {P:Program}{w:World}{K:W.Frag}{mg:Str->Option Value}{base:Heap}{CX:CXT}{k:Nat}{T:Nat->Fn}(hz:mg ""=none)
  (h:∀n<4,∀f,mg (z8k n)=some (.ref f)->∃j fd ps,j<=k/\FnOk P w K mg base CX j f fd ps (spP K mg (T n))/\PySem.W.keepIn K (.ref f)=true/\z8U K fd ps []):FTab P w K mg base CX k T:=λn f e=>by
 by_cases hn:n<4
 ·exact h n hn f e
 ·rw[show z8k n="" from by
   match n,hn with
   | 0,h=>exact absurd (by decide) h
   | 1,h=>exact absurd (by decide) h
   | 2,h=>exact absurd (by decide) h
   | 3,h=>exact absurd (by decide) h
   | n+4,_=>rfl,hz] at e
  cases e
def _root_.L2.Cal.tab {P:Program}{w:World}{K:W.Frag}{mg:Str->Option Value}{base:Heap}{CX:CXT}{j k:Nat}{x:Str}{ps:List Str}{F:Fn}(C:Cal P w K mg base CX j x ps (spP K mg F))(h:j<=k)(f:Addr)(e:mg x=some (.ref f)):∃j fd ps,j<=k/\FnOk P w K mg base CX j f fd ps (spP K mg F)/\PySem.W.keepIn K (.ref f)=true/\z8U K fd ps []:=by
 obtain⟨f',fd,F',hm,hk,hb⟩:=C.ex;rw[hm] at e; cases e;exact⟨j,fd,ps,h,F',hk,hb⟩
section
variable {X:Cx}{E:XK}{CX:CXT}{e:Expr}{es:List Expr}{xs:List Ex}{pos:Pos}
def zj6 (X:Cx)(CX:CXT)(E:XK)(i:Nat)(t:TA):TE:=λσ H Q=>∃f fd ps sp k,σ[i]? = some (some (.ref f))/\FnOk X.prog X.w X.K X.mg X.base CX k f fd ps sp/\Room k X.A/\PySem.W.keepIn X.K (.ref f)=true/\z8U X.K fd ps []/\t σ H λvs H1=>sp (vs++[]) H1 Q E
def zfQ {x:Str}{i:Nat}{p:Pos}{t:TA}(hx:z7n CX X E)(hv:PE X (.Name x p) (tVar i))(ha:PA X (e::es) t)(he:starEach (e::es) X.env=(false,eval e X.env)::starEach es X.env:=by rfl)(hpl:(backTo pos (starEach es X.env)).any (·.1)=false:=by rfl):
  PE X (.Call (.Name x p) (e::es) [] pos) (zj6 X CX E i t):=by
 intro pins s σ H Q I ⟨f,fd,ps,sp,k,hσ,F,hr,hk,hb,h⟩;refine wpAny_Call_Name_kw (thn (hv pins s σ H (λv H1=>v = .ref f/\t σ H1 λvs H1=>sp (vs++[]) H1 Q E) I ⟨_,hσ,rfl,h⟩) λu s1 ⟨v,H1,I1,rv,ev,q⟩ =>?_);subst ev
 cases rv
 exact PySem.W.callWith_K (h₀:=X.base) I1.ok.mod.kin hk (thn (ha pos pins s1 σ H1 _ I1 q) λus s2 ⟨vs,H2,I2,r,q2⟩=>⟨I2.kIn,zgK F hr hb .nil hx I2 r q2⟩) he hpl
def zbU {T:Nat->Fn}{k:Nat}{x:Str}{i:Nat}{p:Pos}(tb:FTab X.prog X.w X.K X.mg X.base CX k T)(hr:Room k X.A)(hx:z7n CX X E)(hv:QE X (.Name x p) (tVar i))(ha:QXA X E (e::es) xs)
  (he:starEach (e::es) X.env=(false,eval e X.env)::starEach es X.env:=by rfl) (hpl:(backTo pos (starEach es X.env)).any (·.1)=false:=by rfl):QX X E (.Call (.Name x p) (e::es) [] pos) (.callv T i xs):=
 ⟨PE.imp (zfQ hx hv.p ha.p he hpl) λσ H Q ⟨G,ρ,Q0,X0,hs,ab,⟨n,hn,hr'⟩,hk,hx'⟩=>by
  obtain⟨v,h1,h2⟩:=ab i _ hn;rw[RD] at h2;obtain⟨f,rfl,hm⟩:=h2;obtain⟨j,fd,ps,hj,F,hkp,hb⟩:=tb n f hm;refine⟨f,fd,ps,_,j,h1,F,hr.mono hj,hkp,hb,G,ρ,_,X0,hs,ab,hr',λds vs G' H' q g1 g2 g3 rds =>?_,hx'⟩;show spP X.K X.mg (T n) (vs++[]) H' Q E;rw[List.append_nil];exact⟨G',ds,Q0,X0,g2,rds,q,hk.same g1 g3,hx'.same g3⟩⟩
def zgR {x:Str}{n k:Nat}{ps:List Str}{sp:Sp}{p:Pos}(hn:z8k n=x)(hg:Gl X x)(C:Cal X.prog X.w X.K X.mg X.base CX k x ps sp)(hd:(x == ("__debug__":Str))=false):QX X E (.Name x p) (.c (.fn n)):=by
 obtain⟨f,fd,F',hm,hk,hb⟩:=C.ex;exact qx_c (v :=.ref f) ⟨ze8 hg hm rfl hd⟩ λ_=>by rw[RD]; exact⟨f,rfl,by rw[hn]; exact hm⟩
end
def _root_.L2.Inv.spent {X:Cx}{H:Hp}{pins:List (Addr × Obj)}{σ:L2.St}{s:Shared}{h':Heap}{r a:Addr}{φ:Heap->Prop}{o:HO}{t':Nat}(I:Inv X pins σ (upd H r (.ext φ)) s)(hr:H r=none)(h0:X.s₀.heap.objs.size<=r)(k:∀b u,b≠r->s.heap.get? b=some u->h'.get? b=some u)(hp:s.heap.get? a=none)
  (new:z3C X.prog X.w (upd H a o) h' a o):Inv X pins σ (upd H a o) { s with heap:=h',toks:=t' }:=by
 have Hr:upd H r (.ext φ) r=some (.ext φ):=z0A;have back:∀b (u:HO),upd H r (.ext φ) b=some u->(∀ψ,u ≠ .ext ψ)->H b=some u/\b≠r:=λb u e z=>by
  have hb:b≠r:=λy=>by rw[y,Hr] at e; cases e; exact z φ rfl
  rw[z0o hb] at e; exact⟨e,hb⟩
 have hn0:=I.hok.none_of hp;have har:a≠r:=λy=>by rw[y,Hr] at hn0; cases hn0
 have hn:H a=none:=by rw[z0o har] at hn0; exact hn0
 have ne:∀b u,s.heap.get? b=some u->b≠a:=λb u e z=>by rw[z,hp] at e; cases e
 have neH:∀b u,H b=some u->b≠a:=λb u e z=>by rw[z,hn] at e; cases e
 have out:∀b,upd H r (.ext φ) b=none->b≠r/\H b=none:=λb e=>by
  have hb:b≠r:=λy=>by rw[y,Hr] at e; cases e
  rw[z0o hb] at e; exact⟨hb,e⟩
 have same:∀b (u:HO),upd H r (.ext φ) b=some u->(∀ψ,u ≠ .ext ψ)->upd H a o b=some u:=λb u e z=>by
  obtain⟨e',_⟩:=back b u e z;rw[z0o (neH b u e')]; exact e'
 refine I.step (g':=s.gens) (d':=s.drawn) (ch:=[r]) (λb hb =>?_) (λb u _ _ hc e _=>k b u (λz=>hc (by simp[z])) e) (λb u _ _ hc e _=>⟨u.slots,k b u (λz=>hc (by simp[z])) e⟩) (λb u _ e q=>by rw[z0o (ne b u e)]; exact(out b q).2)
  (λb u hc e=>⟨u,k b u (λz=>hc (by simp[z])) e⟩) (λb xs e=>same b _ e λ_=>nofun) (λb u v e=>same b _ e λ_=>nofun) (λb ps e=>⟨#[],by rw[same b _ e λ_=>nofun,Array.append_empty]⟩) (λm hm =>?_) (λb u e =>?_) I.bare
 ·have e:b=r:=by simpa using hb
  subst e;exact⟨.inr h0,(λz=>(out _ I.free).1 z.symm),λx c e=>(out c (I.freeC x c e)).1,λp hp=>(out _ (I.pin p hp).2.1).1⟩
 ·obtain⟨u,es,ep,ho,q⟩:=hm;exact⟨u,es,ep,k _ u (out _ I.free).1 ho,q⟩
 by_cases hb:b=a
 ·subst hb; rw[z0A] at e; cases e; exact new
 rw[z0o hb] at e;have hbr:b≠r:=λz=>by rw[z,hr] at e; cases e
 have e':upd H r (.ext φ) b=some u:=by rw[z0o hbr]; exact e
 refine(I.hok b u e').stay (λc v hc q=>k c v ?_ q) (λc q=>same c _ q λ_=>nofun) λc xs q=>same c _ q λ_=>nofun
 rcases hc with rfl | hc
 ·exact hbr
 ·exact(back c _ hc λ_=>nofun).2
def RevO (r a:Addr)(n:Nat)(h:Heap):Prop:=h.IsRevIter r a ((n:Int) - 1)
section
variable {X:Cx}{E:XK}
def rRev (X:Cx):List V->Hp->VK->Prop:=λvs H Q=>∃a ys,vs=[.ref a]/\SqL X.K H a ys/\∀r,H r=none->X.s₀.heap.objs.size<=r->Q (.ref r) (upd H r (.ext (RevO r a ys.length)))
def zgs:z19 X (.type "reversed") (rRev X):=by
 intro pins s σ H xs us Q I rv ⟨a,ys,e,hS,q⟩;subst e;obtain⟨u,rfl,rx⟩:=z4V rv
 cases rx
 obtain⟨its,r,pl,hz⟩:=I.list hS;have hlen:=r.length;refine call_reversed_list pl.isList ⟨.ref s.heap.objs.size,_,I.laid (o :=.ext (RevO s.heap.objs.size a ys.length)) (t':=s.toks) (λb o e=>Heap.get?_push_of_some _ e) (Nat.le_refl _) ⟨⟨_,Heap.get?_push_size _ rfl,rfl,by simp[revObj,hlen]⟩,⟨_,Heap.get?_push_size _ rfl⟩,λh1 h2 x st=>x.at st⟩,rfl,q _ (I.hok.fresh (Nat.le_refl _)) I.sz⟩
def zfC (X:Cx):List V->Hp->VK->Prop:=λvs H Q=>∃r a ys H1,vs=[.ref r]/\H=upd H1 r (.ext (RevO r a ys.length))/\H1 r=none/\X.s₀.heap.objs.size<=r/\SqL X.K H1 a ys/\∀d,H1 d=none->Q (.ref d) (upd H1 d (.lst ys.reverse))
def zaO (hc:X.calm=true):z19 X (.type "list") (zfC X):=by
 intro pins s σ H xs us Q I rv ⟨r,a,ys,H1,e,eH,hr,h0,hS1,q⟩;subst e;subst eH;have hS:=z2q (z0G hr (.ext (RevO r a ys.length))) hS1;obtain⟨u,rfl,rx⟩:=z4V rv
 cases rx
 have hh:X.A.handled=none:=I.ok.hd hc;obtain⟨its,rv',pl,hz⟩:=I.list hS;have hlen:=rv'.length;have hR:s.heap.IsRevIter r a ((ys.length:Int) - 1):=(show z3C X.prog X.w _ s.heap r (.ext (RevO r a ys.length)) from I.hok r _ z0A).1;have hra:a≠r:=by
  obtain⟨o,ho,hc',_⟩:=hR;obtain⟨o',ho',hc'',_⟩:=pl.isList;intro z;rw[z,ho] at ho'; cases ho';rw[hc'] at hc''
  injection hc'' with h
  exact absurd h (by decide)
 have W:=(Walks.listRev (prog:=X.prog) (w:=X.w) (A:=X.A.in1.in1) (by simp[hh]) r a hra its.toArray).toS;have sz:its.toArray.size=ys.length:=by simp[hlen]
 refine callType_codes (Q₁:=λv s1=>v = .ref s.heap.objs.size/\s1={ s with heap:=s.heap.push { cls :=.type "list",data :=.seq #[] } }) F.called_list (F.typeCall_list_1 _) F.entry_list_init (code_list_new _ ⟨rfl,rfl⟩) λv s1 hv =>?_;obtain⟨rfl,rfl⟩:=hv;have hD:(s.heap.push { cls :=.type "list",data :=.seq #[] }).get? s.heap.objs.size=some { cls :=.type "list",data :=.seq #[] }:=Heap.get?_push_size _ rfl;have hlt:∀{b:Addr}{o:Obj},s.heap.get? b=some o->b≠s.heap.objs.size:=λe=>Nat.ne_of_lt (Heap.lt_size e);obtain⟨o1,ho1,hc1,hd1⟩:=hR;obtain⟨o2,ho2,n2⟩:=pl.isList;refine⟨⟨_,hD,rfl⟩,F.args_list_init_2 _ _,Rev.zgd (A:=X.A.in1) W (λi s st=>st.2.1.typeIs) s.heap.objs.size ⟨Nat.zero_le _,⟨o1,Heap.get?_push_of_some _ ho1,hc1,by rw[hd1,sz]; simp⟩,⟨o2,Heap.get?_push_of_some _ ho2,n2⟩⟩ (by
  simp only[List.mem_cons,List.not_mem_nil,or_false,not_or];exact⟨Ne.symm (hlt ho1),Ne.symm (hlt ho2)⟩) (by simp) (by rw[sz]; exact hz) hD λs' acc c mv hS' it=>⟨rfl,?_⟩⟩
 have keep:∀b o,b≠r->s.heap.get? b=some o->s'.heap.get? b=some o:=λb o hb e=>mv.heap b o (by
  simp only[List.mem_cons,List.not_mem_nil,or_false,not_or];exact⟨hlt e,hb⟩) (Heap.get?_push_of_some _ e)
 obtain⟨h',g',d',tk',os'⟩:=s';have eg:g'=s.gens:=mv.gens;have ed:d'=s.drawn:=mv.drawn;have eo:os'=s.os:=mv.os;subst eg; subst ed; subst eo;have acc':acc.toList=its.reverse:=by
  apply List.ext_getElem?;intro k
  by_cases hk:k<its.length
  ·have hk':k<acc.size:=by rw[it.1,sz,hlen]; exact hk
   have:=it.2 k acc[k] (getElem?_pos acc k hk');rw[Array.getElem?_toList,getElem?_pos acc k hk',List.getElem?_reverse hk, <- this];simp
  ·have hk':¬ k<acc.size:=by rw[it.1,sz,hlen]; exact hk
   rw[Array.getElem?_toList,getElem?_neg acc k hk',List.getElem?_eq_none (by simp; lia)]
 have hsz:s.heap.get? s.heap.objs.size=none:=by
  cases z:s.heap.get? s.heap.objs.size with
  | none=>rfl
  | some o=>exact absurd (Heap.lt_size z) (Nat.lt_irrefl _)
 have hn1:H1 s.heap.objs.size=none:=by
  have:=I.hok.none_of hsz
  cases z:H1 s.heap.objs.size with
  | none=>rfl
  | some o=>rw[z0G hr _ _ _ z] at this; cases this
 refine⟨.ref s.heap.objs.size,_,I.spent (o :=.lst ys.reverse) (t':=tk') hr h0 keep hsz ⟨by simpa using hz,its.reverse,c,rv'.reverse,?_⟩,rfl,q _ hn1⟩;rw[<- acc'];exact hS'
end
section
variable {X:Cx}{K:W.Frag}{mg:Str->Option Value}{E:XK}{G H:Hp}
def zgi (d:D)(Q:DK):Prop:=isLs d λl=>Q (.lst l.reverse)
def z31:Fn:=fn1 zgi λd Q Q' m h=>zez (λl q=>m _ q) h
def zey {d:D}{P:List D->Prop}(h:isLs d P):∃l,d = .lst l/\P l:=by
 cases d with
 | lst l=>exact⟨l,rfl,h⟩
 | _=>exact h.elim
def z6X {e:Expr}{x:Ex}{p1 p2 p3 p4:Pos}(hc:X.calm=true)(hg:Gl X "list")(hm:X.mg "list"=none)(hg2:Gl X "reversed")(hm2:X.mg "reversed"=none)(ha:QXA X E [e] [x])
  (hs1:starEach [e] X.env=(false,eval e X.env)::starEach [] X.env:=by rfl) (hs2:starEach [.Call (.Name "reversed" p2) [e] [] p3] X.env=(false,eval (.Call (.Name "reversed" p2) [e] [] p3) X.env)::starEach [] X.env:=by rfl):QF X E (.Call (.Name "list" p1) [.Call (.Name "reversed" p2) [e] [] p3] [] p4) (.op z31 [x]):=
 QE.imp (z4v (zaO hc) hg hm (by rfl) (z9s (z4v zgs hg2 hm2 (by rfl) ha (by decide) (by decide) hs1 (by rfl)) zbY hs2) (by decide) (by decide) hs2 (by rfl)) λσ H Q ⟨G,ρ,Q0,X0,hs,ab,hr,hk,hx⟩=>by
  refine⟨G,ρ,λds=>z31.run ds Q0 X0,X0,hs,ab,hr,λds vs G1 H1 q g1 g2 g3 rds =>?_,hx⟩;obtain⟨d,rfl,q'⟩:=z2l q;obtain⟨v,rfl,rd⟩:=rds1 rds;obtain⟨l,rfl,q2⟩:=zey q';obtain⟨a,xs,rfl,h1,h2⟩:=z3c rd;refine⟨a,xs,rfl,z2q g2 h1,λr hr0 hr1=>⟨r,a,xs,H1,rfl,rfl,hr0,hr1,z2q g2 h1,λd hd =>?_⟩⟩;have hd0:H d=none:=by
   cases z:H d with
   | none=>rfl
   | some o=>rw[g3 d o z] at hd; cases hd
  exact hk (.lst l.reverse) d G1 _ q2 g1 (z0a g2 (z0G hd _)) (z0a g3 (z0G hd _)) hd0 (z1z g2 hd) ⟨xs.reverse,z0A,h2.rev⟩
open Classical in
def zfc {s:Shared}{a:D}{l:List D}{xs:List V}{its:List Value}{pins:List (Addr × Obj)}{σ:L2.St}(I:Inv X pins σ H s)(g:Same G H)(hu:X.A.units+64<cLine){v:V}{u:Value}(ra:RD X.K X.mg G a v)(rv:RelV v u)(hd:Da 60 a)(hl:∀d∈l,Da 60 d)(rds:RDs X.K X.mg G l xs)(rr:Vals xs its):
  ∃e:Value->Bool,(∀y∈its,SeqAt.EqAt X.A.in1 s y u (e y))/\its.any e=l.any (λd=>deq d a)/\∀(i:Nat) (y:Value) (d:D),its[i]? = some y->l[i]? = some d->e y=deq d a:=by
 obtain⟨as,r1⟩:=Rp.reads I (py a) ((Da.rp 60 _ hd ra).same g) rv;have key:∀(d:D) (x:V) (y:Value),Da 60 d->RD X.K X.mg G d x->RelV x y->SeqAt.EqAt X.A.in1 s y u (deq d a):=λd x y h1 h2 h3=>by
  obtain⟨bs,r2⟩:=Rp.reads I (py d) ((Da.rp 60 _ h1 h2).same g) h3;obtain⟨c1,c2⟩:=Da.canLay 60 d h1;obtain⟨c3,c4⟩:=Da.canLay 60 a hd;exact SeqAt.eqAt_reads (py d) (py a) X.A.in1 s y u bs as r2 r1 c1 c3 (by
   have:min (py d).depth (py a).depth<=60:=Nat.le_trans (Nat.min_le_left _ _) c2;have:X.A.in1.units<=X.A.units+1:=by simp
   lia)
 let e:Value->Bool:=λy=>if h:∃dt bs,Reads s.heap y dt bs/\dt.canLay0=true then PyData.eqv h.choose (py a) else false
 have he:∀(d:D) (x:V) (y:Value),Da 60 d->RD X.K X.mg G d x->RelV x y->e y=deq d a:=λd x y h1 h2 h3=>by
  obtain⟨bs,r2⟩:=Rp.reads I (py d) ((Da.rp 60 _ h1 h2).same g) h3;have c1:=(Da.canLay 60 d h1).1;have h:∃dt bs,Reads s.heap y dt bs/\dt.canLay0=true:=⟨_,bs,r2,c1⟩
  show (if h:∃dt bs,Reads s.heap y dt bs/\dt.canLay0=true then PyData.eqv h.choose (py a) else false)=deq d a;rw[dif_pos h];obtain⟨cs,z1,z2⟩:=h.choose_spec;rw[(Reads.unique z1 _ _ r2).1]
  rfl
 refine⟨e,?_⟩
 clear_value e
 induction l generalizing xs its with
 | nil=>
  rw[RDs] at rds; subst rds
  cases rr
  exact⟨λy hy=>(by cases hy),rfl,λi y d h=>(by simp at h)⟩
 | cons d l ih=>
  rw[RDs] at rds;obtain⟨x,xs',rfl,h1,h2⟩:=rds
  cases rr with
  | cons rx rr=>
   obtain⟨i1,i2,i3⟩:=ih (λd hd=>hl d (List.mem_cons_of_mem _ hd)) h2 rr;have hd0:=hl d List.mem_cons_self;refine⟨λy hy =>?_,by rw[List.any_cons,List.any_cons,he d x _ hd0 h1 rx,i2],λi y d' e1 e2 =>?_⟩
   rotate_left
   ·cases i with
    | zero=>
     rw[List.getElem?_cons_zero] at e1 e2
     cases e1
     cases e2
     exact he d x _ hd0 h1 rx
    | succ i=>exact i3 i y d' (by rwa [List.getElem?_cons_succ] at e1) (by rwa [List.getElem?_cons_succ] at e2)
   rcases List.mem_cons.mp hy with rfl | hy
   ·rw[he d x _ hd0 h1 rx]; exact key d x _ hd0 h1 rx
   ·exact i1 y hy
end
end Pu
namespace Rev
open PySem PyProof.Rows
section
variable {prog:Program}{w:World}{A:Around}{E:Value->Shared->Prop}{s:Shared}{r l:Addr}{items:Array Value}
def zl4 (hh:A.handled=none)(ne:l≠r):∀(m i:Nat) (s:Shared) (Q:List Value->Shared->Prop),s.heap.IsListIter r l i->s.heap.IsList l items->i+m<=items.size->
  (∀h' tk,h'.IsListIter r l (i+m)->h'.IsList l items->(∀b o,b≠r->s.heap.get? b=some o->h'.get? b=some o)->Q ((items.toList.drop i).take m) { s with heap:=h',toks:=tk })->wpAny (model prog w) A (draw (.ref r) m) Q E s
 | 0,i,s,Q,it,ls,_,q=>by
  have:=q s.heap s.toks it ls λ_ _ _ e=>e;rw[List.take_zero] at this;exact wpAny_pure this
 | m+1,i,s,Q,it,ls,le,q=>by
  have W:=Walks.list (prog:=prog) (w:=w) hh r l ne items;have hi:i<items.size:=by omega
  refine wpAny_bind (m:=pyNext (.ref r)) (W.item i s _ _ hi ⟨it,ls⟩ λv h1 tk1 pv st1 keep1 =>?_);refine wpAny_bind (wpAny_holding (zl4 hh ne m (i+1) _ _ st1.1 st1.2 (by omega) λh2 tk2 it2 ls2 keep2=>wpAny_pure ?_));have e1:items.toList.drop i=v::items.toList.drop (i+1):=by
   have hv:items.toList[i]? = some v:=by simpa using pv
   rw[List.drop_eq_getElem_cons (by simpa using hi)];rw[List.getElem?_eq_getElem (by simpa using hi)] at hv;rw[Option.some.inj hv]
  have:=q h2 tk2 (by rw[show i+(m+1)=i+1+m by omega]; exact it2) ls2 λb o hb e=>keep2 b o hb (keep1 b o (by simpa using hb) e);rw[e1,List.take_succ_cons] at this;exact this
def zb4 {tg:List (Bool × (Value->Sem Unit))}{Q:Unit->Shared->Prop}(hh:A.handled=none)(ls:s.heap.IsList l items)(hn:tg.length=items.size)(hst:tg.findIdx? (·.1)=none)
  (q:∀h' tk,(∀b o,s.heap.get? b=some o->h'.get? b=some o)->wpAny (model prog w) A (assignInOrder (tg.map (·.2)) items.toList) Q E { s with heap:=h',toks:=tk }):wpAny (model prog w) A (unpack (.ref l) tg) Q E s:=by
 obtain⟨o,ho,hc,n,hd⟩:=id ls;have ne:l≠s.heap.objs.size:=Nat.ne_of_lt (Heap.lt_size ho);unfold unpack;rw[hn,hst];refine wpAny_bind (wpAny_holding ?_);unfold unpackItems;refine wpAny_bind ?_;unfold notIterableAtAll;refine wpAny_bind (wpAny_specialOf ls.typeIs slot_list_iter.lookup (wpAny_pure ?_));rw[if_neg (by decide)];refine wpAny_bind (wpAny_holding (wpAny_pyIter_list ls ?_));have ls1:(s.heap.push { cls :=.type "list_iterator",data :=.fields #[.ref l,.int 0 0] }).IsList l items:=⟨o,Heap.get?_push_of_some _ ho,hc,n,hd⟩
 refine wpAny_bind (wpAny_holding (zl4 hh ne items.size 0 _ _ ⟨_,Heap.get?_push_size _ rfl,rfl,rfl⟩ ls1 (by omega) λh1 tk1 it1 ls2 keep1 =>?_));rw[List.drop_zero,List.take_of_length_le (by simp),if_neg (by simp)];have W:=Walks.list (prog:=prog) (w:=w) hh s.heap.objs.size l ne items;refine wpAny_bind (wpAny_holding (W.done _ _ _ ⟨by simpa using it1,ls2⟩ λh2 tk2 keep2 =>?_));rw[if_neg (by decide)];refine wpAny_pure (q h2 tk2 λb o e =>?_);have hb:b≠s.heap.objs.size:=Nat.ne_of_lt (Heap.lt_size e);exact keep2 b o (by simpa using hb) (keep1 b o hb (Heap.get?_push_of_some _ e))
end
end Rev
namespace Pu
open PySem PySem.Spec PyProof.Rows L2 Tab
def seqD:D->Option (List D)
 | .lst l=>some l
 | .tup l=>some l
 | _=>none
def Sm.unp (js is:List Nat)(e:Ex):Sm:=⟨λρ N _ Xp=>e.run (vis (dem js ρ)) (λd=>onL (seqD d) λds=>is.length=ds.length/\N (z0w is ds (dem js ρ))) Xp,λρ N N' Q Q' Xp X' mn m mx q=>e.mono _ _ _ Xp X' (λd q1=>z9w (λl q2=>⟨q2.1,mn _ q2.2⟩) q1) mx q⟩
def gSeq (K:W.Frag)(n:Nat)(t:TGs):TG:=λv σ H Q=>∃a xs,v = .ref a/\(SqL K H a xs\/SqT K H a xs)/\xs.length=n/\t xs σ H Q
section
variable {X:Cx}{E:XK}{pos:Pos}
def zk3 {es:List Expr}{k:Nat}{t:TGs}{n:Nat}(hc:X.calm=true)(h:PGs X es t)(hn:(assignEach es X.env).length=n:=by rfl)(hst:(assignEach es X.env).findIdx? (·.1)=none:=by rfl):PG X (.Tuple es k pos) (gSeq X.K n t):=by
 intro pins s σ H v u Q I r ⟨a,xs,e1,hq,hl,hw⟩
 rcases hq with hq | hq
 ·subst e1
  cases r
  obtain⟨its,rv,pl,hz⟩:=I.list hq;rw[assign_Tuple];refine wpAny_bind (wpAny_standAt (Rev.zb4 (I.ok.hd hc) pl.isList (by simp[hn, <- hl,rv.length]) hst λh' tk keep =>?_));have I1:Inv X pins σ H { s with heap:=h',toks:=tk }:=I.kept (t':=tk) keep;exact h pins _ σ H xs _ Q I1 (by simpa using rv) hw
 ·exact zgW hc h hn hst pins s σ H v u Q I r ⟨a,xs,e1,hq,hl,hw⟩
def zjF {es:List Expr}{k:Nat}{t:TGs}{n:Nat}(hc:X.calm=true)(h:QGs X es t)(hn:(assignEach es X.env).length=n:=by rfl)(hst:(assignEach es X.env).findIdx? (·.1)=none:=by rfl):QG X (.Tuple es k pos) (gSeq X.K n t):=⟨zk3 hc h.p hn hst⟩
def zee {o:Option (List D)}{Q:List D->Prop}(h:onL o Q):∃l,o=some l/\Q l:=by
 cases o with
 | none=>exact h.elim
 | some l=>exact⟨l,rfl,h⟩
def zjv {js is:List Nat}{tg e:Expr}{x:Ex}(h:QS X (.Assign [tg] e pos) (tAsg (tx X.K X.mg E x) (gSeq X.K is.length (is.foldr (λi r=>zd2 (z5l i) r) gNil)))):QZ X E (.Assign [tg] e pos) (.unp js is x):=QS.imp h λD σ H ⟨H0,G0,G,ρ,N0,R0,X0,ab,hr,hn,hR,hx⟩=>by
 obtain⟨G',ab',g'⟩:=ab.dem js;refine⟨G',vis (dem js ρ),_,X0,ab'.g,ab'.vis,hr,λd v G1 H1 q g1 g2 g3 rd =>?_,hx.same ab.s0⟩;have ab2:=ab'.over g1 g2 g3;obtain⟨ds,e1,hl,q'⟩:=zee q;have fin:∀xs,RDs X.K X.mg G1 ds xs->(is.foldr (λi r=>zd2 (z5l i) r) gNil) xs σ H1 D.nx:=λxs h2=>z6K (K:=X.K) is xs σ H1 D.nx (by rw[h2.len,hl]) (hn _ _ _ _ q' (ab2.putAll is ds xs hl h2) (z0a g' g1.1))
 cases d with
 | lst l=>
  cases e1
  obtain⟨a,xs,rfl,h1,h2⟩:=z3c rd;exact⟨a,xs,rfl,.inl (z2q ab2.g h1),by rw[h2.len,hl],fin xs h2⟩
 | tup l=>
  cases e1
  obtain⟨a,xs,rfl,h1,h2⟩:=z3b rd;exact⟨a,xs,rfl,.inr (z1r ab2.g h1),by rw[h2.len,hl],fin xs h2⟩
 | _=>cases e1
end
end Pu
namespace Pu
open PySem L2
def z0b:Fn:=Fn.mkN 2 5 (.seq (.set 2 (.op pAbs [(.v 0)]))
 (.seq (.set 3 (.op pAbs [(.v 1)]))
 (.seq (.wh (.op pNe [(.v 3),(.c (.int 0))]) (.seq (.set 4 (.op pMod [(.v 2),(.v 3)]))
 (.seq (.set 2 (.v 3))
 (.set 3 (.v 4)))))
 (.ret (.v 2)))))
def z3f:Fn:=Fn.mkN 2 2 (.ret (.op pSub [(.op z0u [(.op pIx [(.v 0),(.c (.int 0))]),(.op pIx [(.v 1),(.c (.int 1))])]),(.op z0u [(.op pIx [(.v 0),(.c (.int 1))]),(.op pIx [(.v 1),(.c (.int 0))])])]))
def z1M:Fn:=Fn.mkN 2 2 (.ret (.op pTup [(.op pSub [(.op pIx [(.v 1),(.c (.int 0))]),(.op pIx [(.v 0),(.c (.int 0))])]),(.op pSub [(.op pIx [(.v 1),(.c (.int 1))]),(.op pIx [(.v 0),(.c (.int 1))])])]))
def z6M:Fn:=Fn.mkN 3 3 (.ret (.op z3f [(.op z1M [(.v 0),(.v 1)]),(.op z1M [(.v 1),(.v 2)])]))
def zaE:Fn:=Fn.mkN 3 5 (.seq (.set 3 (.op pSub [(.op z0u [(.op pIx [(.v 1),(.c (.int 0))]),(.op pIx [(.v 2),(.c (.int 2))])]),(.op z0u [(.op pIx [(.v 2),(.c (.int 0))]),(.op pIx [(.v 1),(.c (.int 2))])])]))
 (.seq (.set 4 (.op pSub [(.op z0u [(.op pIx [(.v 1),(.c (.int 1))]),(.op pIx [(.v 2),(.c (.int 2))])]),(.op z0u [(.op pIx [(.v 2),(.c (.int 1))]),(.op pIx [(.v 1),(.c (.int 2))])])]))
 (.ret (.op pAdd [(.op pSub [(.op z0u [(.op pIx [(.v 0),(.c (.int 0))]),(.v 4)]),(.op z0u [(.op pIx [(.v 0),(.c (.int 1))]),(.v 3)])]),(.op z0u [(.op pIx [(.v 0),(.c (.int 2))]),(.op pSub [(.op z0u [(.op pIx [(.v 1),(.c (.int 0))]),(.op pIx [(.v 2),(.c (.int 1))])]),(.op z0u [(.op pIx [(.v 1),(.c (.int 1))]),(.op pIx [(.v 2),(.c (.int 0))])])])])]))))
def zaF:Fn:=Fn.mkN 2 5 (.seq (.set 2 (.op pSub [(.op z0u [(.op pIx [(.v 1),(.c (.int 0))]),(.op pIx [(.v 0),(.c (.int 2))])]),(.op z0u [(.op pIx [(.v 0),(.c (.int 0))]),(.op pIx [(.v 1),(.c (.int 2))])])]))
 (.seq (.set 3 (.op pSub [(.op z0u [(.op pIx [(.v 1),(.c (.int 1))]),(.op pIx [(.v 0),(.c (.int 2))])]),(.op z0u [(.op pIx [(.v 0),(.c (.int 1))]),(.op pIx [(.v 1),(.c (.int 2))])])]))
 (.seq (.set 4 (.op z0b [(.v 2),(.v 3)]))
 (.ret (.op pTup [(.op z2e [(.v 2),(.v 4)]),(.op z2e [(.v 3),(.v 4)])])))))
def zeN:Nat->Fn
 | 0=>z6M
 | 1=>zaE
 | 2=>z1M
 | 3=>zaF
 | _=>⟨λ_ _ _=>False,λ_ _ _ _ _ _ _ z=>z⟩
def z4z:Fn:=Fn.mkN 2 4 (.seq (.own 2 (.op pLst []))
 (.seq (.for_ [] (.nm 3) (.v 0) (.seq (.wh (.and (.op pGt [(.op pLen [(.v 2)]),(.c (.int 1))]) (.op pLe [(.callv zeN 1 [(.op pIx [(.v 2),(.op pNeg [(.c (.int 2))])]),(.op pIx [(.v 2),(.op pNeg [(.c (.int 1))])]),(.v 3)]),(.c (.int 0))])) (.pop 2))
 (.app 2 (.v 3))))
 (.ret (.v 2))))
def z3z:Fn:=Fn.mkN 2 4 (.seq (.ifs (.op pLt [(.op pLen [(.v 0)]),(.c (.int 2))]) (.ret (.op z4w [(.v 0)])) .skip)
 (.seq (.set 2 (.op z4z [(.v 0),(.v 1)]))
 (.seq (.set 3 (.op z4z [(.op z31 [(.v 0)]),(.v 1)]))
 (.ret (.op z4w [(.op pAdd [(.sl (.v 2) none (some (.op pNeg [(.c (.int 1))]))),(.sl (.v 3) none (some (.op pNeg [(.c (.int 1))])))])])))))
def z1e:Fn:=Fn.mkN 1 1 (.ret (.op z3z [(.op z7v [(.v 0)]),(.c (.fn 0))]))
def z3A:Fn:=Fn.mkN 2 2 (.ret (.op pAdd [(.op z0u [(.op pIx [(.v 0),(.c (.int 0))]),(.op pIx [(.v 1),(.c (.int 0))])]),(.op z0u [(.op pIx [(.v 0),(.c (.int 1))]),(.op pIx [(.v 1),(.c (.int 1))])])]))
def z5z:Fn:=Fn.mkN 2 2 (.ret (.op zi5 [(.comp 1 [1] (.nm 0) (.v 0) none (.op z3A [(.v 0),(.v 1)]))]))
end Pu
namespace Pu
open PySem PySem.Spec PyProof.Rows L2
section
variable {X:Cx}{K:W.Frag}{mg:Str->Option Value}{E:XK}{G H:Hp}
def zlr (K:W.Frag):R2:=λx y H Q=>∃l xs n,x = .ref l/\y = .int n/\SqL K H l xs/\n<=100/\0<=n/\xs.length<=1000/\∀p,H p=none->Q (.ref p) (upd H p (.lst (List.replicate n.toNat xs).flatten))
def zbJ {xs:List V}{its:List Value}(r:Vals xs its):∀k:Nat,Vals (List.replicate k xs).flatten (List.replicate k its).flatten
 | 0 =>.nil
 | k+1=>by
  rw[List.replicate_succ,List.replicate_succ,List.flatten_cons,List.flatten_cons];exact r.append (zbJ r k)
def zi9:OpR X (binaryOp .Mult) (zlr X.K):=by
 intro pins s σ H x y v u Q I rx ry h;obtain⟨l,xs,n,rfl,rfl,hH,hn,hn0,hz,q⟩:=h
 cases rx
 obtain⟨tk,rfl⟩:=ry;obtain⟨its,r,⟨⟨cls,dd,data,sl⟩,ep,e,hc,_,hd⟩,z1⟩:=I.list hH;dsimp only at hc hd;subst hc hd;have l1:=r.length;have hm:its.length*n.toNat<=100000:=Nat.le_trans (Nat.mul_le_mul (show its.length<=1000 by omega) (show n.toNat<=100 by omega)) (by decide);have ea:List.foldl (λx1 x2=>x1++x2) #[] (List.replicate (if its.toArray.isEmpty=true then 0 else n.toNat) its.toArray)=((List.replicate n.toNat its).flatten).toArray:=by
  have:=listMul_foldl_if its.toArray n.toNat
  simpa using this
 have szs:(List.replicate n.toNat xs).flatten.length<=sizeLine:=Nat.le_trans (show _<=100000 by rw[<- l1] at hm; simpa[Nat.mul_comm] using hm) (by decide);refine wpAny_binaryOp_repeat_ref (T:="list") (U:="int") (by decide) ⟨_,e,rfl⟩ (λs'=>typeIs_int s' n tk) noFill_list_mul PySem.F.fills_int_mul PySem.F.slot_int_rmul repeat_list PySem.F.slot_int_index.lookup ?_;refine call_meets PySem.F.slot_int_rmul (typeIs_int s n tk) PySem.F.entry_int_rmul (PySem.F.args_int_rmul_2 _ _) (lm_int_rmul_list_any n tk l its.toArray ep dd sl) ⟨e,rfl,⟨_,e,rfl⟩,?_⟩;refine call_meets PySem.F.slot_list_mul ⟨_,e,rfl⟩ PySem.F.entry_list_mul (PySem.F.args_list_mul_2 _ _) (lm_list_mul_any l its.toArray ep dd sl n tk ?_ ?_ ?_) ⟨e,?_⟩
 ·simp[Builtin.List.listFitsIndex]; omega
 ·simp only[List.size_toArray]; omega
 ·simp only[List.size_toArray,Builtin.List.listTooLong,sizeLine,decide_eq_true_eq]; omega
 rw[ea];exact⟨.ref _,_,I.lnew (t':=s.toks) (zbJ r n.toNat) szs,rfl,q _ I.fresh⟩
def zd0 (a b:D)(Q:DK):Prop:=match a,b with
 | .lst l,.int n=>(n<=100/\0<=n/\l.length<=1000)/\Q (.lst (List.replicate n.toNat l).flatten)
 | _,_=>False
def zcZ (a b:D)(Q Q':DK)(m:∀d,Q d->Q' d)(h:zd0 a b Q):zd0 a b Q':=by
 unfold zd0 at h ⊢
 split at h
 ·exact⟨h.1,m _ h.2⟩
 ·exact h.elim
def zfT:Fn:=fn2 zd0 zcZ
def zdO {l:List D}{xs:List V}(r:RDs K mg G l xs):∀k:Nat,RDs K mg G (List.replicate k l).flatten (List.replicate k xs).flatten
 | 0=>RDs.nil
 | k+1=>by
  rw[List.replicate_succ,List.replicate_succ,List.flatten_cons,List.flatten_cons];exact r.app (zdO r k)
def zej:OpR X (binaryOp .Mult) (r2 X.K X.mg zfT):=by
 intro pins s σ H x y v u Q I rx ry ⟨G,d1,d2,Q0,X0,g,h1,h2,hr,hk⟩;have hr':zd0 d1 d2 Q0:=hr;unfold zd0 at hr'
 split at hr'
 ·obtain⟨a,xs,rfl,s1,r1⟩:=z3c h1;obtain⟨⟨q1,q2,q3⟩,q⟩:=hr';exact zi9 pins s σ H _ _ v u Q I rx ry ⟨a,xs,_,rfl,z0Y h2,z2q g s1,q1,q2,by rw[r1.len]; exact q3,λp hp=>hk.new g hp q (RD.newL (zdO r1 _) g hp)⟩
 ·exact hr'.elim
def zd4 (a b:D)(Q:DK):Prop:=match a,b with
 | .lst l,.lst m=>l.length+m.length<=sizeLine/\Q (.lst (l++m))
 | _,_=>False
def zd3 (a b:D)(Q Q':DK)(m:∀d,Q d->Q' d)(h:zd4 a b Q):zd4 a b Q':=by
 unfold zd4 at h ⊢
 split at h
 ·exact⟨h.1,m _ h.2⟩
 ·exact h.elim
def zcM:Fn:=fn2 zd4 zd3
def zdU {a b:Expr}{x y:Ex}{pos:Pos}(ha:QX X E a x)(hb:QX X E b y):QF X E (.BinOp a .Add b pos) (.op zcM [x,y]):=QE.imp (zjH zed ha hb) λσ H Q ⟨G,ρ,Q0,X0,hs,ab,hr,hk,hx⟩=>by
 refine⟨G,ρ,λd=>y.run ρ (λd'=>zcM.run [d,d'] Q0 X0) X0,X0,hs,ab,hr,?_,hx⟩;intro d v G1 H1 hb g1 g2 g3 rd;refine⟨G1,ρ,λd'=>zcM.run [d,d'] Q0 X0,X0,g2,ab.same g1.1,hb,?_,hx.same g3⟩;intro d' v' G2 H2 hF k1 k2 k3 rd';have hF':zd4 d d' Q0:=hF;unfold zd4 at hF'
 split at hF'
 ·rename_i l m
  obtain⟨l1,xs,rfl,s1,r1⟩:=z3c (rd.same k1.1);obtain⟨l2,ys,rfl,s2,r2⟩:=z3c rd';refine⟨l1,l2,xs,ys,rfl,rfl,z2q k2 s1,z2q k2 s2,by rw[r1.len,r2.len]; exact hF'.1,λp hp =>?_⟩;exact hk (.lst (l++m)) p G2 (upd H2 p (.lst (xs++ys))) hF'.2 (g1.trans g3 k1) (z0a k2 (z0G hp _)) (z0a (z0a g3 k3) (z0G hp _)) (z1z (z0a g3 k3) hp) (z1z k2 hp) ⟨xs++ys,z0A,r1.app r2⟩
 ·exact hF'.elim
end
def Sm.par2 (i j:Nat)(es:List Ex):Sm:=⟨λρ N _ Xp=>runs es (vis ρ) (λds=>[i,j].length=ds.length/\N (z0w [i,j] ds ρ)) Xp,λρ N N' Q Q' Xp X' mn m mx q=>z4u es _ _ _ Xp X' (λd q1=>⟨q1.1,mn _ q1.2⟩) mx q⟩
section
variable {X:Cx}{E:XK}{pos:Pos}
def zhF {i j:Nat}{x y:Str}{a b:Expr}{es:List Ex}{px py pt:Pos}{kt k2 pt2}(hc:X.calm=true)(hN:X.N.Nodup)(hi:X.N[i]? = some x)(hj:X.N[j]? = some y)(hij:i≠j)
  (hx:X.env.scope.names.lookup x=some .local) (hy:X.env.scope.names.lookup y=some .local) (ha:QXA X E [a,b] es)
  (hw:swappedStores [.Tuple [.Name x px,.Name y py] kt pt] (.Tuple [a,b] k2 pt2) X.env=pure (some [x,y]))
  (hs:swapsWithSole [.Tuple [.Name x px,.Name y py] kt pt] (.Tuple [a,b] k2 pt2) pos.line X.env=pure false:=by rfl):
  QZ X E (.Assign [.Tuple [.Name x px,.Name y py] kt pt] (.Tuple [a,b] k2 pt2) pos) (.par2 i j es):=QS.imp (zjC hc hN hi hj hij hx hy ha hw hs) λD σ H ⟨H0,G0,G,ρ,N0,R0,X0,ab,hr,hn,hR,hx⟩=>by
 refine⟨G,vis ρ,_,X0,ab.g,ab.vis,hr,λds vs G1 H1 q g1 g2 g3 rds =>?_,hx.same ab.s0⟩;have ab2:=ab.over g1 g2 g3
 match ds,q.1,vs,rds with
 | [d1,d2],_,vs,rds=>
  have hl:=rds.len
  match vs,hl with
  | [v,w],_=>exact⟨v,w,rfl,hn _ _ _ _ q.2 (ab2.putAll [i,j] [d1,d2] [v,w] rfl rds) g1.1⟩
end
end Pu
namespace Pu
open PySem L2
def z1F:Fn:=Fn.mkN 2 2 (.seq (.ifs (.op pLt [(.v 1),(.op pLen [(.v 0)])]) (.ret (.op pIx [(.v 0),(.v 1)])) .skip)
 (.ret (.c (.int 0))))
def z0V:Fn:=Fn.mkN 2 3 (.seq (.set 2 (.op pAdd [(.op z0u [(.c (.int 2)),(.v 1)]),(.c (.int 1))]))
 (.ret (.op pTup [(.op pSub [(.op pMod [(.v 0),(.v 2)]),(.v 1)]),(.op pSub [(.op pMod [(.op z2e [(.v 0),(.v 2)]),(.v 2)]),(.v 1)])])))
def z18:Fn:=Fn.mkN 2 6 (.seq (.own 2 (.op pLst []))
 (.seq (.set 3 (.c (.int 0)))
 (.seq (.wh (.op pLt [(.v 3),(.op pLen [(.v 0)])]) (.seq (.set 4 (.op pAdd [(.c (.int 1)),(.op pMod [(.op pIx [(.v 0),(.v 3)]),(.c (.int 12))])]))
 (.seq (.own 5 (.op zcM [(.sl (.v 0) (some (.op pAdd [(.v 3),(.c (.int 1))])) (some (.op pAdd [(.op pAdd [(.v 3),(.c (.int 1))]),(.v 4)]))),(.op zfT [(.op pLst [(.c (.int 0))]),(.op pInt [(.op pEq [(.op pAdd [(.v 3),(.c (.int 1))]),(.op pLen [(.v 0)])])])])]))
 (.seq (.app 2 (.op pTup [(.op z4w [(.comp 1 [1] (.nm 0) (.v 5) none (.op z0V [(.v 0),(.v 1)]))]),(.op z2e [(.op pIx [(.v 0),(.v 3)]),(.c (.int 12))])]))
 (.set 3 (.op pAdd [(.op pAdd [(.v 3),(.c (.int 1))]),(.v 4)]))))))
 (.ret (.v 2)))))
def z06:Fn:=Fn.mkN 2 4 (.seq (.set 2 (.c (.int 2305843009213693951)))
 (.seq (.set 3 (.op pMod [(.op z0u [(.op pAdd [(.op pAdd [(.op pMod [(.v 0),(.v 2)]),(.op z0u [(.c (.int 31)),(.v 1)])]),(.c (.int 7))]),(.c (.int 48271))]),(.v 2)]))
 (.ret (.op z2e [(.op pMod [(.op z0u [(.op pMod [(.op z0u [(.v 3),(.v 3)]),(.v 2)]),(.c (.int 69621))]),(.v 2)]),(.c (.int 7))]))))
def z0g:Fn:=Fn.mkN 3 4 (.seq (.set 3 (.op pSub [(.op pMod [(.op z06 [(.v 0),(.v 1)]),(.op pAdd [(.op z0u [(.c (.int 2)),(.v 2)]),(.c (.int 1))])]),(.v 2)]))
 (.ret (.op pTup [(.v 3),(.op pSub [(.op pMod [(.op z06 [(.v 0),(.op pAdd [(.v 1),(.c (.int 1))])]),(.op pAdd [(.op z0u [(.c (.int 2)),(.v 2)]),(.c (.int 1))])]),(.v 2)])])))
def z1k:Fn:=Fn.mkN 1 1 (.ret (.op zi4 [(.op pNeg [(.op pPow [(.c (.int 10)),(.c (.int 9))])]),(.op zi3 [(.op pPow [(.c (.int 10)),(.c (.int 9))]),(.v 0)])]))
def z1N:Fn:=Fn.mkN 2 9 (.seq (.set 2 (.op z0g [(.op pIx [(.v 0),(.c (.int 0))]),(.c (.int 10)),(.v 1)]))
 (.seq (.set 3 (.op z0g [(.op pIx [(.v 0),(.c (.int 0))]),(.c (.int 20)),(.c (.int 3))]))
 (.seq (.set 4 (.op pMod [(.op z06 [(.op pIx [(.v 0),(.c (.int 0))]),(.c (.int 30))]),(.c (.int 6))]))
 (.seq (.own 5 (.op pLst []))
 (.seq (.for_ [] (.nm 6) (.v 0) (.seq (.set 7 (.op z0g [(.v 6),(.c (.int 10)),(.v 1)]))
 (.seq (.set 8 (.op pSub [(.op pMod [(.op z06 [(.v 6),(.c (.int 40))]),(.c (.int 7))]),(.c (.int 3))]))
 (.seq (.ifs (.op pEq [(.v 4),(.c (.int 4))]) (.set 7 (.op pTup [(.op z1k [(.op pAdd [(.op pIx [(.v 2),(.c (.int 0))]),(.op z0u [(.v 8),(.op pIx [(.v 3),(.c (.int 0))])])])]),(.op z1k [(.op pAdd [(.op pIx [(.v 2),(.c (.int 1))]),(.op z0u [(.v 8),(.op pIx [(.v 3),(.c (.int 1))])])])])])) .skip)
 (.seq (.ifs (.op pEq [(.v 4),(.c (.int 5))]) (.set 7 (.v 2)) .skip)
 (.app 5 (.v 7)))))))
 (.ret (.op z4w [(.v 5)])))))))
def z1E:Fn:=Fn.mkN 1 1 (.ret (.op z4w [(.comp 1 [] (.nm 0) (.v 0) none (.op pTup [(.op z0u [(.op z0u [(.op pIx [(.v 0),(.c (.int 0))]),(.op pPow [(.c (.int 10)),(.c (.int 64))])]),(.op pPow [(.c (.int 10)),(.c (.int 64))])]),(.op z0u [(.op z0u [(.op pIx [(.v 0),(.c (.int 1))]),(.op pPow [(.c (.int 10)),(.c (.int 64))])]),(.op pPow [(.c (.int 10)),(.c (.int 64))])])]))]))
def z13:Fn:=Fn.mkN 1 7 (.seq (.set 1 (.op z1F [(.v 0),(.c (.int 0))]))
 (.seq (.set 2 (.op pAdd [(.sl (.v 0) (some (.c (.int 1))) none),(.op zfT [(.op pLst [(.c (.int 0))]),(.op pInt [(.op pLt [(.op pLen [(.v 0)]),(.c (.int 2))])])])]))
 (.seq (.ifs (.op pEq [(.op pMod [(.v 1),(.c (.int 2))]),(.c (.int 1))]) (.ret (.op z18 [(.v 2),(.op pIx [(.op pLst [(.c (.int 12)),(.op pPow [(.c (.int 10)),(.c (.int 9))]),(.op pPow [(.c (.int 10)),(.c (.int 60))])]),(.op pMod [(.op z2e [(.v 1),(.c (.int 2))]),(.c (.int 3))])])])) .skip)
 (.seq (.set 3 (.op pIx [(.op pLst [(.c (.int 3)),(.c (.int 3)),(.c (.int 12)),(.c (.int 12)),(.c (.int 40)),(.op pPow [(.c (.int 10)),(.c (.int 9))])]),(.op pMod [(.op z06 [(.v 1),(.c (.int 1))]),(.c (.int 6))])]))
 (.seq (.own 4 (.op pLst []))
 (.seq (.set 5 (.c (.int 0)))
 (.seq (.wh (.op pLt [(.v 5),(.op pLen [(.v 2)])]) (.seq (.set 6 (.op pAdd [(.c (.int 1)),(.op pMod [(.op z06 [(.op pIx [(.v 2),(.v 5)]),(.c (.int 50))]),(.op pIx [(.op pLst [(.c (.int 12)),(.c (.int 4)),(.c (.int 3)),(.c (.int 5))]),(.op pMod [(.op z06 [(.op pIx [(.v 2),(.v 5)]),(.c (.int 51))]),(.c (.int 4))])])])]))
 (.seq (.app 4 (.op pTup [(.op z1N [(.sl (.v 2) (some (.v 5)) (some (.op pAdd [(.v 5),(.v 6)]))),(.v 3)]),(.op pIx [(.v 2),(.v 5)])]))
 (.set 5 (.op pAdd [(.v 5),(.v 6)])))))
 (.seq (.ifs (.op pEq [(.op pMod [(.op z06 [(.op pIx [(.v 2),(.c (.int 0))]),(.c (.int 52))]),(.c (.int 4))]),(.c (.int 1))]) (.own 4 (.op zcM [(.op pLst [(.op pTup [(.op z1N [(.v 2),(.v 3)]),(.op pAdd [(.op pIx [(.v 2),(.c (.int 0))]),(.c (.int 1))])])]),(.v 4)])) .skip)
 (.seq (.ifs (.op pEq [(.op pMod [(.op z06 [(.op pIx [(.v 2),(.c (.int 0))]),(.c (.int 53))]),(.c (.int 8))]),(.c (.int 1))]) (.own 4 (.comp 1 [] (.nm 0) (.v 4) none (.op pTup [(.op z1E [(.op pIx [(.v 0),(.c (.int 0))])]),(.op pIx [(.v 0),(.c (.int 1))])]))) .skip)
 (.ret (.v 4)))))))))))
def z2m:Fn:=Fn.mkN 3 5 (.seq (.set 3 (.op pTup [(.op pSub [(.op pIx [(.v 1),(.c (.int 0))]),(.op pIx [(.v 0),(.c (.int 0))])]),(.op pSub [(.op pIx [(.v 1),(.c (.int 1))]),(.op pIx [(.v 0),(.c (.int 1))])])]))
 (.seq (.set 4 (.op pTup [(.op pSub [(.op pIx [(.v 2),(.c (.int 0))]),(.op pIx [(.v 0),(.c (.int 0))])]),(.op pSub [(.op pIx [(.v 2),(.c (.int 1))]),(.op pIx [(.v 0),(.c (.int 1))])])]))
 (.ret (.op pSub [(.op z0u [(.op pIx [(.v 3),(.c (.int 0))]),(.op pIx [(.v 4),(.c (.int 1))])]),(.op z0u [(.op pIx [(.v 3),(.c (.int 1))]),(.op pIx [(.v 4),(.c (.int 0))])])]))))
def z0x:Fn:=Fn.mkN 1 3 (.seq (.own 1 (.op pLst []))
 (.seq (.for_ [] (.nm 2) (.v 0) (.seq (.wh (.and (.op pGt [(.op pLen [(.v 1)]),(.c (.int 1))]) (.op pLe [(.op z2m [(.op pIx [(.v 1),(.op pNeg [(.c (.int 2))])]),(.op pIx [(.v 1),(.op pNeg [(.c (.int 1))])]),(.v 2)]),(.c (.int 0))])) (.pop 1))
 (.app 1 (.v 2))))
 (.ret (.sl (.v 1) none (some (.op pNeg [(.c (.int 1))]))))))
def z2b:Fn:=Fn.mkN 1 2 (.seq (.set 1 (.op z7v [(.v 0)]))
 (.seq (.ifs (.op pEq [(.op pLen [(.v 1)]),(.c (.int 1))]) (.ret (.op z4w [(.v 1)])) .skip)
 (.ret (.op z4w [(.op pAdd [(.op z0x [(.v 1)]),(.op z0x [(.sls (.v 1) none none (.op pNeg [(.c (.int 1))]))])])]))))
end Pu
namespace Pu
open PySem PySem.Spec PyProof.Rows L2
def Sm.never:Sm:=⟨λ_ _ _ _=>False,λ_ _ _ _ _ _ _ _ _ _ q=>q⟩
def zbT {X:Cx}{E:XK}{st:Stmt}:QZ X E st .never:=QS.imp zfF λ_ _ _ ⟨_,_,_,_,_,_,_,_,hr,_⟩=>hr
def z0d {X:Cx}{e:Expr}{es:List Expr}{xs:List Ex}{pos:Pos}{k n:Nat}{ps:List Str}{F:Fn}{f:Str}{pp:Pos}(C:Cal X.prog X.w X.K X.mg X.base (CXe X.prog X.w) k f ps (spP X.K X.mg F))(hr:Room n X.A)(ha:QXA X E0 (e::es) xs)(hg:Gl X f:=by rfl)
  (hk:k<=n:=by decide) (hdb:(f == ("__debug__":Str))=false:=by decide) (he:starEach (e::es) X.env=(false,eval e X.env)::starEach es X.env:=by rfl) (hpl:(backTo pos (starEach es X.env)).any (·.1)=false:=by rfl):QX X E0 (.Call (.Name f pp) (e::es) [] pos) (.op F xs):=
 zly C (hr.mono hk) zea ha hg hdb he hpl
section
variable {P:Program}{w:World}{K:W.Frag}{mg:Str->Option Value}{base:Heap}{f:Addr}{qual:Str}{N:List Str}
def fnM {x:Str}{st:Stmt}{fd:FuncData}{ps:List Str}{k np nn:Nat}{b:Sm}(F:Fun K x qual st f fd)(S:z0c N ps (z01 st))
  (hb:∀(cdv:Value) (A:Around) (outer:List PySem.Env) (s:Shared) (H:Hp) (E:XK),Room k (A.deeper (envOfC qual (z01 st) s.heap.objs.size f cdv))->(A.deeper (envOfC qual (z01 st) s.heap.objs.size f cdv)).units+64<cLine->QZs ((cxOf (CXe P w) P w K mg base N qual (z01 st) f cdv A outer s H E).wish λ_ _=>False) E0 (z3W st) b) (hp:ps.length=np:=by rfl) (hN:N.length=nn:=by rfl):
  FnOk P w K mg base (CXe P w) (k+1) f fd ps (spP K mg (Fn.mkN np nn b)):=fnN F S hp hN λcdv A outer s H E hr=>hb cdv A outer s H E hr hr.units
end
end Pu
namespace Pu
open PySem L2
def z0M:Fn:=Fn.mkN 2 2 (.seq (.wh (.op pNe [(.v 1),(.c (.int 0))]) (.par2 0 1 [(.v 1),(.op pMod [(.v 0),(.v 1)])]))
 (.ret (.v 0)))
def z1U:Fn:=Fn.mkN 2 3 (.seq (.set 2 (.op z0M [(.op pAbs [(.v 0)]),(.v 1)]))
 (.ret (.op pTup [(.op z2e [(.v 0),(.v 2)]),(.op z2e [(.v 1),(.v 2)])])))
def z9T:Fn:=Fn.mkN 2 7 (.seq (.set 2 (.op z0b [(.op pIx [(.v 0),(.c (.int 1))]),(.op pIx [(.v 1),(.c (.int 1))])]))
 (.seq (.set 3 (.op z2e [(.op pIx [(.v 1),(.c (.int 1))]),(.v 2)]))
 (.seq (.set 4 (.op z2e [(.op pIx [(.v 0),(.c (.int 1))]),(.v 2)]))
 (.seq (.set 5 (.op pAdd [(.op z0u [(.op pIx [(.v 0),(.c (.int 0))]),(.v 3)]),(.op z0u [(.op pIx [(.v 1),(.c (.int 0))]),(.v 4)])]))
 (.seq (.set 6 (.op z0b [(.v 2),(.v 5)]))
 (.ret (.op pTup [(.op z2e [(.v 5),(.v 6)]),(.op z0u [(.v 4),(.op z2e [(.op pIx [(.v 1),(.c (.int 1))]),(.v 6)])])])))))))
def z4c:Fn:=Fn.mkN 1 4 (.seq (.set 1 (.op pTup [(.c (.int 0)),(.c (.int 1))]))
 (.seq (.for_ [] (.tp [2,3]) (.v 0) (.set 1 (.op z9T [(.v 1),(.v 3)])))
 (.ret (.v 1))))
def z5y:Fn:=Fn.mkN 1 1 (.ret (.and (.op pGt [(.op pIx [(.v 0),(.c (.int 0))]),(.c (.int 0))]) (.and (.op pGt [(.op pIx [(.v 0),(.c (.int 1))]),(.c (.int 0))]) (.op pEq [(.op z0b [(.op pIx [(.v 0),(.c (.int 0))]),(.op pIx [(.v 0),(.c (.int 1))])]),(.c (.int 1))]))))
def z2u:Fn:=Fn.mkN 2 5 (.seq (.set 2 (.op pNeg [(.c (.int 1))]))
 (.seq (.for_ [] (.tp [3,4]) (.v 1) (.seq (.ifs (.or (.op pLe [(.v 3),(.v 2)]) (.or (.op pGeI [(.v 3),(.op pLen [(.v 0)])]) (.not (.op z5y [(.v 4)])))) (.ret (.c (.bl false))) .skip)
 (.set 2 (.v 3))))
 (.ret (.c (.bl true)))))
def z3y:Fn:=Fn.mkN 2 8 (.seq (.set 2 (.op z0b [(.op pIx [(.v 0),(.c (.int 2))]),(.op pIx [(.v 1),(.c (.int 2))])]))
 (.seq (.set 3 (.op z2e [(.op pIx [(.v 1),(.c (.int 2))]),(.v 2)]))
 (.seq (.set 4 (.op z2e [(.op pIx [(.v 0),(.c (.int 2))]),(.v 2)]))
 (.seq (.set 5 (.op pAdd [(.op z0u [(.op pIx [(.v 0),(.c (.int 0))]),(.v 3)]),(.op z0u [(.op pIx [(.v 1),(.c (.int 0))]),(.v 4)])]))
 (.seq (.set 6 (.op pAdd [(.op z0u [(.op pIx [(.v 0),(.c (.int 1))]),(.v 3)]),(.op z0u [(.op pIx [(.v 1),(.c (.int 1))]),(.v 4)])]))
 (.seq (.set 7 (.op z0b [(.op z0b [(.v 2),(.v 5)]),(.v 6)]))
 (.ret (.op pTup [(.op z2e [(.v 5),(.v 7)]),(.op z2e [(.v 6),(.v 7)]),(.op z0u [(.v 4),(.op z2e [(.op pIx [(.v 1),(.c (.int 2))]),(.v 7)])])]))))))))
def z38:Fn:=Fn.mkN 3 4 (.seq (.set 3 (.op z0b [(.op z0b [(.v 2),(.v 0)]),(.v 1)]))
 (.ret (.op pTup [(.op z2e [(.v 0),(.v 3)]),(.op z2e [(.v 1),(.v 3)]),(.op z2e [(.v 2),(.v 3)])])))
def z3x:Fn:=Fn.mkN 2 2 (.ret (.op z38 [(.op z0u [(.op pIx [(.v 0),(.c (.int 0))]),(.op pIx [(.v 1),(.c (.int 0))])]),(.op z0u [(.op pIx [(.v 0),(.c (.int 1))]),(.op pIx [(.v 1),(.c (.int 0))])]),(.op z0u [(.op pIx [(.v 0),(.c (.int 2))]),(.op pIx [(.v 1),(.c (.int 1))])])]))
def z4d:Fn:=Fn.mkN 2 6 (.seq (.ifs (.not (.op z2u [(.v 0),(.v 1)])) .never .skip)
 (.seq (.set 2 (.op pTup [(.c (.int 0)),(.c (.int 0)),(.c (.int 1))]))
 (.seq (.for_ [] (.tp [3,4]) (.v 1) (.seq (.set 5 (.op pIx [(.v 0),(.v 3)]))
 (.set 2 (.op z3y [(.v 2),(.op z3x [(.op pTup [(.op pIx [(.v 5),(.c (.int 0))]),(.op pIx [(.v 5),(.c (.int 1))]),(.c (.int 1))]),(.v 4)])]))))
 (.ret (.v 2)))))
def z0l:Fn:=Fn.mkN 3 4 (.seq (.set 3 (.op z0M [(.op z0M [(.op pAbs [(.v 0)]),(.op pAbs [(.v 1)])]),(.v 2)]))
 (.ret (.op pTup [(.op z2e [(.v 0),(.v 3)]),(.op z2e [(.v 1),(.v 3)]),(.op z2e [(.v 2),(.v 3)])])))
def z0T:Fn:=Fn.mkN 2 7 (.seq (.set 2 (.c (.int 1)))
 (.seq (.for_ [] (.tp [3,4]) (.v 1) (.set 2 (.op z0u [(.v 2),(.op pIx [(.v 4),(.c (.int 1))])])))
 (.seq (.set 5 (.op pSum [(.comp 2 [2,0] (.tp [0,1]) (.v 1) none (.op z0u [(.op z0u [(.op pIx [(.op pIx [(.v 3),(.v 0)]),(.c (.int 0))]),(.op pIx [(.v 1),(.c (.int 0))])]),(.op z2e [(.v 2),(.op pIx [(.v 1),(.c (.int 1))])])]))]))
 (.seq (.set 6 (.op pSum [(.comp 2 [2,0] (.tp [0,1]) (.v 1) none (.op z0u [(.op z0u [(.op pIx [(.op pIx [(.v 3),(.v 0)]),(.c (.int 1))]),(.op pIx [(.v 1),(.c (.int 0))])]),(.op z2e [(.v 2),(.op pIx [(.v 1),(.c (.int 1))])])]))]))
 (.ret (.op z0l [(.v 5),(.v 6),(.v 2)]))))))
end Pu
namespace Pu
open PySem PySem.Spec PyProof.Rows L2 Tab
mutual
def zav (K:W.Frag):D->Value->Bool
 | .int i,.int j _=>i == j
 | .str x,.str y _=>x == y
 | .non,.none=>true
 | .bl b,.bool c=>b == c
 | .tup ds,.ref a=>match K.lookup a with
  | some o=>(match o.cls with | .type t=>t == "tuple" | _=>false) && (match o.data with
   | .seq its _=>(decide (its.size<=sizeLine) && o.dict.isNone) && zcc K ds its.toList
   | _=>false)
  | none=>false
 | _,_=>false
def zcc (K:W.Frag):List D->List Value->Bool
 | [],[]=>true
 | d::ds,v::vs=>zav K d v && zcc K ds vs
 | _,_=>false
end
def zle (K:W.Frag)(mg:Str->Option Value)(x:Str)(d:D):Prop:=∃v,mg x=some v/\zav K d v=true
section
variable {K:W.Frag}{mg:Str->Option Value}
mutual
def zcd:∀(d:D) {u:Value},zav K d u=true->∃v,RelV v u/\∀G,RD K mg G d v
 | .non,u,h=>by
  cases u with
  | none=>exact⟨.non,rfl,λ_=>by rw[RD]⟩
  | _=>cases h
 | .bl b,u,h=>by
  cases u with
  | bool c=>rw[zav] at h; cases (eq_of_beq h); exact⟨.bl b,rfl,λ_=>RD.bl'⟩
  | _=>cases h
 | .int i,u,h=>by
  cases u with
  | int j t=>rw[zav] at h; cases (eq_of_beq h); exact⟨.int i,⟨t,rfl⟩,λ_=>RD.int'⟩
  | _=>cases h
 | .str x,u,h=>by
  cases u with
  | str y t=>rw[zav] at h; cases (eq_of_beq h); exact⟨.str x,⟨t,rfl⟩,λ_=>RD.str'⟩
  | _=>cases h
 | .tup ds,u,h=>by
  cases u with
  | ref a=>
   rw[zav] at h
   split at h
   ·rename_i o ho
    rw[Bool.and_eq_true] at h;obtain⟨h1,h2⟩:=h
    split at h2
    ·rename_i its n hd
     rw[Bool.and_eq_true,Bool.and_eq_true] at h2;obtain⟨vs,r,q⟩:=zau ds h2.2;refine⟨.ref a,rfl,λG=>by
      rw[RD];refine⟨a,vs,rfl,.inr ⟨o,its,n,ho,?_,hd,of_decide_eq_true h2.1.1,r,Option.isNone_iff_eq_none.mp h2.1.2⟩,q G⟩
      split at h1
      ·rename_i t ht; rw[ht,eq_of_beq h1]
      ·cases h1⟩
    ·cases h2
   ·cases h
  | _=>cases h
 | .lst _,_,h=>by cases h
 | .dct _ _,_,h=>by cases h
 | .fn _,_,h=>by cases h
 | .exc _,_,h=>by cases h
def zau:∀(ds:List D) {us:List Value},zcc K ds us=true->∃vs,Vals vs us/\∀G,RDs K mg G ds vs
 | [],[],_=>⟨[],.nil,λ_=>RDs.nil⟩
 | [],_::_,h=>by cases h
 | _::_,[],h=>by cases h
 | d::ds,u::us,h=>by
  rw[zcc,Bool.and_eq_true] at h;obtain⟨v,r,q⟩:=zcd d h.1;obtain⟨vs,rs,qs⟩:=zau ds h.2;exact⟨v::vs,.cons r rs,λG=>RDs.cons (q G) (qs G)⟩
end
end
def zlz {X:Cx}{E:XK}{x:Str}{d:D}{pos:Pos}(hg:Gl X x)(hk:zle X.K X.mg x d)(hd:(x == ("__debug__":Str))=false:=by decide):QX X E (.Name x pos) (.c d):=by
 obtain⟨u,hm,h⟩:=hk;obtain⟨v,r,q⟩:=zcd (mg:=X.mg) d h;exact qx_c ⟨ze8 hg hm r hd⟩ q
end Pu
namespace Pu
open PySem L2
def z66:D :=.tup [.tup [.int (1),.int (0)],.tup [.int (0),.int (1)],.tup [.int (-1),.int (0)],.tup [.int (0),.int (-1)]]
def z5x:Fn:=Fn.mkN 1 1 (.ret (.op pTup [(.op pIx [(.v 0),(.c (.int 1))]),(.op pNeg [(.op pIx [(.v 0),(.c (.int 0))])])]))
def z2n:Fn:=Fn.mkN 2 6 (.seq (.ifs (.op pEq [(.op pLen [(.v 0)]),(.c (.int 1))]) (.ret (.comp 1 [0] (.nm 0) (.c z66) none (.op pTup [(.v 0),(.op pIx [(.v 1),(.c (.int 0))])]))) .skip)
 (.seq (.own 2 (.op pLst []))
 (.seq (.forr [(.op pLen [(.v 0)])] (.nm 3) (.seq (.set 4 (.op pIx [(.v 0),(.v 3)]))
 (.seq (.set 5 (.callv zeN 1 [(.op pIx [(.v 0),(.op pSub [(.v 3),(.c (.int 1))])]),(.v 4)]))
 (.seq (.app 2 (.op pTup [(.op z5x [(.v 5)]),(.v 4)]))
 (.ifs (.op pEq [(.op pLen [(.v 0)]),(.c (.int 2))]) (.app 2 (.op pTup [(.v 5),(.v 4)])) .skip)))))
 (.ret (.v 2)))))
def z5w:Fn:=Fn.mkN 1 2 (.seq (.set 1 (.op z2n [(.op z1e [(.v 0)]),(.c (.fn 2))]))
 (.ret (.op z4w [(.comp 2 [] (.tp [0,1]) (.v 1) none (.op pTup [(.v 0),(.op z3A [(.v 0),(.v 1)])]))])))
end Pu
namespace Geo
def Hd (l h:List P):Prop:=∃rl:List P,rl.Pairwise Lx/\(∀p,p∈rl↔p∈l)/\h=hull rl
def Hd.is {l h:List P}(x:Hd l h)(hn:l≠[]):z1W (· ∈ l) h:=by
 obtain⟨rl,h1,h2,rfl⟩:=x;have hne:rl≠[]:=λz=>by
  cases l with
  | nil=>exact hn rfl
  | cons p l=>have:=(h2 p).mpr (by simp); rw[z] at this; cases this
 have:=ziw hne h1;have e:(λp=>p∈rl)=λp=>p∈l:=funext λp=>propext (h2 p);rw[e] at this;exact this
def z9t {R:P->P->Prop}:∀{l:List P}{i:Nat}{a b:P},Path R l->l[i]? = some a->l[i+1]? = some b->R a b
 | [],_,_,_,_,e,_=>by simp at e
 | [_],i,_,_,_,e,f=>by simp at f
 | x::y::r,0,a,b,h,e,f=>by
  simp at e f;subst e; subst f;exact h.1
 | x::y::r,i+1,a,b,h,e,f=>z9t (l:=y::r) (i:=i) h.2 (by simpa using e) (by simpa using f)
def z6s {R:P->P->Prop}:∀{u v:List P},Path R (u++v)->Path R v
 | [],_,h=>h
 | [x],[],_=>trivial
 | [x],y::v,h=>h.2
 | x::y::u,v,h=>z6s (u:=y::u) h.2
def z93 {R:P->P->Prop}(det:∀a b c,R a b->R a c->b=c){m:P}:∀{t:List P},m ∉ t->Path R (t++[m])->t.Nodup
 | [],_,_ =>.nil
 | a::t,hm,h=>by
  rw[List.nodup_cons];have hm':m ∉ t:=λz=>hm (List.mem_cons_of_mem _ z);refine⟨λha =>?_,z93 det hm' (z6s (u:=[a]) h)⟩;obtain⟨u,v,e⟩:=List.append_of_mem ha;have h2:Path R (a::v++[m]):=by
   have:Path R ((a::u)++(a::v++[m])):=by rw[e] at h; simpa using h
   exact z6s this
  have hv:m ∉ v:=λz=>hm' (by rw[e]; simp[z]);have:=z5Y det hm' hv h h2;have:=congrArg List.length this;rw[e] at this;simp at this;lia
def z1W.nodup {S:P->Prop}{h:List P}(x:z1W S h):h.Nodup:=by
 obtain⟨m,t,rfl,h1,h2,h3,h4⟩:=x.ex
 rcases h4 with ⟨rfl,_⟩ | ⟨_,h4⟩
 ·simp
 ·rw[List.nodup_cons];exact⟨h3,z93 (λa b c e f=>e.det f) h3 (z6s (u:=[m]) h4)⟩
def z1W.sub {S:P->Prop}{h:List P}(x:z1W S h):∀p∈h,S p:=by
 obtain⟨m,t,rfl,h1,h2,h3,h4⟩:=x.ex
 rcases h4 with ⟨rfl,_⟩ | ⟨ht,h4⟩
 ·intro p hp;simp at hp;subst hp; exact h1
 ·intro p hp;obtain⟨i,hi,e⟩:=List.mem_iff_getElem.mp hp;have h5:(m::t++[m])[i]? = some p:=by rw[List.getElem?_append_left hi,List.getElem?_eq_getElem hi,e]
  have hi2:i+1<(m::t++[m]).length:=by simp at hi ⊢; lia
  exact(z9t h4 h5 (List.getElem?_eq_getElem hi2)).sa
def Edge.less {S T:P->Prop}{a b:P}(e:Edge S a b)(h:∀p,T p->S p)(ha:T a)(hb:T b):Edge T a b:=⟨ha,hb,e.ne,λp hp=>e.left p (h p hp),λp hp=>e.btw p (h p hp)⟩
def zai {S T:P->Prop}(h:∀p,T p->S p):∀{l:List P},(∀p∈l,T p)->Path (Edge S) l->Path (Edge T) l
 | [],_,_=>trivial
 | [_],_,_=>trivial
 | a::b::r,hl,hp=>⟨hp.1.less h (hl a (by simp)) (hl b (by simp)),zai h (l:=b::r) (λp hp=>hl p (List.mem_cons_of_mem _ hp)) hp.2⟩
def z1W.of {S T:P->Prop}{h:List P}(x:z1W S h)(ht:∀p,T p->S p)(hh:∀p∈h,T p):z1W T h:=by
 obtain⟨m,t,rfl,h1,h2,h3,h4⟩:=x.ex;refine⟨m,t,rfl,hh m (by simp),λp hp=>h2 p (ht p hp),h3,?_⟩
 rcases h4 with ⟨rfl,h4⟩ | ⟨hne,h4⟩
 ·exact .inl ⟨rfl,λp hp=>h4 p (ht p hp)⟩
 ·exact .inr ⟨hne,zai ht (λp hp=>by
   rcases List.mem_append.mp hp with z | z
   ·exact hh p z
   ·rw[List.mem_singleton.mp z]; exact hh m (by simp)) h4⟩
end Geo
local macro_rules | `(tactic| walk_at "bt") => `(tactic| first | assumption | (refine L2.Bt.add ?_ ?_ <;> walk_at "bt") | (refine L2.Bt.sub ?_ ?_ <;> walk_at "bt") | (refine L2.Bt.mul ?_ ?_ <;> walk_at "bt") | (refine L2.Bt.neg ?_; walk_at "bt") | exact L2.bt_k (by decide +kernel) | exact L2.bt_n (by omega) (by omega))
local macro_rules | `(tactic| walk_at "mu") => `(tactic| exact⟨L2.Bt.le (by walk_at "bt") (by decide),L2.Bt.le (by walk_at "bt") (by decide)⟩)
local macro_rules | `(tactic| walk_at "ps") => `(tactic| first | assumption | decide | omega)
local macro_rules | `(tactic| walk_at "bb") => `(tactic| first | exact L2.zcu (by decide) (by decide) | exact L2.Bt.le (by walk_at "bt") (by decide) | exact L2.zcu (by omega) (by omega))
local macro_rules | `(tactic| walk_at "sf") => `(tactic| first | exact Pu.Safe.of_noL rfl rfl _ | exact Pu.Safe.of_noL (Pu.z6x _) (Pu.z6y _) _ | (repeat (first | exact trivial | refine⟨trivial,?_⟩)) | assumption)
local macro_rules | `(tactic| walk_at "en") => `(tactic| try simp only[List.set_cons_zero,List.set_cons_succ,List.map_cons,List.map_nil,List.replicate,List.cons_append,List.nil_append,Nat.reduceSub,Pu.dem,Pu.vis,Pu.visB,Pu.demB,List.getElem?_cons_zero,List.getElem?_cons_succ,Option.getD_some,Pu.z2f,List.replicate_succ,List.replicate_zero])
local macro_rules | `(tactic| walk_at "st") => `(tactic| first
 | with_reducible refine Pu.e_c ?_
 | ((with_reducible refine Pu.e_v ?_); (refine Pu.zek ?_))
 | with_reducible refine Pu.zmh ?_
 | with_reducible refine Pu.zmi ?_
 | with_reducible refine Pu.zmg ?_
 | with_reducible refine Pu.zmf ?_
 | with_reducible refine Pu.zme ?_
 | with_reducible refine Pu.zhD ?_
 | with_reducible refine Pu.zjr ?_
 | with_reducible refine Pu.zm6 ?_
 | with_reducible refine Pu.zlY ?_
 | with_reducible refine Pu.zm0 ?_
 | ((with_reducible refine Pu.zm2 ?_ ?_); (focus walk_at "mu"))
 | ((with_reducible refine Pu.zkI ?_ ?_ ?_); (focus walk_at "ps"); (focus walk_at "bb"))
 | ((with_reducible refine Pu.z7T ?_ ?_); (focus walk_at "ps"))
 | ((with_reducible refine Pu.zlZ ?_ ?_); (focus exact⟨by decide,by decide,by decide⟩))
 | ((with_reducible refine Pu.zm4 ?_); (try refine Pu.zek ?_))
 | ((with_reducible refine Pu.zm5 ?_); (try refine Pu.zek ?_))
 | with_reducible refine Pu.o_lt ?_
 | with_reducible refine Pu.o_le ?_
 | with_reducible refine Pu.o_gt ?_
 | with_reducible refine Pu.o_ge ?_
 | with_reducible refine Pu.o_eq ?_
 | with_reducible refine Pu.o_ne ?_
 | with_reducible refine Pu.o_is ?_
 | with_reducible refine Pu.zii ?_
 | with_reducible refine Pu.zkz ?_
 | with_reducible refine Pu.zky ?_
 | ((with_reducible refine Pu.zlX ?_ ?_); (focus (simp only[List.length_cons,List.length_nil]; decide)))
 | ((with_reducible refine Pu.zm3 ?_ ?_); (focus (simp only[List.length_cons,List.length_nil]; decide)))
 | with_reducible refine Pu.zks ?_
 | with_reducible refine Pu.zkr ?_
 | with_reducible refine Pu.zkx ?_
 | with_reducible refine Pu.zkw ?_
 | with_reducible refine Pu.zm7 ?_
 | with_reducible refine Pu.zkG ?_
 | with_reducible refine Pu.zkH ?_
 | with_reducible refine Pu.zkE ?_
 | with_reducible refine Pu.zkF ?_
 | with_reducible refine Pu.zkA ?_
 | with_reducible refine Pu.zkD ?_
 | with_reducible refine Pu.zkB ?_
 | with_reducible refine Pu.zkC ?_
 | with_reducible refine Pu.zku ?_
 | with_reducible refine Pu.zkt ?_
 | with_reducible refine Pu.zml ?_
 | with_reducible refine Pu.e_or ?_
 | with_reducible refine Pu.zmj ?_
 | with_reducible refine Pu.n_bl ?_
 | with_reducible refine Pu.zmk ?_
 | with_reducible refine Pu.zl3 ?_
 | with_reducible refine Pu.zm9 ?_
 | with_reducible refine Pu.zm8 ?_
 | with_reducible refine Pu.e_sl ?_
 | with_reducible refine Pu.zmd ?_
 | with_reducible refine Pu.zkf ?_
 | with_reducible refine Pu.zke ?_
 | with_reducible refine Pu.zkX ?_
 | with_reducible refine Pu.zmq ?_
 | with_reducible refine Pu.zmp ?_
 | with_reducible refine Pu.za7 ?_
 | with_reducible refine Pu.z5Z ?_
 | with_reducible refine Pu.z9l ?_
 | with_reducible refine Pu.zlk ?_
 | with_reducible refine Pu.zfx ?_
 | with_reducible refine Pu.zjh ?_
 | with_reducible refine Pu.s_if ?_
 | with_reducible refine Pu.zll ?_
 | with_reducible refine Pu.zji ?_
 | with_reducible refine Pu.zgH ?_
 | with_reducible refine Pu.s_ex ?_
 | with_reducible refine Pu.zhw ?_
 | with_reducible refine Pu.zjo ?_
 | ((with_reducible refine Pu.zlm ?_); (walk_at "en"))
 | with_reducible refine Pu.zhB ?_
 | with_reducible refine Pu.zhA ?_
 | ((with_reducible refine Pu.z3p ?_ ?_); (focus walk_at "sf"); (walk_at "en"))
 | ((with_reducible refine Pu.zmn ?_); (walk_at "en"))
 | ((with_reducible refine Pu.zl6 ?_); (walk_at "en")))
local macro_rules | `(tactic| walk_at "go") => `(tactic| repeat walk_at "st")
local macro_rules | `(tactic| walk_at "fn") => `(tactic| ((refine Pu.zln rfl ?_); (walk_at "en")))
local macro_rules | `(tactic| walk_at "fe") => `(tactic| ((refine Pu.zlo rfl ?_); (walk_at "en")))
local macro_rules | `(tactic| ac_nf) => `(tactic| walk_at "go")
local macro_rules | `(tactic| ac_rfl) => `(tactic| walk_at "en")
namespace Pu
open PySem L2
def szl {n:Nat}(h:n<=1000000):n<=sizeLine:=Nat.le_trans h (by decide)
def szl' {n:Nat}(h:n<=1000000):n<sizeLine:=Nat.lt_of_le_of_lt h (by decide)
abbrev Vb (n:Nat)(p:Int × Int):Prop:=Bt n p.1/\Bt n p.2
abbrev Wb (n:Nat)(l:List (Int × Int)):Prop:=∀p∈l,Vb n p
def Vb.le {m n:Nat}{p:Int × Int}(h:Vb m p)(q:m<=n:=by decide):Vb n p:=⟨h.1.le q,h.2.le q⟩
def Wb.le {m n:Nat}{l:List (Int × Int)}(h:Wb m l)(q:m<=n:=by decide):Wb n l:=λp hp=>(h p hp).le q
def s_turn_of {p r:Int × Int}{Q:DK}{X:XP}(h1:Vb 30000000 p)(h2:Vb 30000000 r)(q:Q (.int (p.1*r.2 - p.2*r.1))):z3f.run [vec p,vec r] Q X:=by
 obtain⟨a1,a2⟩:=h1;obtain⟨b1,b2⟩:=h2;walk_at "fn";ac_nf;exact q
def s_dot_of {p r:Int × Int}{Q:DK}{X:XP}(h1:Vb 30000000 p)(h2:Vb 30000000 r)(q:Q (.int (p.1*r.1+p.2*r.2))):z3A.run [vec p,vec r] Q X:=by
 obtain⟨a1,a2⟩:=h1;obtain⟨b1,b2⟩:=h2;walk_at "fn";ac_nf;exact q
def s_step_of {p r:Int × Int}{Q:DK}{X:XP}(q:Q (vec (r.1 - p.1,r.2 - p.2))):z1M.run [vec p,vec r] Q X:=by
 walk_at "fn";ac_nf;exact q
def Vb.step {p r:Int × Int}(h:Vb 20000000 p)(k:Vb 20000000 r):Vb 30000000 (r.1 - p.1,r.2 - p.2):=⟨(Bt.sub k.1 h.1).le,(Bt.sub k.2 h.2).le⟩
def s_turn_by {a b c:Int × Int}{Q:DK}{X:XP}(h1:Vb 20000000 a)(h2:Vb 20000000 b)(h3:Vb 20000000 c)(q:Q (.int (Geo.cr a b c))):z6M.run [vec a,vec b,vec c] Q X:=by
 walk_at "fn";ac_nf;refine s_step_of ?_;ac_nf;refine s_step_of ?_;refine s_turn_of (h1.step h2) (h2.step h3) ?_;have e:(b.1 - a.1)*(c.2 - b.2) - (b.2 - a.2)*(c.1 - b.1)=Geo.cr a b c:=by unfold Geo.cr; grind
 dsimp only;rw[e];exact q
def zeQ {T:Nat->Fn}{i n:Nat}{es:List Ex}{ρ:Pu.Env}{Q:DK}{X:XP}(h:ρ.get i=some (.fn n))(q:runs es ρ (λds=>(T n).run ds Q X) X):(Ex.callv T i es).run ρ Q X:=⟨n,h,q⟩
def zel {l:List D}{Q:DK}{X:XP}(q:Q (.lst l.reverse)):z31.run [.lst l] Q X:=q
def zhf {α:Type}{b:α}{r:List α}:atI (b::r).reverse (-1)=some b:=by
 unfold atI ixN;rw[if_neg (by decide),List.length_reverse,List.length_cons,if_pos (by lia)];show (b::r).reverse[((-1:Int)+((r.length+1:Nat):Int)).toNat]? = some b;rw[show ((-1:Int)+((r.length+1:Nat):Int)).toNat=r.length by lia];simp
def zfa {α:Type}{a b:α}{r:List α}:atI (b::a::r).reverse (-2)=some a:=by
 unfold atI ixN;rw[if_neg (by decide),List.length_reverse,List.length_cons,List.length_cons,if_pos (by lia)];show (b::a::r).reverse[((-2:Int)+((r.length+1+1:Nat):Int)).toNat]? = some a;rw[show ((-2:Int)+((r.length+1+1:Nat):Int)).toNat=r.length by lia];simp
def s_chain_of {l:List (Int × Int)}{Q:DK}{X:XP}(hb:Wb 20000000 l)(hz:l.length<=100000)(q:Q (.lst ((Geo.z21 l).reverse.map vec))):z4z.run [.lst (l.map vec),.fn 0] Q X:=by
 walk_at "fn";refine z9l (zfx ?_);ac_nf;refine z3H (λx hx=>by cases hx) ?_;ac_rfl;ac_nf;refine z1D (f:=vec) (λdn ρ=>∃(st:List (Int × Int)) (x:B),st=Geo.z21 dn/\(∀p∈st,p∈l)/\st.length<=dn.length/\ρ=[.s (.lst (l.map vec)),.s (.fn 0),.o (.lst (st.reverse.map vec)),x]) ⟨[],_,rfl,(λp hp=>by cases hp),Nat.le_refl _,rfl⟩ ?_ ?_
 ·rintro dn v r ρ e ⟨st,x,hst,hsub,hlen,rfl⟩;have hv:v∈l:=by rw[e]; simp
  show Sm.run _ _ _ _ _;ac_rfl;refine Sm.cut (λρ=>∃st':List (Int × Int),st'=Geo.pops v st/\(∀p∈st',p∈l)/\st'.length<=dn.length/\ρ=[.s (.lst (l.map vec)),.s (.fn 0),.o (.lst (st'.reverse.map vec)),.s (vec v)]) ?_ ?_
  ·refine z7B (λρ=>∃st':List (Int × Int),Geo.pops v st'=Geo.pops v st/\(∀p∈st',p∈l)/\st'.length<=dn.length/\ρ=[.s (.lst (l.map vec)),.s (.fn 0),.o (.lst (st'.reverse.map vec)),.s (vec v)]) (λρ=>match ρ with | [_,_,.o (.lst k),_]=>k.length | _=>0) ⟨st,rfl,hsub,hlen,rfl⟩ ?_;rintro ρ ⟨st',h1,h2,h3,rfl⟩;ac_nf
   match st',h1,h2,h3 with
   | [],h1,h2,h3=>
    refine t_no (by simp) ?_;refine z5Z ?_;exact⟨[],by rw[<- h1]; rfl,h2,h3,rfl⟩
   | [b],h1,h2,h3=>
    refine t_no (by simp) ?_;refine z5Z ?_;exact⟨[b],by rw[<- h1]; rfl,h2,h3,rfl⟩
   | b::a::r,h1,h2,h3=>
    refine z9g (by simp; lia) ?_;ac_nf;refine zeQ rfl ?_;ac_nf;refine z2v (z1a zfa) ?_;ac_nf;refine z2v (z1a zhf) ?_;ac_nf;have hB:∀p,p∈l->Vb 20000000 p:=hb;refine s_turn_by (hB a (h2 a (by simp))) (hB b (h2 b (by simp))) (hB v hv) ?_;ac_nf;refine z2d (λhc =>?_) (λhc =>?_)
    ·refine zjj (z1Q rfl ?_);unfold popL;rw[List.length_map,List.length_reverse,List.getElem?_map,show (b::a::r).reverse[(b::a::r).length - 1]? = some b by simp];refine⟨⟨a::r,?_,λp hp=>h2 p (List.mem_cons_of_mem _ hp),by simp at h3 ⊢; lia,?_⟩,?_⟩
     ·rw[<- h1];show _=Geo.pops v (b::a::r);rw[Geo.pops,if_pos hc]
     ·simp
     ·simp
    ·exact⟨b::a::r,by rw[<- h1,Geo.pops,if_neg hc],h2,h3,rfl⟩
  ·rintro ρ ⟨st',h1,h2,h3,rfl⟩;refine z9m (l:=[]) (z1Q rfl ?_);ac_nf;have hdl:dn.length<l.length:=by rw[e]; simp
   refine⟨by simp; exact szl' (by lia),Safe.of_noL rfl rfl _,?_⟩;ac_rfl;refine⟨v::st',.s (vec v),?_,λp hp =>?_,by simp; lia,by simp⟩
   ·unfold Geo.z21 at hst ⊢;rw[List.foldl_append, <- hst,h1]
    rfl
   ·rcases List.mem_cons.mp hp with rfl | hp
    ·exact hv
    ·exact h2 p hp
 rintro ρ ⟨st,x,hst,hsub,hlen,rfl⟩;ac_nf;rw[hst];exact q
def z9W {α:Type}(l:List α):(l.drop (HT.sIx l.length 0 none)).take (HT.sIx l.length l.length (some (-1)) - HT.sIx l.length 0 none)=l.dropLast:=by
 rw[List.dropLast_eq_take];show (l.drop 0).take ((if (-1:Int)<0 then ((-1:Int)+(l.length:Int)).toNat else min (-1:Int).toNat l.length) - 0)=_;rw[if_pos (by decide),List.drop_zero]
 congr 1
 lia
def s_least_round {l:List (Int × Int)}{Q:DK}{X:XP}(hb:Wb 20000000 l)(hz:l.length<=100000)(q:Q (vecs (Geo.hull l))):z3z.run [.lst (l.map vec),.fn 0] Q X:=by
 walk_at "fn";ac_nf;rw[List.length_map];refine z2d (λh =>?_) (λh =>?_)
 ·ac_nf;rw[Geo.hull,if_pos (by lia)] at q;exact q
 ac_nf;refine s_chain_of hb hz ?_;have c1:∀(l:List (Int × Int)) (s:List (Int × Int)),(l.foldl (λs v=>v::Geo.pops v s) s).length<=l.length+s.length:=by
  have c0:∀(v:Int × Int) (s:List (Int × Int)),(Geo.pops v s).length<=s.length:=by
   intro v s
   induction s with
   | nil=>exact Nat.le_refl _
   | cons b s ih=>
    cases s with
    | nil=>exact Nat.le_refl _
    | cons a s=>
     rw[Geo.pops]
     split
     ·exact Nat.le_succ_of_le ih
     ·exact Nat.le_refl _
  intro l
  induction l with
  | nil=>intro s; simp
  | cons v l ih=>
   intro s;rw[List.foldl_cons];have:=ih (v::Geo.pops v s);have:=c0 v s;simp only[List.length_cons] at*;lia
 have c2:(Geo.z21 l).length<=l.length:=Nat.le_trans (c1 l []) (Nat.le_refl _);have c3:(Geo.z21 l.reverse).length<=l.length:=Nat.le_trans (c1 l.reverse []) (by simp);refine z3p ?_ ?_
 ·exact⟨trivial,trivial,trivial,trivial,trivial⟩
 ac_rfl;ac_nf;refine zel ?_;ac_nf;rw[<- List.map_reverse];refine s_chain_of (λp hp=>hb p (by simpa using hp)) (by simpa using hz) ?_;refine z3p ⟨trivial,trivial,trivial,trivial,trivial⟩ ?_;ac_rfl;ac_nf;rw[z6f,z6f,z9W,z9W];refine zen (by simp; exact szl (by lia)) ?_;ac_nf;rw[<- List.map_append];rw[Geo.hull,if_neg (by lia)] at q;exact q
def zkN {a b:Int × Int}:HT.z3e [a.1,a.2] [b.1,b.2]=true↔Geo.Lx a b:=by
 rw[HT.z2Z,HT.z2Z];unfold Geo.Lx
 split
 ·rename_i h
  split
  ·rename_i h'
   rw[HT.z9J]
   constructor
   ·intro z; cases z
   ·rintro(z | z) <;> lia
  ·simp; lia
 ·simp; lia
def pk (p:Int × Int):List Int:=[p.1,p.2]
def zgV {p r:Int × Int}(h:pk p=pk r):p=r:=by
 unfold pk at h
 injection h with h1 h2
 injection h2 with h2 _
 exact Prod.ext h1 h2
def zbP:∀{ks kl:List (List Int)}{l:List (Int × Int)},ks=l.map pk->Rows ks kl->∃rl:List (Int × Int),kl=rl.map pk/\rl.Pairwise Geo.Lx/\∀p,p∈rl↔p∈l:=by
 intro ks kl l e h;have h1:∀k∈kl,∃p,k=pk p:=λk hk=>by
  have:=(h.mem k).mp hk;rw[e] at this;obtain⟨p,_,rfl⟩:=List.mem_map.mp this;exact⟨p,rfl⟩
 have h2:∃rl:List (Int × Int),kl=rl.map pk:=by
  clear h e
  induction kl with
  | nil=>exact⟨[],rfl⟩
  | cons k kl ih=>
   obtain⟨p,hp⟩:=h1 k List.mem_cons_self;obtain⟨rl,hr⟩:=ih λk hk=>h1 k (List.mem_cons_of_mem _ hk);exact⟨p::rl,by rw[hp,hr]; rfl⟩
 obtain⟨rl,rfl⟩:=h2;refine⟨rl,rfl,?_,λp =>?_⟩
 ·have:=h.up;rw[List.pairwise_map] at this;exact this.imp λz=>zkN.mp z
 ·have:=h.mem (pk p);rw[e] at this
  constructor
  ·intro hp;obtain⟨r,hr,er⟩:=List.mem_map.mp (this.mp (List.mem_map.mpr ⟨p,hp,rfl⟩));rw[<- zgV er]; exact hr
  ·intro hp;obtain⟨r,hr,er⟩:=List.mem_map.mp (this.mpr (List.mem_map.mpr ⟨p,hp,rfl⟩));rw[<- zgV er]; exact hr
def Vs (d:D)(l:List (Int × Int)):Prop:=d = .tup (l.map vec)\/False
def zdj (l:List (Int × Int)):l.map vec=(l.map pk).map tupD:=by rw[List.map_map]; rfl
def Vs.set {d:D}{l:List (Int × Int)}{P:List (List Int)->Prop}(h:Vs d l)(hz:l.length<=63)(q:P (l.map pk)):zdF d P:=by
 rcases h with rfl | h
 ·exact⟨l.map pk,zdj l,by simpa using hz,q⟩
 ·exact h.elim
def s_least_headings {d:D}{l:List (Int × Int)}{Q:DK}{X:XP}(hd:Vs d l)(hb:Wb 20000000 l)(hz:l.length<=63)(q:∀h,Geo.Hd l h->Q (vecs h)):z1e.run [d] Q X:=by
 walk_at "fn";ac_nf;refine hd.set hz ⟨λk hk =>?_,λkl h =>?_⟩
 ·obtain⟨p,_,rfl⟩:=List.mem_map.mp hk;unfold pk;simp
 obtain⟨rl,rfl,h1,h2⟩:=zbP rfl h;ac_nf;rw[<- zdj];have nd:rl.Nodup:=h1.imp λz=>z.ne;have hl:rl.length<=l.length:=z3L nd λx hx=>(h2 x).mp hx;exact s_least_round (λp hp=>hb p ((h2 p).mp hp)) (by lia) (q _ ⟨rl,h1,h2,rfl⟩)
def dot (p r:Int × Int):Int:=p.1*r.1+p.2*r.2
def s_farthest {l:List (Int × Int)}{b:Int × Int}{Q:DK}{X:XP}(hb:Vb 30000000 b)(hl:Wb 30000000 l)(hn:l≠[])(hz:l.length<sizeLine)(q:∀m,m∈l.map (dot · b)->(∀p∈l,dot p b<=m)->Q (.int m)):z5z.run [vecs l,vec b] Q X:=by
 walk_at "fn";ac_nf;refine⟨by rw[List.length_map]; exact hz,?_⟩;refine z3g (g:=λp =>.int (dot p b)) (λp hp K hK =>?_) ?_
 ·ac_nf;exact s_dot_of (hl p hp) hb hK
 have e:(l.map λp=>D.int (dot p b))=(l.map (dot · b)).map D.int:=by rw[List.map_map]; rfl
 rw[e];refine zkv (by simpa using hn) λk hk hx=>q k hk λp hp=>hx _ (List.mem_map.mpr ⟨p,hp,rfl⟩)
end Pu
namespace Geo
def z1W.cyc {S:P->Prop}{h:List P}(x:z1W S h)(hl:2<=h.length){j:Nat}(hj:j<h.length){a b:P}(ea:h[(j+h.length - 1) % h.length]? = some a)(eb:h[j]? = some b):Edge S a b:=by
 obtain⟨m,t,rfl,h1,h2,h3,h4⟩:=x.ex
 rcases h4 with ⟨rfl,_⟩ | ⟨_,h4⟩
 ·simp at hl
 cases j with
 | zero=>
  rw[show (0+(m::t).length - 1) % (m::t).length=(m::t).length - 1 by rw[Nat.zero_add]; exact Nat.mod_eq_of_lt (by lia)] at ea;simp at eb;subst eb;refine z9t (i:=(m::t).length - 1) h4 ?_ ?_
  ·rw[List.getElem?_append_left (by lia)]; exact ea
  ·rw[show (m::t).length - 1+1=(m::t).length by lia,List.getElem?_append_right (Nat.le_refl _)]; simp
 | succ j=>
  rw[show (j+1+(m::t).length - 1) % (m::t).length=j by rw[show j+1+(m::t).length - 1=j+(m::t).length by lia,Nat.add_mod_right]; exact Nat.mod_eq_of_lt (by lia)] at ea;refine z9t (i:=j) h4 ?_ ?_
  ·rw[List.getElem?_append_left (by lia)]; exact ea
  ·rw[List.getElem?_append_left hj]; exact eb
def In (h:List P)(p:P):Prop:=match h with
 | []=>False
 | [m]=>p=m
 | [a,b]=>cr a b p=0/\0<=dot a b p/\0<=dot b a p
 | h=>∀j a b,j<h.length->h[(j+h.length - 1) % h.length]? = some a->h[j]? = some b->0<=cr a b p
def z1W.in {S:P->Prop}{h:List P}(x:z1W S h){p:P}(hp:S p):In h p:=by
 match h,x with
 | [],x=>obtain⟨m,t,e,_⟩:=x.ex; cases e
 | [m],x=>
  obtain⟨m',t,e,h1,h2,h3,h4⟩:=x.ex
  cases e
  rcases h4 with ⟨_,h4⟩ | ⟨h4,_⟩
  ·exact h4 p hp
  ·exact absurd rfl h4
 | [a,b],x=>
  have e1:Edge S a b:=x.cyc (j:=1) (by simp) (by simp) (by simp) rfl;have e2:Edge S b a:=x.cyc (j:=0) (by simp) (by simp) (by simp) rfl;have z0:cr b a p = -cr a b p:=by unfold cr; grind
  have z:cr a b p=0:=by have:=e1.left p hp; have:=e2.left p hp; lia
  exact⟨z,e1.btw p hp z⟩
 | a::b::c::r,x=>exact λj y z hj ey ez=>(x.cyc (by simp) hj ey ez).left p hp
def cy (h:List P)(i:Nat):P:=h.getD (i % h.length) (0,0)
def z4f {h:List P}{i:Nat}(hl:0<h.length):h[i % h.length]? = some (cy h i):=by
 unfold cy;have:=Nat.mod_lt i hl;rw[List.getD_eq_getElem?_getD,List.getElem?_eq_getElem this]
 rfl
def z8n {h:List P}{i:Nat}(hl:0<h.length):cy h i∈h:=List.mem_of_getElem? (z4f hl)
def zfM {i n:Nat}(hn:0<n):((i+1) % n+n - 1) % n=i % n:=by
 have hr:=Nat.mod_lt i hn;have e:(i+1) % n=(i % n+1) % n:=by simp
 rw[e]
 rcases Nat.lt_or_ge (i % n+1) n with z | z
 ·rw[Nat.mod_eq_of_lt z,show i % n+1+n - 1=i % n+n by lia,Nat.add_mod_right,Nat.mod_eq_of_lt hr]
 ·have:i % n+1=n:=by lia
  rw[this,Nat.mod_self,Nat.zero_add,Nat.mod_eq_of_lt (by lia)];lia
def z8o {S:P->Prop}{h:List P}(x:z1W S h)(hl:2<=h.length)(i:Nat):Edge S (cy h i) (cy h (i+1)):=
 x.cyc hl (j:=(i+1) % h.length) (Nat.mod_lt _ (by lia)) (by rw[zfM (by lia)]; exact z4f (by lia)) (z4f (by lia))
end Geo
namespace Pu
open PySem L2
def zfb {α:Type}{l:List α}{k:Nat}(h:k<l.length):atI l (k:Int)=l[k]? := by
 unfold atI ixN;rw[if_pos (by lia),if_pos (by lia)];simp
def zms {α:Type}{l:List α}{k:Nat}(h:k<l.length):atI l ((k:Int) - 1)=l[(k+l.length - 1) % l.length]? := by
 unfold atI ixN
 by_cases h0:0<=(k:Int) - 1
 ·rw[if_pos h0,if_pos (by lia)];show l[((k:Int) - 1).toNat]? = _;rw[show (k+l.length - 1) % l.length=k - 1 by rw[show k+l.length - 1=(k - 1)+l.length by lia,Nat.add_mod_right]; exact Nat.mod_eq_of_lt (by lia)]
  congr 1
  lia
 ·rw[if_neg h0,if_pos (by lia)];have hk:k=0:=by lia
  subst hk;show l[(((0:Nat):Int) - 1+(l.length:Int)).toNat]? = _;rw[show (0+l.length - 1) % l.length=l.length - 1 by rw[Nat.zero_add]; exact Nat.mod_eq_of_lt (by lia)]
  congr 1
  lia
abbrev P:=Geo.P
def stp (a b:P):P:=(b.1 - a.1,b.2 - a.2)
def rt (s:P):P:=(s.2,-s.1)
def z1P (h:List P)(j:Nat):List (P × P):=(rt (stp (Geo.cy h (j+h.length - 1)) (Geo.cy h j)),Geo.cy h j)::if h.length=2 then [(stp (Geo.cy h (j+h.length - 1)) (Geo.cy h j),Geo.cy h j)] else []
def ways:List P:=[(1,0),(0,1),(-1,0),(0,-1)]
def z2g (h:List P):List (P × P):=if h.length=1 then ways.map λb=>(b,Geo.cy h 0) else (List.range h.length).flatMap (z1P h)
abbrev zi1 (x:P × P):D :=.tup [vec x.1,vec x.2]
def s_right_of {s:P}{Q:DK}{X:XP}(q:Q (vec (rt s))):z5x.run [vec s] Q X:=by
 walk_at "fn";ac_nf;exact q
def zaI {h:List P}{k:Nat}(hk:k<h.length):atI h (k:Int)=some (Geo.cy h k):=by
 rw[zfb hk, <- Geo.z4f (i:=k) (by lia),Nat.mod_eq_of_lt hk]
def zmm {h:List P}{k:Nat}(hk:k<h.length):atI h ((k:Int) - 1)=some (Geo.cy h (k+h.length - 1)):=by rw[zms hk,Geo.z4f (by lia)]
def s_bearings_round {h:List P}{Q:DK}{X:XP}(hz:h.length<=100000)(hn:h≠[])(q:Q (.lst ((z2g h).map zi1))):z2n.run [vecs h,.fn 2] Q X:=by
 have h0:0<h.length:=List.length_pos_iff.mpr hn;walk_at "fn";ac_nf;rw[List.length_map];refine z2d (λhl =>?_) (λhl =>?_)
 ·ac_nf;show onL (items (vecs ways)) _;ac_nf;refine⟨by rw[List.length_map]; exact szl' (by decide),?_⟩;refine z3g (g:=λb=>zi1 (b,Geo.cy h 0)) (λb hb K hK =>?_) ?_
  ·ac_nf;refine z2v (z1a (zaI (k:=0) h0)) ?_;ac_nf;exact hK
  ·rw[z2g,if_pos (by lia),List.map_map] at q;exact q
 refine zgH ?_;refine z9l (zfx ?_);ac_nf;refine z3H (λx hx=>by cases hx) ?_;ac_rfl;ac_nf;rw[List.length_map];refine zbS (by lia) (by lia) ?_;have er:((h.length:Nat):Int).toNat=h.length:=by simp
 rw[er];have hlen:∀dn:List Nat,(dn.flatMap (z1P h)).length<=2*dn.length:=by
  intro dn
  induction dn with
  | nil=>simp
  | cons k dn ih=>
   rw[List.flatMap_cons,List.length_append];have:(z1P h k).length<=2:=by unfold z1P; split <;> simp
   simp only[List.length_cons];lia
 refine z1D (f:=λ(j:Nat)=>D.int (j:Int)) (λdn ρ=>∃x y z:B,(∀d,noL d=true->noD d=true->True)/\ρ=[.s (vecs h),.s (.fn 2),.o (.lst ((dn.flatMap (z1P h)).map zi1)),x,y,z]) ⟨_,_,_,λ_ _ _=>trivial,rfl⟩ ?_ ?_
 ·rintro dn k r ρ e ⟨x,y,z,_,rfl⟩;have hk:k<h.length:=by
   have:k∈List.range h.length:=by rw[e]; simp
   simpa using this
  have hd:dn.length<h.length:=by
   have:=congrArg List.length e;simp at this;lia
  have hl2:=hlen dn;show Sm.run _ _ _ _ _;ac_rfl;ac_nf;refine z2v (z1a (zaI hk)) ?_;refine z3p (Safe.of_noL rfl rfl _) ?_;ac_rfl;ac_nf;refine zeQ rfl ?_;ac_nf;refine z2v (z1a (zmm hk)) ?_;ac_nf;refine s_step_of ?_;refine z3p (Safe.of_noL rfl rfl _) ?_;ac_rfl;refine z9l (z9m (l:=[]) (z1Q rfl ?_));ac_nf;refine s_right_of ?_;ac_nf;refine⟨by rw[List.length_map]; exact szl' (by lia),Safe.of_noL rfl rfl _,?_⟩;ac_rfl;ac_nf;rw[List.length_map];refine z2d (λh2 =>?_) (λh2 =>?_)
  ·refine z9m (l:=[]) (z1Q rfl ?_);ac_nf;refine⟨by rw[List.length_append,List.length_map]; exact szl' (by simp only[List.length_cons,List.length_nil]; lia),Safe.of_noL rfl rfl _,?_⟩;ac_rfl;refine⟨.s (.int (k:Int)),.s (vec (Geo.cy h k)),.s (vec (stp (Geo.cy h (k+h.length - 1)) (Geo.cy h k))),λ_ _ _=>trivial,?_⟩;rw[List.flatMap_append,List.map_append,List.flatMap_cons,List.flatMap_nil,List.append_nil,z1P,if_pos (by lia)];simp[stp]
  ·ac_nf;refine⟨.s (.int (k:Int)),.s (vec (Geo.cy h k)),.s (vec (stp (Geo.cy h (k+h.length - 1)) (Geo.cy h k))),λ_ _ _=>trivial,?_⟩;rw[List.flatMap_append,List.map_append,List.flatMap_cons,List.flatMap_nil,List.append_nil,z1P,if_neg (by lia)];simp[stp]
 rintro ρ ⟨x,y,z,_,rfl⟩;ac_nf;rw[z2g,if_neg (by lia)] at q;exact q
def zdC {a b p:P}:dot p (rt (stp a b))<=dot b (rt (stp a b))↔0<=Geo.cr a b p:=by
 have e:dot b (rt (stp a b)) - dot p (rt (stp a b))=Geo.cr a b p:=by
  unfold dot rt stp Geo.cr;dsimp only
  grind
 lia
def zdD {a b p:P}:dot p (stp a b)<=dot b (stp a b)↔0<=Geo.dot b a p:=by
 have e:dot b (stp a b) - dot p (stp a b)=Geo.dot b a p:=by
  unfold dot stp Geo.dot;dsimp only
  grind
 lia
def z7H {h:List P}{s:P × P}(hl:h.length≠1)(hs:s∈z2g h):∃j,j<h.length/\s∈z1P h j:=by
 rw[z2g,if_neg hl,List.mem_flatMap] at hs;obtain⟨j,hj,hs⟩:=hs;exact⟨j,List.mem_range.mp hj,hs⟩
def z7U {h:List P}{s:P × P}{j:Nat}(hl:h.length≠1)(hj:j<h.length)(hs:s∈z1P h j):s∈z2g h:=by
 rw[z2g,if_neg hl,List.mem_flatMap];exact⟨j,List.mem_range.mpr hj,hs⟩
def zfq {S:P->Prop}{h:List P}(x:Geo.z1W S h){s:P × P}(hs:s∈z2g h):s.2∈h/\∀p,S p->dot p s.1<=dot s.2 s.1:=by
 by_cases hl:h.length=1
 ·obtain⟨m,rfl⟩:∃m,h=[m]:=by
   match h,hl with
   | [m],_=>exact⟨m,rfl⟩
  rw[z2g,if_pos hl] at hs;obtain⟨b,hb,rfl⟩:=List.mem_map.mp hs;refine⟨by simp[Geo.cy],λp hp =>?_⟩;have:p=m:=x.in hp;subst this;exact Int.le_refl _
 ·obtain⟨j,hj,hs⟩:=z7H hl hs;have h2:2<=h.length:=by lia
  have e:=Geo.z8o x h2 (j+h.length - 1);rw[show j+h.length - 1+1=j+h.length by lia,show Geo.cy h (j+h.length)=Geo.cy h j by unfold Geo.cy; rw[Nat.add_mod_right]] at e;unfold z1P at hs
  rcases List.mem_cons.mp hs with rfl | hs
  ·exact⟨Geo.z8n (by lia),λp hp=>zdC.mpr (e.left p hp)⟩
  ·split at hs
   ·rename_i h22
    rw[List.mem_singleton.mp hs];refine⟨Geo.z8n (by lia),λp hp=>zdD.mpr ?_⟩;have f:=Geo.z8o x h2 j;have e0:Geo.cy h (j+h.length - 1)=Geo.cy h (j+1):=by unfold Geo.cy; rw[h22]; congr 1
    rw[e0] at e ⊢;have z0:Geo.cr (Geo.cy h j) (Geo.cy h (j+1)) p = -Geo.cr (Geo.cy h (j+1)) (Geo.cy h j) p:=by unfold Geo.cr; grind
    have l1:=e.left p hp;have l2:=f.left p hp;exact(f.btw p hp (by lia)).1
   ·cases hs
end Pu
namespace Geo
def sc (p b:P):Int:=p.1*b.1+p.2*b.2
def z95:∀{l:List Int},(∀x∈l,0<=x)->0<=l.sum/\∀x∈l,x<=l.sum
 | [],_=>⟨by simp,λx hx=>by cases hx⟩
 | y::l,h=>by
  have ih:=z95 (l:=l) λx hx=>h x (by simp[hx]);have hy:=h y (by simp);rw[List.sum_cons];refine⟨by lia,λx hx =>?_⟩
  rcases List.mem_cons.mp hx with rfl | hx
  ·lia
  ·have:=ih.2 x hx;lia
def zj8 (l:List Int):l.sum=((List.range l.length).map λj=>l.getD j 0).sum:=by
 congr 1
 apply List.ext_getElem
 ·simp
 ·intro i h1 h2;rw[List.getElem_map,List.getElem_range,List.getD_eq_getElem?_getD,List.getElem?_eq_getElem h1]
  rfl
end Geo
namespace Pu
open PySem L2
def zdK {l:List Int}{k:Int}{Q:DK}{X:XP}(hk:0<=k)(q:∀c,Q (.int c)):z1F.run [.lst (l.map .int),.int k] Q X:=by
 walk_at "fn";ac_nf;refine z2d (λh =>?_) (λh =>?_)
 ·ac_nf;rw[List.length_map] at h;obtain⟨v,_,e⟩:=z7l (xs:=l) hk h;rw[z1a e];exact q v
 ·ac_nf;exact q 0
def z4A {c k:Int}{Q:DK}{X:XP}(hk:Bt 640 k)(q:∀r:Int,0<=r->r<2305843009213693951->Q (.int r)):z06.run [.int c,.int k] Q X:=by
 have b1:Bt 3000 (c % 2305843009213693951+31*k+7):=(Bt.add (Bt.add (bt_n (by lia) (by lia)) (Bt.mul (bt_k (by decide +kernel)) hk)) (bt_k (by decide +kernel))).le;walk_at "fn";ac_nf;refine q _ ?_ ?_ <;> lia
def Far (m:Int)(p:Int × Int):Prop:=(-m<=p.1/\p.1<=m) /\ -m<=p.2/\p.2<=m
def Far.vb {m:Int}{n:Nat}{p:Int × Int}(h:Far m p)(hm:m<2 ^ n):Vb n p:=by
 obtain⟨⟨h1,h2⟩,h3,h4⟩:=h;have e:((2 ^ n:Nat):Int)=2 ^ n:=by simp
 refine⟨z0r ?_,z0r ?_⟩ <;> lia
def z5q {c k m:Int}{Q:DK}{X:XP}(hk:0<=k)(hk':k<=1000)(hm:0<=m)(hm':m<=1000000000)(q:∀p,Far m p->Q (vec p)):z0g.run [.int c,.int k,.int m] Q X:=by
 have b2:0<2*m+1:=by lia
 have bm:Bt 640 m:=z0r (by lia);walk_at "fn";ac_nf;refine z4A (z0r (by lia)) λr r0 r1 =>?_;ac_nf;refine z4A (z0r (by lia)) λu u0 u1 =>?_;ac_nf;have h1:=Int.emod_nonneg r (show 2*m+1≠0 by lia);have h2:=Int.emod_lt_of_pos r b2;have h3:=Int.emod_nonneg u (show 2*m+1≠0 by lia);have h4:=Int.emod_lt_of_pos u b2;exact q (r % (2*m+1) - m,u % (2*m+1) - m) ⟨⟨by show -m<=r % (2*m+1) - m; lia,by show r % (2*m+1) - m<=m; lia⟩,by show -m<=u % (2*m+1) - m; lia,by show u % (2*m+1) - m<=m; lia⟩
def zbN {c m:Int}{Q:DK}{X:XP}(hm:0<=m)(hb:Bt 300 m)(q:∀p,Far m p->Q (vec p)):z0V.run [.int c,.int m] Q X:=by
 have b2:0<2*m+1:=by lia
 have bm:Bt 640 m:=hb.le;have bw:Bt 9000 (2*m+1):=(Bt.add (Bt.mul (z0r (n:=2) (i:=2) (by decide)) hb) (z0r (n:=1) (i:=1) (by decide))).le;walk_at "fn";ac_nf;have h1:=Int.emod_nonneg c (show 2*m+1≠0 by lia);have h2:=Int.emod_lt_of_pos c b2;have h3:=Int.emod_nonneg (c / (2*m+1)) (show 2*m+1≠0 by lia);have h4:=Int.emod_lt_of_pos (c / (2*m+1)) b2;exact q (c % (2*m+1) - m,c / (2*m+1) % (2*m+1) - m) ⟨⟨by show -m<=c % (2*m+1) - m; lia,by show c % (2*m+1) - m<=m; lia⟩,by show -m<=c / (2*m+1) % (2*m+1) - m; lia,by show c / (2*m+1) % (2*m+1) - m<=m; lia⟩
def zbM {c:Int}{Q:DK}{X:XP}(q:∀r,-1000000000<=r->r<=1000000000->Q (.int r)):z1k.run [.int c] Q X:=by
 walk_at "fn";ac_nf;refine q _ ?_ ?_
 all_goals
  rw[show (10:Int) ^ (9:Int).toNat=1000000000 from by decide]
  split <;> (try split) <;> lia
def Far.le {m n:Int}{p:Int × Int}(h:Far m p)(q:m<=n):Far n p:=⟨⟨by have:=h.1.1; lia,by have:=h.1.2; lia⟩,by have:=h.2.1; lia,by have:=h.2.2; lia⟩
def zjn {s t:Sm}{ρ:Pu.Env}{N:Pu.Env->Prop}{Q:DK}{X:XP}(W:Pu.Env->Prop)(h:s.run ρ W Q X)(k:∀ρ',W ρ'->t.run ρ' N Q X):(Sm.seq s t).run ρ N Q X:=s.mono ρ W _ Q Q X X k (λ_ z=>z) (λ_ z=>z) h
def zgG {cs:List Int}{m:Int}{Q:DK}{X:XP}(hn:cs≠[])(hz:cs.length<=1000)(hm:0<=m)(hm':m<=1000000000)(q:∀l:List (Int × Int),l.length=cs.length->(∀p∈l,Far 1000000000 p)->Q (vecs l)):z1N.run [.lst (cs.map .int),.int m] Q X:=by
 obtain⟨c0,_,e0⟩:=z7l (xs:=cs) (i:=0) (by decide) (by have:=List.length_pos_iff.mpr hn; lia);walk_at "fn";ac_nf;refine z2v (z1a e0) ?_;ac_nf;refine z5q (by decide) (by decide) hm hm' λfst hf =>?_;refine z3p (Safe.of_noL rfl rfl _) ?_;ac_rfl;ac_nf;refine z2v (z1a e0) ?_;ac_nf;refine z5q (by decide) (by decide) (by decide) (by decide) λstp hs =>?_;refine z3p (Safe.of_noL rfl rfl _) ?_;ac_rfl;ac_nf;refine z2v (z1a e0) ?_;ac_nf;refine z4A (z0r (by decide)) λr r0 r1 =>?_;ac_nf;generalize r % 6=way;refine z3H (λx hx=>by cases hx) ?_;ac_rfl;ac_nf;refine z1D (f :=.int) (λdn ρ=>∃(rs:List P) (x6 x7 x8:B),(∀p∈rs,Far 1000000000 p)/\rs.length=dn.length/\ρ=[.s (.lst (cs.map .int)),.s (.int m),.s (vec fst),.s (vec stp),.s (.int way),.o (.lst (rs.map vec)),x6,x7,x8]) ⟨[],_,_,_,λ_ z=>by(cases z),rfl,rfl⟩ ?_ ?_
 ·rintro dn c r' ρ e ⟨rs,x6,x7,x8,hrs,hlen,rfl⟩;have hd:dn.length<=1000:=by
   have:=congrArg List.length e;simp at this hz;lia
  show Sm.run _ _ _ _ _;ac_rfl;ac_nf;refine z5q (by decide) (by decide) hm hm' λhg hh =>?_;refine z3p (Safe.of_noL rfl rfl _) ?_;ac_rfl;ac_nf;refine z4A (z0r (by decide)) λu u0 u1 =>?_;ac_nf;have ht : -3<=u % 7 - 3/\u % 7 - 3<=3:=by lia
  generalize u % 7 - 3=tn at*;have btn:Bt 640 tn:=z0r (by lia);obtain⟨s1,s2⟩:=hs.vb (n:=640) (by decide +kernel);refine zj1 (λρ'=>∃g,Far 1000000000 g/\ρ'=[.s (.lst (cs.map .int)),.s (.int m),.s (vec fst),.s (vec stp),.s (.int way),.o (.lst (rs.map vec)),.s (.int c),.s (vec g),.s (.int tn)]) ?_ ?_
  ·refine z2d (λ_ =>?_) (λ_ =>?_)
   ·ac_nf;refine zbM λa a0 a1 =>?_;ac_nf;refine zbM λb b0 b1 =>?_;ac_nf;exact⟨(a,b),⟨⟨a0,a1⟩,b0,b1⟩,rfl⟩
   ·ac_nf;exact⟨hg,hh.le hm',rfl⟩
  rintro ρ' ⟨g,hg',rfl⟩;refine zjn (λρ'=>∃g,Far 1000000000 g/\ρ'=[.s (.lst (cs.map .int)),.s (.int m),.s (vec fst),.s (vec stp),.s (.int way),.o (.lst (rs.map vec)),.s (.int c),.s (vec g),.s (.int tn)]) ?_ ?_
  ·ac_nf;refine z2d (λ_ =>?_) (λ_ =>?_)
   ·ac_nf;exact⟨fst,hf.le hm',rfl⟩
   ·ac_nf;exact⟨g,hg',rfl⟩
  rintro ρ' ⟨g2,hg2,rfl⟩;refine z9m (l:=[]) (z1Q rfl ?_);ac_nf;refine⟨by rw[List.length_map]; exact szl' (by lia),Safe.of_noL rfl rfl _,?_⟩;ac_rfl;refine⟨rs++[g2],_,_,_,λp hp =>?_,by simp[hlen],by rw[List.map_append]; rfl⟩
  rcases List.mem_append.mp hp with hp | hp
  ·exact hrs p hp
  ·rw[List.mem_singleton.mp hp]; exact hg2
 rintro ρ ⟨rs,x6,x7,x8,hrs,hlen,rfl⟩;ac_nf;exact q rs hlen hrs
def zdJ {l:List (Int × Int)}{Q:DK}{X:XP}(hz:l.length<=1000)(hl:∀p∈l,Far 1000000000 p)(q:∀l':List (Int × Int),l'.length=l.length->Wb 600 l'->Q (vecs l')):z1E.run [vecs l] Q X:=by
 walk_at "fn";ac_nf;refine⟨by rw[List.length_map]; exact szl' (by lia),?_⟩;refine z3g (g:=λp=>vec (p.1*10 ^ 64*10 ^ 64,p.2*10 ^ 64*10 ^ 64)) (λp hp K hK =>?_) ?_
 ·obtain⟨b1,b2⟩:=(hl p hp).vb (n:=30) (by decide);have bt:Bt 213 ((10:Int) ^ (64:Int).toNat):=z0r (by decide +kernel);have q1:Bt 640 (p.1*(10:Int) ^ (64:Int).toNat):=(Bt.mul b1 bt).le;have q2:Bt 640 (p.2*(10:Int) ^ (64:Int).toNat):=(Bt.mul b2 bt).le;ac_nf;exact hK
 ac_nf;rw[show (l.map λp=>vec (p.1*10 ^ 64*10 ^ 64,p.2*10 ^ 64*10 ^ 64))=(l.map λp=>(p.1*10 ^ 64*10 ^ 64,p.2*10 ^ 64*10 ^ 64)).map vec by rw[List.map_map]; rfl];refine q _ (by simp) λp hp =>?_;obtain⟨v,hv,rfl⟩:=List.mem_map.mp hp;obtain⟨b1,b2⟩:=(hl v hv).vb (n:=30) (by decide);have bt:Bt 213 ((10:Int) ^ 64):=z0r (by decide +kernel);exact⟨(Bt.mul (Bt.mul b1 bt) bt).le,(Bt.mul (Bt.mul b2 bt) bt).le⟩
abbrev prD (x:List P × Int):D :=.tup [vecs x.1,.int x.2]
structure Gw (l:List P):Prop where
 wb:Wb 600 l
 ne:l≠[]
 len:l.length<=62
def zap (x:List P × Int):noL (prD x)=true:=by
 have:=z6x x.1;show noLs [vecs x.1,.int x.2]=true;simpa[noLs,noL] using this
def zaq (x:List P × Int):noD (prD x)=true:=by
 have:=z6y x.1;show noDs [vecs x.1,.int x.2]=true;simpa[noDs,noD] using this
def zh2 {l:List D}{n:Int}{Q:DK}{X:XP}(h:n<=100/\0<=n/\l.length<=1000)(q:Q (.lst (List.replicate n.toNat l).flatten)):zfT.run [.lst l,.int n] Q X:=⟨h,q⟩
def zgN {p:Prop}[Decidable p]:(List.replicate (Int.toNat (if decide p=true then (1:Int) else 0)) [D.int 0]).flatten=(if p then [(0:Int)] else []).map .int:=by
 by_cases h:p <;> simp[h]
def zh4 {l r:List D}{Q:DK}{X:XP}(h:l.length+r.length<=sizeLine)(q:Q (.lst (l++r))):zcM.run [.lst l,.lst r] Q X:=⟨h,q⟩
def szs (ps:List (List P × Int)):List Nat:=ps.map λx=>x.1.length
def zdu (ps:List (List P × Int))(x:List P × Int):(szs (ps++[x])).sum=(szs ps).sum+x.1.length:=by
 unfold szs;rw[List.map_append,List.sum_append];simp
def zds:∀(l:List Nat),l.tail.sum<=l.sum
 | []=>Nat.le_refl _
 | a::l=>by rw[List.sum_cons]; exact Nat.le_add_left _ _
def zae {cs:List Int}{m:Int}{Q:DK}{X:XP}(hz:cs.length<=62)(hm:0<=m)(hb:Bt 300 m)(q:∀ps:List (List P × Int),(∀x∈ps,Gw x.1/\x.1.length<=14)->(szs ps).sum<=62->ps.length<=101->Q (.lst (ps.map prD))):z18.run [.lst (cs.map .int),.int m] Q X:=by
 walk_at "fn";ac_nf;refine z3H (λx hx=>by cases hx) ?_;ac_rfl;ac_nf;refine z9l (z7B (λρ=>∃(ps:List (List P × Int)) (a:Nat) (x4 x5:B),(∀x∈ps,Gw x.1/\x.1.length<=14)/\((szs ps).sum<=a/\(szs ps).sum<=cs.length)/\ps.length<=a/\a<=100/\ρ=[.s (.lst (cs.map .int)),.s (.int m),.o (.lst (ps.map prD)),.s (.int (a:Int)),x4,x5]) (λρ=>match ρ with | [_,_,_,.s (.int a),_,_]=>(100 - a).toNat | _=>0) ⟨[],0,_,_,λ_ z=>by(cases z),⟨by simp[szs],by simp[szs]⟩,by simp,by simp,rfl⟩ ?_);rintro ρ ⟨ps,a,x4,x5,hps,hsm,hlen,ha,rfl⟩;ac_nf;rw[List.length_map];refine z2d (λh =>?_) (λh =>?_)
 ·have hac:a<cs.length:=by lia
  obtain⟨c,_,eat⟩:=z7l (xs:=cs) (i:=(a:Int)) (by lia) (by lia);ac_nf;refine z2v (z1a eat) ?_;ac_nf;have hs:0<=c % 12/\c % 12<12:=by lia
  generalize c % 12=sz at*;rw[List.length_map];refine zh2 ⟨by split <;> lia,by split <;> lia,by simp⟩ ?_;rw[zgN,z6f];obtain⟨sl,hsl,hsl1,hsl2⟩:∃sl,sl=(cs.drop (HT.sIx cs.length 0 (some ((a:Int)+1)))).take (HT.sIx cs.length cs.length (some ((a:Int)+1+(1+sz))) - HT.sIx cs.length 0 (some ((a:Int)+1)))/\(sl.length<=1+sz.toNat/\sl.length<=cs.length - (a+1))/\((a:Int)+1≠cs.length->sl≠[]):=by
   have e1:HT.sIx cs.length 0 (some ((a:Int)+1))=a+1:=by
    show (if (a:Int)+1<0 then ((a:Int)+1+(cs.length:Int)).toNat else min ((a:Int)+1).toNat cs.length)=_;rw[if_neg (by lia)]; lia
   have e2:HT.sIx cs.length cs.length (some ((a:Int)+1+(1+sz)))=min (a+1+(1+sz.toNat)) cs.length:=by
    show (if (a:Int)+1+(1+sz)<0 then ((a:Int)+1+(1+sz)+(cs.length:Int)).toNat else min ((a:Int)+1+(1+sz)).toNat cs.length)=_;rw[if_neg (by lia)]; lia
   refine⟨_,rfl,?_,λz w =>?_⟩
   ·rw[e1,e2,List.length_take,List.length_drop]; lia
   ·have:=congrArg List.length w;rw[e1,e2,List.length_take,List.length_drop,List.length_nil] at this;lia
  rw[<- hsl];clear hsl;have hrow:sl++(if (a:Int)+1=cs.length then [(0:Int)] else [])≠[]/\(sl++(if (a:Int)+1=cs.length then [(0:Int)] else [])).length<=2+sz.toNat/\a+(sl++(if (a:Int)+1=cs.length then [(0:Int)] else [])).length<=cs.length:=by
   split
   ·simp; lia
   ·rename_i z; simp only[List.append_nil]; exact⟨hsl2 z,by lia,by lia⟩
  refine zh4 (by rw[<- List.length_append, <- List.map_append,List.length_map]; exact szl (by lia)) ?_;rw[<- List.map_append];generalize sl++(if (a:Int)+1=cs.length then [(0:Int)] else [])=rows at*;refine z3H (λx hx =>?_) ?_
  ·obtain⟨y,_,rfl⟩:=List.mem_map.mp hx;exact Safe.of_noL rfl rfl _
  ac_rfl;refine z9l (z9m (l:=[]) (z1Q rfl ?_));ac_nf;refine⟨by rw[List.length_map]; exact szl' (by lia),?_⟩;refine z8r (g:=vec) (P:=λ_ p=>Far m p) (λc _ K hK =>?_) λys hyl hy =>?_
  ·ac_nf;exact zbN hm hb hK
  ac_nf;refine z2v (z1a eat) ?_;ac_nf;refine⟨by rw[List.length_map]; exact szl' (by lia),Safe.of_noL (zap (ys,c / 12)) (zaq (ys,c / 12)) _,?_⟩;ac_rfl;ac_nf;refine⟨⟨ps++[(ys,c / 12)],a+1+(1+sz.toNat),.s (.int (1+sz)),.o (.lst (rows.map .int)),λx hx =>?_,by rw[zdu]; show _+ys.length<=_/\_+ys.length<=_; lia,by simp; lia,by lia,?_⟩,?_⟩
  ·rcases List.mem_append.mp hx with hx | hx
   ·exact hps x hx
   ·rw[List.mem_singleton.mp hx];refine⟨⟨λp hp =>?_,λz =>?_,by show ys.length<=62; lia⟩,by show ys.length<=14; lia⟩
    ·obtain⟨_,_,hf⟩:=hy p hp;have b3:=hb.abs;obtain⟨⟨f1,f2⟩,f3,f4⟩:=hf;exact⟨Bt.le (Bt.of_abs hb (by lia)),Bt.le (Bt.of_abs hb (by lia))⟩
    ·have:=congrArg List.length z;rw[hyl] at this;exact hrow.1 (List.length_eq_zero_iff.mp this)
  ·rw[List.map_append,show ((a+1+(1+sz.toNat):Nat):Int)=(a:Int)+1+(1+sz) by lia]
   rfl
  ·show (100 - ((a:Int)+1+(1+sz))).toNat<(100 - (a:Int)).toNat
   lia
 ·ac_nf;exact q ps hps (by lia) (by lia)
def zl5 {α:Type}{f:α->D}{l:List α}{k:Int}(h:0<=k):cutD (l.map f) (some k) none=(l.drop k.toNat).map f:=by
 have hs:HT.sIx l.length 0 (some k)=min k.toNat l.length:=by
  show (if k<0 then (k+(l.length:Int)).toNat else min k.toNat l.length)=_;rw[if_neg (by lia)]
 rw[z6f,hs];show ((l.drop (min k.toNat l.length)).take (l.length - min k.toNat l.length)).map f=_;rw[List.take_of_length_le (by simp)]
 rcases Nat.le_total k.toNat l.length with z | z
 ·rw[Nat.min_eq_left z]
 ·rw[Nat.min_eq_right z,List.drop_eq_nil_of_le z,List.drop_length]
structure Fw (l:List P):Prop where
 far:∀p∈l,Far 1000000000 p
 ne:l≠[]
 len:l.length<=62
def Fw.gw {l:List P}(h:Fw l):Gw l:=⟨λp hp=>((h.far p hp).vb (n:=30) (by decide)).le,h.ne,h.len⟩
def zfA {cs:List Int}{a n:Nat}(h:a<cs.length)(hn:1<=n):(cs.drop a).take n≠[]/\((cs.drop a).take n).length<=cs.length/\((cs.drop a).take n).length<=n:=by
 refine⟨λw =>?_,by simp; lia,by simp; lia⟩;have:=congrArg List.length w;rw[List.length_take,List.length_drop,List.length_nil] at this;lia
def Few (ps:List (List P × Int)):Prop:=∀k x,ps[k]? = some x->0<k\/ps.length=1->x.1.length<=14
def Few.of {ps:List (List P × Int)}(h:∀x∈ps,x.1.length<=14):Few ps:=λ_ _ e _=>h _ (List.mem_of_getElem? e)
def zcq {α β:Type}{f:α->D}{g:β->D}{P:α->β->Prop}{G:D->(Option D->Prop)->Prop}:∀{l:List α}{M:List D->Prop},(∀x∈l,∀K:Option D->Prop,(∀y,P x y->K (some (g y)))->G (f x) K)->(∀ys:List β,ys.length=l.length->(∀(k:Nat) y,ys[k]? = some y->∃x,l[k]? = some x/\P x y)->M (ys.map g))->z6g G (l.map f) M
 | [],_,_,q=>q [] rfl (λ_ _ z=>by simp at z)
 | x::r,M,h,q=>h x List.mem_cons_self _ λy hy=>zcq (l:=r) (M:=λt=>M ((some (g y)).toList++t)) (λz hz=>h z (List.mem_cons_of_mem _ hz)) λys hl ha=>q (y::ys) (by simp[hl]) λk z hz=>by
  cases k with
  | zero=>exact⟨x,rfl,by rw[List.getElem?_cons_zero] at hz; cases hz; exact hy⟩
  | succ k=>exact ha k z (by rwa [List.getElem?_cons_succ] at hz)
def zfv {ns:List Int}{Q:DK}{X:XP}(hns:ns.length<=63)(q:∀ps:List (List P × Int),(∀x∈ps,Gw x.1)->Few ps->(szs ps).tail.sum<=62->ps.length<=101->Q (.lst (ps.map prD))):z13.run [.lst (ns.map .int)] Q X:=by
 walk_at "fn";ac_nf;refine zdK (by decide) λhd =>?_;ac_nf;rw[List.length_map];refine zh2 ⟨by split <;> lia,by split <;> lia,by simp⟩ ?_;rw[zgN,zl5 (by decide)];refine zen (by rw[<- List.length_append, <- List.map_append,List.length_map]; exact szl (by simp; split <;> simp <;> lia)) ?_;rw[<- List.map_append];have hcs:ns.drop (1:Int).toNat++(if (ns.length:Int)<2 then [(0:Int)] else [])≠[]/\(ns.drop (1:Int).toNat++(if (ns.length:Int)<2 then [(0:Int)] else [])).length<=62:=by
  have e1:(1:Int).toNat=1:=rfl;rw[e1]
  split
  ·simp; lia
  ·rename_i z
   rw[List.append_nil];refine⟨λw =>?_,by simp; lia⟩;have:=congrArg List.length w;simp at this;lia
 generalize ns.drop (1:Int).toNat++(if (ns.length:Int)<2 then [(0:Int)] else [])=cs at*;obtain⟨hc0,hcz⟩:=hcs;have hcp:=List.length_pos_iff.mpr hc0;ac_nf;refine z2d (λ_ =>?_) (λ_ =>?_)
 ·ac_nf;refine menu (ns:=[12,10 ^ 9,10 ^ 60]) (by lia) (by show hd / 2 % 3<3; lia) λm hm =>?_;have hm':0<=m/\Bt 300 m:=by
   simp only[List.mem_cons,List.not_mem_nil,or_false] at hm
   rcases hm with rfl | rfl | rfl <;> exact⟨by decide,z0r (by decide +kernel)⟩
  exact zae hcz hm'.1 hm'.2 λps h h' z=>q ps (λx hx=>(h x hx).1) (.of λx hx=>(h x hx).2) (Nat.le_trans (zds _) h') z
 ac_nf;refine z4A (z0r (by decide)) λr r0 r1 =>?_;ac_nf;refine menu (ns:=[3,3,12,12,40,10 ^ 9]) (by lia) (by show r % 6<6; lia) λm hm =>?_;have hm':0<=m/\m<=1000000000:=by
  simp only[List.mem_cons,List.not_mem_nil,or_false] at hm;lia
 clear hm;ac_nf;refine z3H (λx hx=>by cases hx) ?_;ac_rfl;ac_nf;refine z7B (λρ=>∃(ps:List (List P × Int)) (a:Nat) (x6:B),(∀x∈ps,Fw x.1/\x.1.length<=14)/\((szs ps).sum<=a/\(szs ps).sum<=cs.length)/\(a=0\/ps≠[])/\ps.length<=a/\a<=100/\ρ=[.s (.lst (ns.map .int)),.s (.int hd),.s (.lst (cs.map .int)),.s (.int m),.o (.lst (ps.map prD)),.s (.int (a:Int)),x6]) (λρ=>match ρ with | [_,_,_,_,_,.s (.int a),_]=>(100 - a).toNat | _=>0) ⟨[],0,_,λ_ z=>by(cases z),⟨by simp[szs],by simp[szs]⟩,.inl rfl,by simp,by simp,rfl⟩ ?_;rintro ρ ⟨ps,a,x6,hps,hsm,hne,hlen,ha,rfl⟩;ac_nf;rw[List.length_map];refine z2d (λh =>?_) (λh =>?_)
 ·have hac:a<cs.length:=by lia
  obtain⟨c,_,eat⟩:=z7l (xs:=cs) (i:=(a:Int)) (by lia) (by lia);ac_nf;refine z2v (z1a eat) ?_;ac_nf;refine z4A (z0r (by decide)) λu u0 u1 =>?_;ac_nf;refine z2v (z1a eat) ?_;ac_nf;refine z4A (z0r (by decide)) λw w0 w1 =>?_;ac_nf;refine menu (ns:=[12,4,3,5]) (by lia) (by show w % 4<4; lia) λz hz =>?_;have hz':0<z/\z<=12:=by
   simp only[List.mem_cons,List.not_mem_nil,or_false] at hz;lia
  clear hz;refine z7T hz'.1 ?_;have hs0:=Int.emod_nonneg u (show z≠0 by lia);have hs1:=Int.emod_lt_of_pos u hz'.1;generalize u % z=sz at*;ac_nf;refine z9m (l:=[]) (z1Q rfl ?_);ac_nf;rw[z6f];have e1:HT.sIx cs.length 0 (some (a:Int))=a:=by
   show (if (a:Int)<0 then ((a:Int)+(cs.length:Int)).toNat else min (a:Int).toNat cs.length)=_;rw[if_neg (by lia)]; lia
  have e2:HT.sIx cs.length cs.length (some ((a:Int)+(1+sz)))=min (a+(1+sz.toNat)) cs.length:=by
   show (if (a:Int)+(1+sz)<0 then ((a:Int)+(1+sz)+(cs.length:Int)).toNat else min ((a:Int)+(1+sz)).toNat cs.length)=_;rw[if_neg (by lia)]; lia
  rw[e1,e2];obtain⟨rw0,rwl,rwn⟩:=zfA (cs:=cs) (a:=a) (n:=min (a+(1+sz.toNat)) cs.length - a) hac (by lia);generalize (cs.drop a).take (min (a+(1+sz.toNat)) cs.length - a)=rows at*;refine zgG rw0 (by lia) hm'.1 hm'.2 λl hl hf =>?_;ac_nf;refine z2v (z1a eat) ?_;ac_nf;refine⟨by rw[List.length_map]; exact szl' (by lia),Safe.of_noL (zap (l,c)) (zaq (l,c)) _,?_⟩;ac_rfl;ac_nf;refine⟨⟨ps++[(l,c)],a+(1+sz.toNat),.s (.int (1+sz)),λx hx =>?_,by rw[zdu]; show _+l.length<=_/\_+l.length<=_; lia,.inr (by simp),by simp; lia,by lia,?_⟩,?_⟩
  ·rcases List.mem_append.mp hx with hx | hx
   ·exact hps x hx
   ·rw[List.mem_singleton.mp hx];exact⟨⟨hf,λz=>rw0 (List.length_eq_zero_iff.mp (by rw[<- hl]; exact congrArg List.length z)),by show l.length<=62; lia⟩,by show l.length<=14; lia⟩
  ·rw[List.map_append,show ((a+(1+sz.toNat):Nat):Int)=(a:Int)+(1+sz) by lia]
   rfl
  ·show (100 - ((a:Int)+(1+sz))).toNat<(100 - (a:Int)).toNat
   lia
 replace hne:=hne.resolve_left (by lia)
 clear h;have hpl:ps.length<=100:=by lia
 clear hlen;obtain⟨c0,_,e0⟩:=z7l (xs:=cs) (i:=0) (by decide) (by lia);ac_nf;refine z2v (z1a e0) ?_;ac_nf;refine z4A (z0r (by decide)) λu u0 u1 =>?_;ac_nf;refine zj1 (λρ'=>∃ps:List (List P × Int),(∀x∈ps,Fw x.1)/\Few ps/\(szs ps).tail.sum<=62/\ps.length<=101/\ρ'=[.s (.lst (ns.map .int)),.s (.int hd),.s (.lst (cs.map .int)),.s (.int m),.o (.lst (ps.map prD)),.s (.int (a:Int)),x6]) ?_ ?_
 ·refine z2d (λ_ =>?_) (λ_ =>?_)
  ·ac_nf;refine zgG hc0 (by lia) hm'.1 hm'.2 λl hl hf =>?_;ac_nf;refine z2v (z1a e0) ?_;ac_nf;refine zh4 (l:=[prD (l,c0+1)]) (by simp; exact szl (by lia)) ?_;refine z3H (λx hx =>?_) ?_
   ·rcases List.mem_append.mp hx with hx | hx
    ·rw[List.mem_singleton.mp hx];exact Safe.of_noL (zap _) (zaq _) _
    ·obtain⟨y,_,rfl⟩:=List.mem_map.mp hx;exact Safe.of_noL (zap _) (zaq _) _
   ac_rfl;refine⟨(l,c0+1)::ps,λx hx =>?_,λk x e z =>?_,by show (szs ps).sum<=62; lia,by simp; lia,rfl⟩
   rotate_left
   ·have:=List.length_pos_iff.mpr hne;rw[List.length_cons] at z
    match k,e with
    | 0,e=>lia
    | k+1,e=>exact(hps x (List.mem_of_getElem? (by rwa [List.getElem?_cons_succ] at e))).2
   rcases List.mem_cons.mp hx with rfl | hx
   ·exact⟨hf,λz=>hc0 (List.length_eq_zero_iff.mp (by rw[<- hl]; exact congrArg List.length z)),by show l.length<=62; lia⟩
   ·exact(hps x hx).1
  ·ac_nf;exact⟨ps,λx hx=>(hps x hx).1,.of λx hx=>(hps x hx).2,Nat.le_trans (zds _) (by lia),by lia,rfl⟩
 clear hps hpl hne hsm ps;rintro ρ' ⟨ps,hps,hfe,htl,hpl,rfl⟩;ac_nf;refine z2v (z1a e0) ?_;ac_nf;refine z4A (z0r (by decide)) λv v0 v1 =>?_;ac_nf;refine z2d (λ_ =>?_) (λ_ =>?_)
 ·ac_nf;refine⟨by rw[List.length_map]; exact szl' (by lia),?_⟩;refine zcq (g:=prD) (P:=λx y=>Gw y.1/\y.1.length=x.1.length) (λx hx K hK =>?_) λys hyl hy =>?_
  ·have:=hps x hx;ac_nf;refine zdJ (by have:=this.len; lia) this.far λl' hl' hb' =>?_;ac_nf;exact hK (l',x.2) ⟨⟨hb',λz=>this.ne (List.length_eq_zero_iff.mp (by rw[<- hl']; exact congrArg List.length z)),by show l'.length<=62; rw[hl']; exact this.len⟩,hl'⟩
  refine z3H (λx hx =>?_) ?_
  ·obtain⟨y,_,rfl⟩:=List.mem_map.mp hx;exact Safe.of_noL (zap _) (zaq _) _
  ac_rfl;ac_nf;refine q ys (λy hy' =>?_) (λk y e z =>?_) ?_ (by lia)
  ·obtain⟨k,e⟩:=List.mem_iff_getElem?.mp hy';obtain⟨_,_,h⟩:=hy k y e;exact h.1
  ·obtain⟨x,ex,h⟩:=hy k y e;rw[h.2];exact hfe k x ex (by lia)
  ·rw[show szs ys=szs ps from List.ext_getElem? λi=>by
    unfold szs;rw[List.getElem?_map,List.getElem?_map]
    rcases hi:ys[i]? with _ | y
    ·have:=List.getElem?_eq_none_iff.mp hi;rw[List.getElem?_eq_none (by lia)]
    ·obtain⟨x,ex,h⟩:=hy i y hi;rw[ex];exact congrArg some h.2]
   exact htl
 ·ac_nf;exact q ps (λx hx=>(hps x hx).gw) hfe htl hpl
def zfw {ns:List Int}{Q:DK}{X:XP}(hns:ns.length<=63)(q:∀ps:List (List P × Int),(∀x∈ps,Gw x.1)->Few ps->ps.length<=101->Q (.lst (ps.map prD))):z13.run [.lst (ns.map .int)] Q X:=zfv hns λps h h' _ z=>q ps h h' z
def zhy {ns:List Int}{Q:DK}{X:XP}(hns:ns.length<=63)(q:∀ps:List (List P × Int),(∀x∈ps,Gw x.1)->Q (.lst (ps.map prD))):z13.run [.lst (ns.map .int)] Q X:=zfw hns λps h _ _=>q ps h
end Pu
namespace Pu
open PySem L2 Mth
structure Pl (x y b u v t:Int):Prop where
 pos:0<t
 cop:Int.gcd ((Int.gcd u v:Nat):Int) t=1
 cx:u*b=x*t
 cy:v*b=y*t
def Pl.of {x y b u v t:Int}(h:Plc x y b u v t):Pl x y b u v t:=⟨by have:=h.pos; lia,h.cop,h.cx,h.cy⟩
def z7z {u v t b:Int}(hc:Int.gcd ((Int.gcd u v:Nat):Int) t=1)(h1:t ∣ u*b)(h2:t ∣ v*b):t ∣ b:=by
 have a1:t.natAbs ∣ u.natAbs*b.natAbs:=by rw[<- Int.natAbs_mul]; exact Int.natAbs_dvd_natAbs.mpr h1
 have a2:t.natAbs ∣ v.natAbs*b.natAbs:=by rw[<- Int.natAbs_mul]; exact Int.natAbs_dvd_natAbs.mpr h2
 have a3:=Nat.dvd_gcd a1 a2;rw[Nat.gcd_mul_right] at a3;have hc':Nat.Coprime t.natAbs (Nat.gcd u.natAbs v.natAbs):=by
  rw[z4b,Nat.gcd_comm] at hc;exact hc
 exact Int.natAbs_dvd_natAbs.mp (hc'.dvd_of_dvd_mul_left a3)
def Pl.dvd {x y b u v t:Int}(h:Pl x y b u v t):t ∣ b:=z7z h.cop ⟨x,by rw[h.cx,Int.mul_comm]⟩ ⟨y,by rw[h.cy,Int.mul_comm]⟩
def Pl.eq {x y b u v t u' v' t':Int}(hb:0<b)(h:Pl x y b u v t)(k:Pl x y b u' v' t'):u=u'/\v=v'/\t=t':=by
 have hb0:b≠0:=by lia
 have cr:∀{u u' x:Int},u*b=x*t->u'*b=x*t'->u*t'=u'*t:=λ{u u' x} e1 e2=>by
  apply Int.eq_of_mul_eq_mul_right hb0
  calc u*t'*b=(u*b)*t':=by grind
   _=(u'*b)*t:=by rw[e1,e2]; grind
   _=u'*t*b:=by grind
 have c1:=cr h.cx k.cx;have c2:=cr h.cy k.cy;have d1:t ∣ t':=z7z h.cop ⟨u',by rw[c1,Int.mul_comm]⟩ ⟨v',by rw[c2,Int.mul_comm]⟩;have d2:t' ∣ t:=z7z k.cop ⟨u,by rw[<- c1,Int.mul_comm]⟩ ⟨v,by rw[<- c2,Int.mul_comm]⟩;have e:t=t':=Int.dvd_antisymm (by have:=h.pos; lia) (by have:=k.pos; lia) d1 d2;subst e;have ht:t≠0:=by have:=h.pos; lia
 exact⟨Int.eq_of_mul_eq_mul_right ht c1,Int.eq_of_mul_eq_mul_right ht c2,rfl⟩
def Pl.bt {x y b u v t:Int}{n m:Nat}(hb:0<b)(h:Pl x y b u v t)(bb:Bt n b)(bx:Bt m x)(bY:Bt m y):Bt n t/\Bt m u/\Bt m v:=by
 obtain⟨k,hk⟩:=h.dvd;have ht:=h.pos;have hk1:0<k:=by
  rcases Int.lt_or_le 0 k with z | z
  ·exact z
  ·have:=Int.mul_nonpos_of_nonneg_of_nonpos (Int.le_of_lt ht) z;lia
 have le:∀{u x:Int},u*b=x*t->u.natAbs<=x.natAbs:=λ{u x} e=>by
  have:u*k=x:=by
   apply Int.eq_of_mul_eq_mul_right (show t≠0 by lia);rw[<- e,hk]
   grind
  rw[<- this,Int.natAbs_mul];exact Nat.le_mul_of_pos_right _ (by lia)
 refine⟨bb.of_abs ?_,bx.of_abs (le h.cx),bY.of_abs (le h.cy)⟩;rw[hk,Int.natAbs_mul];exact Nat.le_mul_of_pos_right _ (by lia)
def Pl.step {x y b u v t a c w p q vx vy u' v' t':Int}(hb:0<b)(hq:0<q)(h:Pl x y b u v t)(k:Pl (vx*p) (vy*p) q a c w)(s:Pl (u*w+a*t) (v*w+c*t) (t*w) u' v' t'):
  Pl (x*q+vx*p*b) (y*q+vy*p*b) (b*q) u' v' t':=by
 have htw:t*w≠0:=by have:=Int.mul_pos h.pos k.pos; lia
 have go:∀{u' u a x vx:Int},u'*(t*w)=(u*w+a*t)*t'->u*b=x*t->a*q=vx*p*w->u'*(b*q)=(x*q+vx*p*b)*t':=λ{u' u a x vx} e1 e2 e3=>by
  apply Int.eq_of_mul_eq_mul_right htw
  calc u'*(b*q)*(t*w)=(u'*(t*w))*(b*q):=by grind
   _=((u*b)*(w*q)+(a*q)*(t*b))*t':=by rw[e1]; grind
   _=(x*q+vx*p*b)*t'*(t*w):=by rw[e2,e3]; grind
 exact⟨s.pos,s.cop,go s.cx h.cx k.cx,go s.cy h.cy k.cy⟩
def zaY (a:Int):(if a<0 then -a else a)=(a.natAbs:Int):=by split <;> lia
def z3t {a b:Int}{Q:DK}{X:XP}(q:Q (.int ((Int.gcd a b:Nat):Int))):z0b.run [.int a,.int b] Q X:=by
 walk_at "fn";ac_nf;rw[zaY,zaY];refine z7B (λρ=>∃(g s:Nat) (x:B),Nat.gcd g s=Int.gcd a b/\ρ=[.s (.int a),.s (.int b),.s (.int (g:Int)),.s (.int (s:Int)),x]) (λρ=>match ρ with | [_,_,_,.s (.int s),_]=>s.toNat | _=>0) ⟨a.natAbs,b.natAbs,_,rfl,rfl⟩ ?_;rintro ρ ⟨g,s,x,e,rfl⟩;ac_nf;refine zb6 (z2d (λz =>?_) (λz =>?_))
 ·ac_nf;have:s=0:=by lia
  subst this;rw[Nat.gcd_zero_right] at e;rw[e];exact q
 ·ac_nf;have hm:(g:Int) % (s:Int)=((g % s:Nat):Int):=by simp
  refine⟨⟨s,g % s,_,by rw[<- e,Nat.gcd_comm g s,Nat.gcd_rec s g,Nat.gcd_comm],by rw[hm]⟩,?_⟩;show ((g:Int) % (s:Int)).toNat<((s:Nat):Int).toNat
  rw[hm];have:=Nat.mod_lt g (show 0<s by lia);lia
def zjk {i j:Nat}{es:List Ex}{ρ:Pu.Env}{N:Pu.Env->Prop}{Q:DK}{X:XP}(q:runs es (vis ρ) (λds=>[i,j].length=ds.length/\N (z0w [i,j] ds ρ)) X):(Sm.par2 i j es).run ρ N Q X:=q
def z7K {a b:Nat}{Q:DK}{X:XP}(q:Q (.int ((Nat.gcd a b:Nat):Int))):z0M.run [.int (a:Int),.int (b:Int)] Q X:=by
 walk_at "fn";refine z9l (z7B (λρ=>∃g s:Nat,Nat.gcd g s=Nat.gcd a b/\ρ=[.s (.int (g:Int)),.s (.int (s:Int))]) (λρ=>match ρ with | [_,.s (.int s)]=>s.toNat | _=>0) ⟨a,b,rfl,rfl⟩ ?_);rintro ρ ⟨g,s,e,rfl⟩;ac_nf;refine zb6 (z2d (λz =>?_) (λz =>?_))
 ·ac_nf;have:s=0:=by lia
  subst this;rw[Nat.gcd_zero_right] at e;rw[e];exact q
 ·refine zjk ?_;ac_rfl;ac_nf;refine⟨rfl,?_⟩;have hm:(g:Int) % (s:Int)=((g % s:Nat):Int):=by simp
  unfold z0w z0w z0w;ac_rfl;refine⟨⟨s,g % s,by rw[<- e,Nat.gcd_comm g s,Nat.gcd_rec s g,Nat.gcd_comm],by rw[hm]⟩,?_⟩;show ((g:Int) % (s:Int)).toNat<((s:Nat):Int).toNat
  rw[hm];have:=Nat.mod_lt g (show 0<s by lia);lia
def zjl {t b:Int}{Q:DK}{X:XP}(hb:0<b)(bb:Bt 8000 b)(q:Q (.tup [.int (t / (Int.gcd t b:Int)),.int (b / (Int.gcd t b:Int))])):z1U.run [.int t,.int b] Q X:=by
 obtain⟨g0,_,e,_,_⟩:=z5m (t:=t) hb;have bg:Bt 9000 (Int.gcd t b:Int):=Bt.le (bb.of_abs (by
  have:=Nat.le_of_dvd (by lia) (Int.gcd_dvd_natAbs_right t b);lia))
 walk_at "fn";ac_nf;rw[zaY,show b=(b.natAbs:Int) by lia];refine z7K ?_;rw[show (b.natAbs:Int)=b by lia];show Safe _ _/\_;rw[show ((Nat.gcd t.natAbs b.natAbs:Nat):Int)=(Int.gcd t b:Int) from rfl];generalize (Int.gcd t b:Int)=g at*;ac_nf;exact q
def zad {x y b:Int}{Q:DK}{X:XP}(hb:0<b)(bb:Bt 8000 b)(q:∀u v t,Pl x y b u v t->Q (.tup [.int u,.int v,.int t])):z0l.run [.int x,.int y,.int b] Q X:=by
 have hg:((Nat.gcd (Nat.gcd x.natAbs y.natAbs) b.natAbs:Nat):Int)=g3 x y b:=by
  unfold g3;rw[z4b]
  congr 1
  rw[Nat.gcd_comm, <- Nat.gcd_assoc]
 have hp:=zgU (x:=x) (y:=y) hb;have g0:=zci (x:=x) (y:=y) hb;have bg:Bt 9000 (g3 x y b):=Bt.le (bb.of_abs (by
  have:=Int.natAbs_dvd_natAbs.mpr (z7x x y b);exact Nat.le_of_dvd (by lia) this))
 walk_at "fn";ac_nf;rw[zaY,zaY];refine z7K ?_;ac_nf;rw[show b=(b.natAbs:Int) by lia];refine z7K ?_;rw[show (b.natAbs:Int)=b by lia,hg];generalize g3 x y b=g at*;ac_nf;exact q _ _ _ (Pl.of hp)
def s_lowest_place {x y b:Int}{Q:DK}{X:XP}(hb:0<b)(bb:Bt 8000 b)(q:∀u v t,Pl x y b u v t->Q (.tup [.int u,.int v,.int t])):z38.run [.int x,.int y,.int b] Q X:=by
 have hp:=zgU (x:=x) (y:=y) hb;have g0:=zci (x:=x) (y:=y) hb;have bg:Bt 9000 (g3 x y b):=Bt.le (bb.of_abs (by
  have:=Int.natAbs_dvd_natAbs.mpr (z7x x y b);exact Nat.le_of_dvd (by lia) this))
 walk_at "fn";ac_nf;refine z3t ?_;ac_nf;refine z3t ?_;rw[show ((Int.gcd ((Int.gcd b x:Nat):Int) y:Nat):Int)=g3 x y b from rfl];generalize g3 x y b=g at*;ac_nf;exact q _ _ _ (Pl.of hp)
def s_place_added {x y z a b c:Int}{Q:DK}{X:XP}(hz:0<z)(hc:0<c)(h1:Int.gcd ((Int.gcd x y:Nat):Int) z=1)(h2:Int.gcd ((Int.gcd a b:Nat):Int) c=1)(bx:Bt 8000 x)(bY:Bt 8000 y)(bz:Bt 8000 z)(ba:Bt 8000 a)(bb:Bt 8000 b)(bc:Bt 8000 c)
  (q:∀u v t,Pl (x*c+a*z) (y*c+b*z) (z*c) u v t->Q (.tup [.int u,.int v,.int t])):z3y.run [.tup [.int x,.int y,.int z],.tup [.int a,.int b,.int c]] Q X:=by
 obtain⟨g,eg⟩:∃g,g=((Int.gcd z c:Nat):Int):=⟨_,rfl⟩
 obtain⟨u,eu⟩:∃u,u=x*(c / g)+a*(z / g):=⟨_,rfl⟩
 obtain⟨v,ev⟩:∃v,v=y*(c / g)+b*(z / g):=⟨_,rfl⟩
 obtain⟨r,er⟩:∃r,r=((Int.gcd ((Int.gcd g u:Nat):Int) v:Nat):Int):=⟨_,rfl⟩
 obtain⟨g0,r0,gl,rl,pl⟩:=zag hz hc h1 h2 eg eu ev er;have bg:Bt 9000 g:=Bt.le (bz.of_abs gl);have br:Bt 9000 r:=Bt.le (bz.of_abs rl);have b1:Bt 8000 (c / g):=bc.of_abs (z0h g0);have b2:Bt 8000 (z / g):=bz.of_abs (z0h g0);have b3:Bt 8000 (c / r):=bc.of_abs (z0h r0);walk_at "fn";ac_nf;refine z3t ?_;rw[<- eg];ac_nf;rw[<- eu, <- ev];refine z3t ?_;ac_nf;refine z3t ?_;rw[<- er];ac_nf;exact q _ _ _ (Pl.of pl)
def gcd0 (u t:Int):Int.gcd ((Int.gcd u 0:Nat):Int) t=Int.gcd u t:=by rw[z4b]; simp[Int.gcd]
def s_added {a b c d:Int}{Q:DK}{X:XP}(hb:0<b)(hd:0<d)(h1:Int.gcd a b=1)(h2:Int.gcd c d=1)(ba:Bt 8000 a)(bb:Bt 8000 b)(bc:Bt 8000 c)(bd:Bt 8000 d)
  (q:∀u t,Pl (a*d+c*b) 0 (b*d) u 0 t->Q (.tup [.int u,.int t])):z9T.run [.tup [.int a,.int b],.tup [.int c,.int d]] Q X:=by
 obtain⟨g,eg⟩:∃g,g=((Int.gcd b d:Nat):Int):=⟨_,rfl⟩
 obtain⟨t,et⟩:∃t,t=a*(d / g)+c*(b / g):=⟨_,rfl⟩
 obtain⟨r,er⟩:∃r,r=((Int.gcd g t:Nat):Int):=⟨_,rfl⟩
 obtain⟨g0,r0,gl,rl,pl⟩:=zag (x:=a) (y:=0) (z:=b) (a:=c) (b:=0) (c:=d) (v:=0) (r:=r) hb hd (by rw[gcd0]; exact h1) (by rw[gcd0]; exact h2) eg et (by simp) (by rw[er]; simp);have bg:Bt 9000 g:=Bt.le (bb.of_abs gl);have br:Bt 9000 r:=Bt.le (bb.of_abs rl);have b1:Bt 8000 (d / g):=bd.of_abs (z0h g0);have b2:Bt 8000 (b / g):=bb.of_abs (z0h g0);have b3:Bt 8000 (d / r):=bd.of_abs (z0h r0);walk_at "fn";ac_nf;refine z3t ?_;rw[<- eg];ac_nf;rw[<- et];refine z3t ?_;rw[<- er];ac_nf;have:=Pl.of pl;simp only[Int.zero_ediv,Int.zero_mul,Int.add_zero] at this;exact q _ _ this
abbrev Sh:=Nat × Int × Int
abbrev shD (s:Sh):D :=.tup [.int (s.1:Int),.tup [.int s.2.1,.int s.2.2]]
structure Sg (s:Sh):Prop where
 top:0<s.2.1
 bot:0<s.2.2
 cop:Int.gcd s.2.1 s.2.2=1
 bt:Bt 1400 s.2.1
 bb:Bt 1400 s.2.2
def Bq:List Sh->Int
 | []=>1
 | s::l=>Bq l*s.2.2
def Xq (w:Nat->Int):List Sh->Int
 | []=>0
 | s::l=>Xq w l*s.2.2+w s.1*s.2.1*Bq l
def Bq.pos:∀{l:List Sh},(∀s∈l,Sg s)->0<Bq l
 | [],_=>by decide
 | s::l,h=>Int.mul_pos (Bq.pos λx hx=>h x (by simp[hx])) (h s (by simp)).bot
def Bq.app:∀(a b:List Sh),Bq (a++b)=Bq a*Bq b
 | [],b=>by rw[List.nil_append,Bq,Int.one_mul]
 | s::a,b=>by rw[List.cons_append,Bq,Bq,Bq.app a b,Int.mul_right_comm]
def Bq.bt {m:Nat}:∀{l:List Sh},(∀s∈l,Bt m s.2.2)->Bt (m*l.length+1) (Bq l)
 | [],_=>Bt.le (m:=1) (z0r (by decide)) (Nat.le_add_left _ _)
 | s::l,h=>Bt.le (Bt.mul (Bq.bt λx hx=>h x (by simp[hx])) (h s (by simp))) (by rw[List.length_cons,Nat.mul_succ]; omega)
def zk0 (n:Nat):Bt (n+1) ((2:Int) ^ n):=z0r (by
 rw[Int.natAbs_pow];exact Nat.pow_lt_pow_right (by decide) (Nat.lt_succ_self n))
def Xq.abs {w:Nat->Int}(hw:∀k,Bt 600 (w k)):∀{l:List Sh},(∀s∈l,Sg s)->(Xq w l).natAbs<=l.length*(2 ^ 2000*(Bq l).natAbs)
 | [],_=>by simp[Xq]
 | s::l,h=>by
  have ih:=Xq.abs hw (l:=l) λx hx=>h x (by simp[hx]);have hs:=h s (by simp);have b1:(w s.1).natAbs<2 ^ 600:=PySem.intBits_le_iff.mp (hw s.1);have b2:s.2.1.natAbs<2 ^ 1400:=PySem.intBits_le_iff.mp hs.bt;have c1:1<=s.2.2.natAbs:=by have:=hs.bot; omega
  have b3:(w s.1*s.2.1).natAbs<=2 ^ 2000:=by
   rw[Int.natAbs_mul,show (2:Nat) ^ 2000=2 ^ 600*2 ^ 1400 from Nat.pow_add 2 600 1400];exact Nat.mul_le_mul (Nat.le_of_lt b1) (Nat.le_of_lt b2)
  generalize (2:Nat) ^ 2000=C at*;rw[Xq,Bq,List.length_cons,Int.natAbs_mul (Bq l)];refine Nat.le_trans (Int.natAbs_add_le _ _) ?_;rw[Int.natAbs_mul,Int.natAbs_mul (w s.1*s.2.1)];have e1:=Nat.mul_le_mul_right s.2.2.natAbs ih;have e2:=Nat.mul_le_mul_right (Bq l).natAbs b3;have e3:C*(Bq l).natAbs<=C*((Bq l).natAbs*s.2.2.natAbs):=Nat.mul_le_mul_left C (Nat.le_mul_of_pos_right _ c1);have e4:l.length*(C*(Bq l).natAbs)*s.2.2.natAbs=l.length*(C*((Bq l).natAbs*s.2.2.natAbs)):=by rw[Nat.mul_assoc,Nat.mul_assoc]
  rw[Nat.add_mul,Nat.one_mul];omega
def Xq.bt {w:Nat->Int}(hw:∀k,Bt 600 (w k)){l:List Sh}(h:∀s∈l,Sg s)(hB:Bt 4300 (Bq l))(hl:l.length<=62):Bt 7000 (Xq w l):=by
 have h1:=Xq.abs hw h;have b1:Bt 8 ((l.length:Nat):Int):=z0r (by omega);have b2:Bt 6400 (((l.length:Nat):Int)*((2:Int) ^ 2000*Bq l)):=Bt.le (Bt.mul b1 (Bt.mul (zk0 2000) hB));refine Bt.le (b2.of_abs ?_);rw[Int.natAbs_mul,Int.natAbs_mul,Int.natAbs_pow,Int.natAbs_natCast];exact h1
def Bq.part {sh dn r:List Sh}(h:∀s∈sh,Sg s)(e:sh=dn++r)(hB:Bt 4300 (Bq sh.reverse)):Bt 4300 (Bq dn.reverse):=by
 rw[e,List.reverse_append,Bq.app] at hB;have p1:0<Bq r.reverse:=Bq.pos λs hs=>h s (by rw[e]; simp at hs; simp[hs]);refine hB.of_abs ?_;rw[Int.natAbs_mul];exact Nat.le_mul_of_pos_left _ (by omega)
structure Shs (n:Nat)(l:List Sh):Prop where
 each:∀s∈l,Sg s/\s.1<n
 up:l.Pairwise (λa b=>a.1<b.1)
 tot:Bt 4300 (Bq l.reverse)
def z9j:∀{l:List Sh}{n:Nat},l.Pairwise (λa b=>a.1<b.1)->(∀s∈l,s.1<n)->l.length<=n:=by
 intro l;have main:∀(l:List Sh) (k n:Nat),l.Pairwise (λa b=>a.1<b.1)->(∀s∈l,k<=s.1/\s.1<n)->k+l.length<=max k n:=by
  intro l
  induction l with
  | nil=>intro k n _ _; simp; lia
  | cons s l ih=>
   intro k n h h2;rw[List.pairwise_cons] at h;have:=ih (s.1+1) n h.2 λx hx=>⟨h.1 x hx,(h2 x (by simp[hx])).2⟩
   have:=h2 s (by simp);simp;lia
 intro n h h2;have:=main l 0 n h λs hs=>⟨by lia,h2 s hs⟩
 lia
def s_is_share {s:Sh}{Q:DK}{X:XP}(h:Sg s)(q:Q (.bl true)):z5y.run [.tup [.int s.2.1,.int s.2.2]] Q X:=by
 walk_at "fn";ac_nf;refine z9g h.top ?_;ac_nf;refine z9g h.bot ?_;ac_nf;refine z3t ?_;rw[h.cop];ac_nf;exact q
def s_are_shares {l:List P}{sh:List Sh}{Q:DK}{X:XP}(h:Shs l.length sh)(q:Q (.bl true)):z2u.run [vecs l,.tup (sh.map shD)] Q X:=by
 walk_at "fn";ac_nf;refine z1D (f:=shD) (λdn ρ=>∃(a:Int) (x3 x4:B),(∀s∈sh,s ∉ dn->True)/\(dn=[]->a = -1)/\(∀s,dn.getLast? = some s->a=(s.1:Int))/\ρ=[.s (vecs l),.s (.tup (sh.map shD)),.s (.int a),x3,x4]) ⟨-1,_,_,λ_ _ _=>trivial,λ_=>rfl,λs z=>by simp at z,rfl⟩ ?_ ?_
 ·rintro dn s r ρ e ⟨a,x3,x4,_,ha,hb,rfl⟩;obtain⟨hs,hn⟩:=h.each s (by rw[e]; simp);have hlt:a<(s.1:Int):=by
   cases hd:dn.getLast? with
   | none=>rw[ha (List.getLast?_eq_none_iff.mp hd)]; lia
   | some x=>
    rw[hb x hd];have hu:=h.up;rw[e,List.pairwise_append] at hu;have:=hu.2.2 x (List.mem_of_getLast? hd) s (by simp);lia
  refine⟨rfl,?_⟩;show Sm.run _ _ _ _ _;unfold z0w z0w z0w;ac_rfl;ac_nf;refine t_no (by lia) ?_;ac_nf;rw[List.length_map];refine t_no (by lia) ?_;ac_nf;refine s_is_share hs ?_;ac_nf;refine zb6 (za7 ?_);ac_nf;exact⟨_,_,_,λ_ _ _=>trivial,λz=>by simp at z,λx z=>by simp at z; rw[z],rfl⟩
 rintro ρ ⟨a,x3,x4,_,ha,hb,rfl⟩;ac_nf;exact q
def zgy {w:Nat->Int}:∀{l:List Sh}(M:Int),(∀s∈l,Sg s)->(l.map λs=>w s.1*s.2.1*(Bq l*M / s.2.2)).sum=Xq w l*M
 | [],M,_=>by simp[Xq]
 | s::l,M,h=>by
  have hs:=h s (by simp);have ih:=zgy (w:=w) (l:=l) (s.2.2*M) λx hx=>h x (by simp[hx]);have e1:Bq (s::l)*M=Bq l*(s.2.2*M):=by simp only[Bq]; grind
  have e2:Bq (s::l)*M / s.2.2=Bq l*M:=by
   rw[show Bq (s::l)*M=s.2.2*(Bq l*M) by simp only[Bq]; grind];exact Int.mul_ediv_cancel_left _ (by have:=hs.bot; lia)
  rw[List.map_cons,List.sum_cons,e2,e1,ih];simp only[Xq]
  grind
def zdv:∀l:List Int,l.reverse.sum=l.sum
 | []=>rfl
 | x::l=>by
  rw[List.reverse_cons,List.sum_append,zdv l];simp;lia
def z7V (f:Sh->Int)(l:List Sh):(l.reverse.map f).sum=(l.map f).sum:=by rw[List.map_reverse,zdv]
def wx (l:List P)(k:Nat):Int:=(Geo.cy l k).1
def wy (l:List P)(k:Nat):Int:=(Geo.cy l k).2
def s_place_times {a b p q:Int}{Q:DK}{X:XP}(hq:0<q)(bq:Bt 1400 q)(ba:Bt 600 a)(bb:Bt 600 b)(bp:Bt 1400 p)(h:∀u v t,Pl (a*p) (b*p) q u v t->Q (.tup [.int u,.int v,.int t])):z3x.run [.tup [.int a,.int b,.int 1],.tup [.int p,.int q]] Q X:=by
 walk_at "fn";ac_nf;rw[Int.one_mul];exact s_lowest_place hq bq.le h
def s_shares_end {l:List P}{sh:List Sh}{Q:DK}{X:XP}(hl:l≠[])(hz:l.length<=62)(hb:Wb 600 l)(h:Shs l.length sh)(q:∀u v t,Pl (Xq (wx l) sh.reverse) (Xq (wy l) sh.reverse) (Bq sh.reverse) u v t->Q (.tup [.int u,.int v,.int t])):z4d.run [vecs l,.tup (sh.map shD)] Q X:=by
 have h0:=List.length_pos_iff.mpr hl;have cb:∀k,Vb 600 (Geo.cy l k):=λk=>hb _ (List.mem_of_getElem? (Geo.z4f h0));have sl:=z9j h.up λs hs=>(h.each s hs).2;walk_at "fn";ac_nf;refine s_are_shares h ?_;ac_nf;refine zb6 (za7 ?_);ac_nf;refine z1D (f:=shD) (λdn ρ=>∃(u v t:Int) (x3 x4 x5:B),Pl (Xq (wx l) dn.reverse) (Xq (wy l) dn.reverse) (Bq dn.reverse) u v t/\ρ=[.s (vecs l),.s (.tup (sh.map shD)),.s (.tup [.int u,.int v,.int t]),x3,x4,x5]) ⟨0,0,1,_,_,_,⟨by decide,by decide,by simp[Bq,Xq],by simp[Bq,Xq]⟩,rfl⟩ ?_ ?_
 ·rintro dn s r ρ e ⟨u,v,t,x3,x4,x5,hp,rfl⟩;obtain⟨hs,hn⟩:=h.each s (by rw[e]; simp);have hdn:∀x∈dn.reverse,Sg x:=λx hx=>(h.each x (by rw[e]; simp at hx; simp[hx])).1;have dl:dn.reverse.length<=62:=by
   have:=congrArg List.length e;simp at this;rw[List.length_reverse];lia
  have B0:=Bq.pos hdn;have bP:=Bq.part (λs hs=>(h.each s hs).1) e h.tot;obtain⟨bt1,bu,bv⟩:=hp.bt B0 (bP.le (show _<=8000 by decide)) ((Xq.bt (λk=>(cb k).1) hdn bP dl).le (show _<=8000 by decide)) ((Xq.bt (λk=>(cb k).2) hdn bP dl).le (show _<=8000 by decide));refine⟨rfl,?_⟩;show Sm.run _ _ _ _ _;unfold z0w z0w z0w;ac_rfl;ac_nf;refine z2v (z1a (zaI hn)) ?_;refine z3p (Safe.of_noL rfl rfl _) ?_;ac_rfl;ac_nf;refine s_place_times hs.bot hs.bb (cb s.1).1 (cb s.1).2 hs.bt λa c w hk =>?_;obtain⟨bw,ba,bc⟩:=hk.bt hs.bot hs.bb (Bt.mul (cb s.1).1 hs.bt) (Bt.mul (cb s.1).2 hs.bt);refine s_place_added hp.pos hk.pos hp.cop hk.cop bu bv bt1 ba.le bc.le bw.le λu' v' t' hs' =>?_;refine z3p (Safe.of_noL rfl rfl _) ?_;ac_rfl;refine⟨u',v',t',_,_,_,?_,rfl⟩;rw[List.reverse_append];exact hp.step B0 hs.bot hk hs'
 rintro ρ ⟨u,v,t,x3,x4,x5,hp,rfl⟩;ac_nf;exact q u v t hp
def s_shares_sum {n:Nat}{sh:List Sh}{Q:DK}{X:XP}(hn:n<=62)(h:Shs n sh)(q:∀u t,Pl (Xq (λ_=>1) sh.reverse) 0 (Bq sh.reverse) u 0 t->Q (.tup [.int u,.int t])):z4c.run [.tup (sh.map shD)] Q X:=by
 have sl:=z9j h.up λs hs=>(h.each s hs).2;have w1:∀k:Nat,Bt 600 ((λ_=>(1:Int)) k):=λ_=>Bt.le (m:=1) (z0r (by show (1:Int).natAbs<2 ^ 1; decide));walk_at "fn";ac_nf;refine z1D (f:=shD) (λdn ρ=>∃(u t:Int) (x3 x4:B),Pl (Xq (λ_=>1) dn.reverse) 0 (Bq dn.reverse) u 0 t/\ρ=[.s (.tup (sh.map shD)),.s (.tup [.int u,.int t]),x3,x4]) ⟨0,1,_,_,⟨by decide,by decide,by simp[Bq,Xq],by simp⟩,rfl⟩ ?_ ?_
 ·rintro dn s r ρ e ⟨u,t,x3,x4,hp,rfl⟩;obtain⟨hs,hn⟩:=h.each s (by rw[e]; simp);have hdn:∀x∈dn.reverse,Sg x:=λx hx=>(h.each x (by rw[e]; simp at hx; simp[hx])).1;have dl:dn.reverse.length<=62:=by
   have:=congrArg List.length e;simp at this;rw[List.length_reverse];lia
  have B0:=Bq.pos hdn;have bP:=Bq.part (λs hs=>(h.each s hs).1) e h.tot;obtain⟨bt1,bu,_⟩:=hp.bt B0 (bP.le (show _<=8000 by decide)) ((Xq.bt w1 hdn bP dl).le (show _<=8000 by decide)) (Bt.le (m:=0) (z0r (by decide)) (show _<=8000 by decide));have hc:=hp.cop;rw[gcd0] at hc;refine⟨rfl,?_⟩;show Sm.run _ _ _ _ _;unfold z0w z0w z0w;ac_rfl;ac_nf;refine s_added hp.pos hs.bot hc hs.cop bu bt1 hs.bt.le hs.bb.le λu' t' hs' =>?_;refine z3p (Safe.of_noL rfl rfl _) ?_;ac_rfl;refine⟨u',t',_,_,?_,rfl⟩;rw[List.reverse_append];have hk:Pl (1*s.2.1) (0*s.2.1) s.2.2 s.2.1 0 s.2.2:=⟨hs.bot,by rw[gcd0]; exact hs.cop,by rw[Int.one_mul],by simp⟩
  have st:=hp.step (vx:=1) (vy:=0) (u':=u') (v':=0) (t':=t') B0 hs.bot hk (by simpa using hs');simpa[Xq,Bq] using st
 rintro ρ ⟨u,t,x3,x4,hp,rfl⟩;ac_nf;exact q u t hp
def s_law_end {l:List P}{sh:List Sh}{Q:DK}{X:XP}(hl:l≠[])(hz:l.length<=62)(hb:Wb 600 l)(h:Shs l.length sh)(q:∀u v t,Pl (Xq (wx l) sh.reverse) (Xq (wy l) sh.reverse) (Bq sh.reverse) u v t->Q (.tup [.int u,.int v,.int t])):z0T.run [vecs l,.tup (sh.map shD)] Q X:=by
 have h0:=List.length_pos_iff.mpr hl;have cb:∀k,Vb 600 (Geo.cy l k):=λk=>hb _ (List.mem_of_getElem? (Geo.z4f h0));have sl:=z9j h.up λs hs=>(h.each s hs).2;have hsh:∀x∈sh.reverse,Sg x:=λx hx=>(h.each x (by simpa using hx)).1;have bB:Bt 8000 (Bq sh.reverse):=h.tot.le;have B0:=Bq.pos hsh;have bdv:∀s∈sh,Bt 8000 (Bq sh.reverse / s.2.2):=λs hs=>bB.of_abs (z0h (h.each s hs).1.bot);walk_at "fn";ac_nf;refine z1D (f:=shD) (λdn ρ=>∃x3 x4:B,ρ=[.s (vecs l),.s (.tup (sh.map shD)),.s (.int (Bq dn.reverse)),x3,x4,.n,.n]) ⟨_,_,rfl⟩ ?_ ?_
 ·rintro dn s r ρ e ⟨x3,x4,rfl⟩;have hs:=(h.each s (by rw[e]; simp)).1;have hdn:∀x∈dn.reverse,Sg x:=λx hx=>(h.each x (by rw[e]; simp at hx; simp[hx])).1;have dl:dn.reverse.length<=62:=by
   have:=congrArg List.length e;simp at this;rw[List.length_reverse];lia
  have bd:Bt 8000 (Bq dn.reverse):=(Bq.part (λs hs=>(h.each s hs).1) e h.tot).le;have bs:=hs.bb;refine⟨rfl,?_⟩;show Sm.run _ _ _ _ _;unfold z0w z0w z0w;ac_rfl;ac_nf;rw[List.reverse_append];exact⟨_,_,rfl⟩
 rintro ρ ⟨x3,x4,rfl⟩;ac_nf;refine⟨by rw[List.length_map]; exact szl' (by lia),?_⟩;refine z3g (g:=λs =>.int (wx l s.1*s.2.1*(Bq sh.reverse / s.2.2))) (λs hs K hK =>?_) ?_
 ·have hg:=(h.each s hs).1;have b1:=(cb s.1).1;have b2:=hg.bt;have b3:=bdv s hs;have b4:=hg.bb;have p4:=hg.bot;have b12:Bt 2100 ((Geo.cy l s.1).1*s.2.1):=(Bt.mul b1 b2).le;refine⟨rfl,?_⟩;show Ex.run _ _ _ _;unfold z0w z0w z0w;ac_rfl;ac_nf;refine z2v (z1a (zaI (h.each s hs).2)) ?_;ac_nf;exact hK
 rw[show (sh.map λs=>D.int (wx l s.1*s.2.1*(Bq sh.reverse / s.2.2)))=(sh.map λs=>wx l s.1*s.2.1*(Bq sh.reverse / s.2.2)).map .int by rw[List.map_map]; rfl];refine zg3 ?_;ac_nf;refine⟨by rw[List.length_map]; exact szl' (by lia),?_⟩;refine z3g (g:=λs =>.int (wy l s.1*s.2.1*(Bq sh.reverse / s.2.2))) (λs hs K hK =>?_) ?_
 ·have hg:=(h.each s hs).1;have b1:=(cb s.1).2;have b2:=hg.bt;have b3:=bdv s hs;have b4:=hg.bb;have p4:=hg.bot;have b12:Bt 2100 ((Geo.cy l s.1).2*s.2.1):=(Bt.mul b1 b2).le;refine⟨rfl,?_⟩;show Ex.run _ _ _ _;unfold z0w z0w z0w;ac_rfl;ac_nf;refine z2v (z1a (zaI (h.each s hs).2)) ?_;ac_nf;exact hK
 rw[show (sh.map λs=>D.int (wy l s.1*s.2.1*(Bq sh.reverse / s.2.2)))=(sh.map λs=>wy l s.1*s.2.1*(Bq sh.reverse / s.2.2)).map .int by rw[List.map_map]; rfl];refine zg3 ?_;have sm:∀w:Nat->Int,(sh.map λs=>w s.1*s.2.1*(Bq sh.reverse / s.2.2)).sum=Xq w sh.reverse:=λw=>by
  rw[<- z7V];have:=zgy (w:=w) 1 hsh;simpa using this
 rw[sm,sm];ac_nf;exact zad B0 bB q
end Pu
namespace Pu
open PySem L2
abbrev zht (s:P × P):D :=.tup [vec s.1,.int (dot s.2 s.1)]
def zhr {h:List P}(hn:h≠[])(hb:Wb 10000000 h){s:P × P}(hs:s∈z2g h):Vb 20000000 s.1/\s.2∈h:=by
 have h0:0<h.length:=List.length_pos_iff.mpr hn
 by_cases hl:h.length=1
 ·rw[z2g,if_pos hl] at hs;obtain⟨b,hb',rfl⟩:=List.mem_map.mp hs;refine⟨?_,Geo.z8n h0⟩;show Vb 20000000 b;unfold ways at hb';simp only[List.mem_cons,List.not_mem_nil,or_false] at hb'
  rcases hb' with rfl | rfl | rfl | rfl <;> exact⟨(bt_k (by decide +kernel)).le,(bt_k (by decide +kernel)).le⟩
 ·obtain⟨j,hj,hs⟩:=z7H hl hs;have c1:=hb _ (Geo.z8n (h:=h) (i:=j+h.length - 1) h0);have c2:=hb _ (Geo.z8n (h:=h) (i:=j) h0);have st:Vb 20000000 (stp (Geo.cy h (j+h.length - 1)) (Geo.cy h j)):=⟨(Bt.sub c2.1 c1.1).le,(Bt.sub c2.2 c1.2).le⟩
  unfold z1P at hs
  rcases List.mem_cons.mp hs with rfl | hs
  ·exact⟨⟨st.2,st.1.neg⟩,Geo.z8n h0⟩
  ·split at hs
   ·rw[List.mem_singleton.mp hs];exact⟨st,Geo.z8n h0⟩
   ·cases hs
def zhs {S:P->Prop}{h:List P}(x:Geo.z1W S h){s:P × P}(hs:s∈z2g h):s.1≠(0,0):=by
 by_cases hl:h.length=1
 ·rw[z2g,if_pos hl] at hs;obtain⟨b,hb',rfl⟩:=List.mem_map.mp hs;show b≠(0,0);unfold ways at hb';simp only[List.mem_cons,List.not_mem_nil,or_false] at hb'
  rcases hb' with rfl | rfl | rfl | rfl <;> decide
 ·obtain⟨j,hj,hs⟩:=z7H hl hs;have e:=Geo.z8o x (by lia) (j+h.length - 1);rw[show j+h.length - 1+1=j+h.length by lia,show Geo.cy h (j+h.length)=Geo.cy h j by unfold Geo.cy; rw[Nat.add_mod_right]] at e;have st:stp (Geo.cy h (j+h.length - 1)) (Geo.cy h j)≠(0,0):=λz=>by
   unfold stp at z
   injection z with z1 z2
   exact e.ne (Prod.ext (by lia) (by lia))
  unfold z1P at hs
  rcases List.mem_cons.mp hs with rfl | hs
  ·intro z;unfold rt at z
   injection z with z1 z2
   exact st (Prod.ext (by dsimp only; lia) z1)
  ·split at hs
   ·rw[List.mem_singleton.mp hs];exact st
   ·cases hs
def zdB (h:List P):(z2g h).length<=2*h.length+4:=by
 unfold z2g
 split
 ·simp[ways]
 ·have:∀dn:List Nat,(dn.flatMap (z1P h)).length<=2*dn.length:=by
   intro dn
   induction dn with
   | nil=>simp
   | cons k dn ih=>
    rw[List.flatMap_cons,List.length_append];have:(z1P h k).length<=2:=by unfold z1P; split <;> simp
    simp only[List.length_cons];lia
  have:=this (List.range h.length);rw[List.length_range] at this;lia
def s_sides_of {d:D}{l:List P}{Q:DK}{X:XP}(hd:Vs d l)(hb:Wb 10000000 l)(hn:l≠[])(hz:l.length<=63)(q:∀h,Geo.Hd l h->Q (.tup ((z2g h).map zht))):z5w.run [d] Q X:=by
 walk_at "fn";ac_nf;refine s_least_headings hd hb.le hz λh hh =>?_;have x:=hh.is hn;have hs:=x.sub;have hl:h.length<=l.length:=z3L x.nodup hs;have hne:h≠[]:=by
  obtain⟨m,t,et,_⟩:=x.ex;rw[et]; simp
 ac_nf;refine s_bearings_round (by lia) hne ?_;have hsl:=zdB h;refine z3p ⟨trivial,trivial,trivial⟩ ?_;ac_rfl;ac_nf;refine⟨by rw[List.length_map]; exact szl' (by lia),?_⟩;refine z3g (g:=zht) (λs hs' K hK =>?_) ?_
 ·obtain⟨b1,b2⟩:=zhr hne (λp hp=>hb p (hs p hp)) hs';refine⟨rfl,?_⟩;show Ex.run _ _ _ _;unfold z0w z0w z0w;ac_rfl;ac_nf;refine s_dot_of b1.le ((hb _ (hs _ b2)).le) ?_;ac_nf;have e:s.1.1*s.2.1+s.1.2*s.2.2=dot s.2 s.1:=by unfold dot; grind
  rw[e];exact hK
 ac_nf;exact q h hh
def zhv {a b c:P}{Q:DK}{X:XP}(h1:Vb 20000000 a)(h2:Vb 20000000 b)(h3:Vb 20000000 c)(q:Q (.int (Geo.cr a b c))):z2m.run [vec a,vec b,vec c] Q X:=by
 obtain⟨a1,a2⟩:=h1.step h2;obtain⟨b1,b2⟩:=h1.step h3;dsimp only at a1 a2 b1 b2;walk_at "fn";ac_nf;exact q
def zgJ {l:List (Int × Int)}{Q:DK}{X:XP}(hb:Wb 20000000 l)(hz:l.length<=100000)(q:Q (.lst ((Geo.z21 l).reverse.dropLast.map vec))):z0x.run [.lst (l.map vec)] Q X:=by
 walk_at "fn";refine z9l (zfx ?_);ac_nf;refine z3H (λx hx=>by cases hx) ?_;ac_rfl;ac_nf;refine z1D (f:=vec) (λdn ρ=>∃(st:List (Int × Int)) (x:B),st=Geo.z21 dn/\(∀p∈st,p∈l)/\st.length<=dn.length/\ρ=[.s (.lst (l.map vec)),.o (.lst (st.reverse.map vec)),x]) ⟨[],_,rfl,(λp hp=>by cases hp),Nat.le_refl _,rfl⟩ ?_ ?_
 ·rintro dn v r ρ e ⟨st,x,hst,hsub,hlen,rfl⟩;have hv:v∈l:=by rw[e]; simp
  show Sm.run _ _ _ _ _;ac_rfl;refine Sm.cut (λρ=>∃st':List (Int × Int),st'=Geo.pops v st/\(∀p∈st',p∈l)/\st'.length<=dn.length/\ρ=[.s (.lst (l.map vec)),.o (.lst (st'.reverse.map vec)),.s (vec v)]) ?_ ?_
  ·refine z7B (λρ=>∃st':List (Int × Int),Geo.pops v st'=Geo.pops v st/\(∀p∈st',p∈l)/\st'.length<=dn.length/\ρ=[.s (.lst (l.map vec)),.o (.lst (st'.reverse.map vec)),.s (vec v)]) (λρ=>match ρ with | [_,.o (.lst k),_]=>k.length | _=>0) ⟨st,rfl,hsub,hlen,rfl⟩ ?_;rintro ρ ⟨st',h1,h2,h3,rfl⟩;ac_nf
   match st',h1,h2,h3 with
   | [],h1,h2,h3=>
    refine t_no (by simp) ?_;refine z5Z ?_;exact⟨[],by rw[<- h1]; rfl,h2,h3,rfl⟩
   | [b],h1,h2,h3=>
    refine t_no (by simp) ?_;refine z5Z ?_;exact⟨[b],by rw[<- h1]; rfl,h2,h3,rfl⟩
   | b::a::r,h1,h2,h3=>
    refine z9g (by simp; omega) ?_;ac_nf;refine z2v (z1a zfa) ?_;ac_nf;refine z2v (z1a zhf) ?_;ac_nf;have hB:∀p,p∈l->Vb 20000000 p:=hb;refine zhv (hB a (h2 a (by simp))) (hB b (h2 b (by simp))) (hB v hv) ?_;ac_nf;refine z2d (λhc =>?_) (λhc =>?_)
    ·refine zjj (z1Q rfl ?_);unfold popL;rw[List.length_map,List.length_reverse,List.getElem?_map,show (b::a::r).reverse[(b::a::r).length - 1]? = some b by simp];refine⟨⟨a::r,?_,λp hp=>h2 p (List.mem_cons_of_mem _ hp),by simp at h3 ⊢; omega,?_⟩,?_⟩
     ·rw[<- h1];show _=Geo.pops v (b::a::r);rw[Geo.pops,if_pos hc]
     ·simp
     ·simp
    ·exact⟨b::a::r,by rw[<- h1,Geo.pops,if_neg hc],h2,h3,rfl⟩
  ·rintro ρ ⟨st',h1,h2,h3,rfl⟩;refine z9m (l:=[]) (z1Q rfl ?_);ac_nf;have hdl:dn.length<l.length:=by rw[e]; simp
   refine⟨by simp; exact szl' (by omega),Safe.of_noL rfl rfl _,?_⟩;ac_rfl;refine⟨v::st',.s (vec v),?_,λp hp =>?_,by simp; omega,by simp⟩
   ·unfold Geo.z21 at hst ⊢;rw[List.foldl_append, <- hst,h1]
    rfl
   ·rcases List.mem_cons.mp hp with rfl | hp
    ·exact hv
    ·exact h2 p hp
 rintro ρ ⟨st,x,hst,hsub,hlen,rfl⟩;ac_nf;rw[z6f,z9W,hst];exact q
def filterMap_map {α β:Type}{f:α->Option β}{g:α->β}:∀{ks:List α},(∀k∈ks,f k=some (g k))->ks.filterMap f=ks.map g
 | [],_=>rfl
 | k::ks,h=>by rw[List.filterMap_cons,h k (by simp),List.map_cons,filterMap_map λx hx=>h x (by simp[hx])]
def ze3 (l:List D):zcL l none none (-1)=l.reverse:=by
 have e1:sliceBounds none none (some (-1)) l.length=((l.length:Int) - 1,-1,-1):=by simp[sliceBounds]
 unfold zcL;rw[e1];have e2:sliceRange ((l.length:Int) - 1) (-1) (-1)=(List.range l.length).map λ(k:Nat)=>((l.length:Int) - 1 + -1*(k:Int)).toNat:=by
  unfold sliceRange;rw[if_neg (by decide)]
  by_cases h:(l.length:Int) - 1 > -1
  ·rw[if_pos h,show ((l.length:Int) - 1 - -1 - -1 - 1) / - -1=l.length by rw[show -(-1:Int)=1 from rfl,Int.ediv_one]; omega];simp
  ·rw[if_neg h];have:l.length=0:=by omega
   simp[this]
 rw[e2,List.filterMap_map];apply List.ext_getElem?;intro k;have fm:((List.range l.length).filterMap λ(k:Nat)=>l[((l.length:Int) - 1 + -1*(k:Int)).toNat]?)=(List.range l.length).map λk=>l.reverse.getD k .non:=by
  apply filterMap_map;intro k hk;have hk:=List.mem_range.mp hk;rw[show ((l.length:Int) - 1 + -1*(k:Int)).toNat=l.length - 1 - k by omega,List.getD_eq_getElem?_getD,List.getElem?_reverse hk,List.getElem?_eq_getElem (by omega)]
  rfl
 rw[show ((λx=>l[x]?) ∘ λ(k:Nat)=>((l.length:Int) - 1 + -1*(k:Int)).toNat)=λ(k:Nat)=>l[((l.length:Int) - 1 + -1*(k:Int)).toNat]? from rfl,fm,List.getElem?_map]
 rcases Nat.lt_or_ge k l.length with z | z
 ·rw[List.getElem?_range z];simp only[Option.map_some,List.getD_eq_getElem?_getD];rw[List.getElem?_reverse z,List.getElem?_eq_getElem (by omega)]
  rfl
 ·rw[List.getElem?_eq_none (by simpa using z),List.getElem?_eq_none (by simpa using z)]
  rfl
def zc0 (v:P):∀st:List P,(Geo.pops v st).length<=st.length
 | []=>by simp[Geo.pops]
 | [b]=>by simp[Geo.pops]
 | b::a::r=>by
  rw[Geo.pops]
  split
  ·have:=zc0 v (a::r);simp at this ⊢;omega
  ·simp
def zeX (l:List P):(Geo.z21 l).length<=l.length:=by
 unfold Geo.z21;have:∀(l:List P) (st:List P),(l.foldl (λst p=>p::Geo.pops p st) st).length<=st.length+l.length:=by
  intro l
  induction l with
  | nil=>intro st; simp
  | cons p l ih=>
   intro st;have:=ih (p::Geo.pops p st);have:=zc0 p st;simp at*;omega
 simpa using this l []
def zhz {d:D}{l:List P}{Q:DK}{X:XP}(hd:Vs d l)(hb:Wb 20000000 l)(hn:l≠[])(hz:l.length<=63)(q:∀h,Geo.Hd l h->Q (vecs h)):z2b.run [d] Q X:=by
 walk_at "fn";ac_nf;refine hd.set hz ⟨λk hk =>?_,λkl hr =>?_⟩
 ·obtain⟨p,_,rfl⟩:=List.mem_map.mp hk;exact List.cons_ne_nil _ _
 obtain⟨rl,rfl,h1,h2⟩:=zbP rfl hr;rw[<- zdj];have hz2:rl.length<=l.length:=z3L (h1.imp λz=>z.ne) λp hp=>(h2 p).mp hp;have hb2:Wb 20000000 rl:=λp hp=>hb p ((h2 p).mp hp);have hr0:rl≠[]:=λz=>by
  obtain⟨x,l',rfl⟩:=List.exists_cons_of_ne_nil hn;have:=(h2 x).mpr (by simp);rw[z] at this
  cases this
 have hrp:=List.length_pos_iff.mpr hr0;ac_nf;rw[List.length_map];refine z2d (λh =>?_) (λh =>?_)
 ·ac_nf;have e:Geo.hull rl=rl:=if_pos (by omega);have:=q _ ⟨rl,h1,h2,rfl⟩;rw[e] at this;exact this
 ac_nf;refine zgJ hb2 (by omega) ?_;ac_nf;refine⟨by decide,?_⟩;show z0x.run [.lst (zcL (rl.map vec) none none (-1))] _ _;rw[ze3, <- List.map_reverse];have hcl:∀l:List P,(Geo.z21 l).length<=l.length:=zeX;refine zgJ (λp hp=>hb2 p (by simpa using hp)) (by simp; omega) ?_;refine zen (by have:=hcl rl; have:=hcl rl.reverse; simp at *; exact szl (by omega)) ?_;rw[<- List.map_append];ac_nf;have e:Geo.hull rl=(Geo.z21 rl).reverse.dropLast++(Geo.z21 rl.reverse).reverse.dropLast:=if_neg (by omega);have:=q _ ⟨rl,h1,h2,rfl⟩;rw[e] at this;exact this
end Pu
namespace L2
open PySem PySem.Spec PyProof.Rows
end L2
namespace Pu
open PySem PySem.Spec PyProof.Rows L2
section
variable {X:Cx}{K:W.Frag}{mg:Str->Option Value}{E:XK}{G H:Hp}
def rRng:List V->Hp->VK->Prop:=λvs H Q=>∃j:Int,vs=[.int j]/\∀r,H r=none->Q (.ref r) (upd H r (.rng 0 j))
def zgr:z19 X (.type "range") rRng:=by
 intro pins s σ H xs us Q I rv ⟨j,e,q⟩;subst e;obtain⟨u,rfl,rx⟩:=z4V rv;obtain⟨t,rfl⟩:=rx;refine call_range_1 ?_;exact⟨.ref s.heap.objs.size,_,I.laid (o :=.rng 0 j) (λb o e=>Heap.get?_push_of_some _ e) (Nat.le_refl _) ⟨_,_,_,Heap.get?_push_size _ rfl⟩,rfl,q _ (I.hok.fresh (Nat.le_refl _))⟩
def zlu:List V->Hp->VK->Prop:=λvs H Q=>∃(r:Addr) (j:Int),vs=[.ref r]/\H r=some (.rng 0 j) /\ -(2 ^ 24)<=j/\j<2 ^ 24/\∀d,H d=none->Q (.ref d) (upd H d (.lst ((List.range j.toNat).map λ(k:Nat)=>V.int (k:Int))))
def items_ints:∀{n:Nat}{acc:Array Value},ItemsOf (λi v=>∃t,v=Value.int (0+i*1) t) acc n->Vals ((List.range n).map λ(k:Nat)=>V.int (k:Int)) acc.toList:=by
 intro n acc h;have hz:=h.1;have all:∀(m:Nat) (l:List Value) (f:Nat->Int),l.length=m->(∀i v,l[i]? = some v->∃t,v=Value.int (f i) t)->Vals ((List.range m).map λ(k:Nat)=>V.int (f k)) l:=by
  intro m
  induction m with
  | zero=>intro l f e _; cases l with
   | nil=>exact .nil
   | cons=>simp at e
  | succ m ih=>
   intro l f e hv
   cases l with
   | nil=>simp at e
   | cons v l=>
    rw[List.range_succ_eq_map,List.map_cons,List.map_map];exact .cons (hv 0 v rfl) (ih l (λk=>f (k+1)) (by simpa using e) λi w hw=>hv (i+1) w (by simpa using hw))
 refine all n acc.toList (λk=>(k:Int)) (by simpa using hz) λi v e =>?_;obtain⟨t,e'⟩:=h.2 i v (by simpa using e);exact⟨t,by rw[e']; simp⟩
def zaN (hc:X.calm=true):z19 X (.type "list") zlu:=by
 intro pins s σ H xs us Q I rv ⟨r,j,e,hr,j0,j1,q⟩;subst e;obtain⟨u,rfl,rx⟩:=z4V rv
 cases rx
 have hh:X.A.handled=none:=I.ok.hd hc;obtain⟨t,u,v,ho⟩:=(show z3C X.prog X.w _ s.heap r (.rng 0 j) from I.hok r _ hr)
 have sz:Builtin.Range.rangeSize 0 j 1=(j.toNat:Nat):=by rw[rangeSize_one]; split <;> omega
 refine call_list_range (n:=j.toNat) hh ho (small_one (by omega) (by omega) (by omega) (by omega)) sz (by omega) λh' tk acc c hk hS it =>?_;have v:=items_ints it;refine⟨.ref s.heap.objs.size,_,I.laid (o :=.lst ((List.range j.toNat).map λ(k:Nat)=>V.int (k:Int))) hk (Nat.le_refl _) ⟨?_,acc.toList,c,v,?_⟩,rfl,q _ (I.hok.fresh (Nat.le_refl _))⟩
 ·rw[List.length_map,List.length_range];show j.toNat<=2 ^ 24+0;omega
 ·rw[hS]
def zgh (d:D)(Q:DK):Prop:=isI d λj => -(2 ^ 24)<=j/\j<2 ^ 24/\Q (.lst ((List.range j.toNat).map λ(k:Nat) =>.int (k:Int)))
def z4C:Fn:=fn1 zgh λd Q Q' m h=>z6A (λl q=>⟨q.1,q.2.1,m _ q.2.2⟩) h
def z5I {e:Expr}{x:Ex}{p1 p2 p3 p4:Pos}(hc:X.calm=true)(hg:Gl X "list")(hm:X.mg "list"=none)(hg2:Gl X "range")(hm2:X.mg "range"=none)(ha:QXA X E [e] [x])
  (hs1:starEach [e] X.env=(false,eval e X.env)::starEach [] X.env:=by rfl) (hs2:starEach [.Call (.Name "range" p2) [e] [] p3] X.env=(false,eval (.Call (.Name "range" p2) [e] [] p3) X.env)::starEach [] X.env:=by rfl):QF X E (.Call (.Name "list" p1) [.Call (.Name "range" p2) [e] [] p3] [] p4) (.op z4C [x]):=
 QE.imp (z4v (zaN hc) hg hm (by rfl) (z9s (z4v zgr hg2 hm2 (by rfl) ha (by decide) (by decide) hs1 (by rfl)) zbY hs2) (by decide) (by decide) hs2 (by rfl)) λσ H Q ⟨G,ρ,Q0,X0,hs,ab,hr,hk,hx⟩=>by
  refine⟨G,ρ,λds=>z4C.run ds Q0 X0,X0,hs,ab,hr,λds vs G1 H1 q g1 g2 g3 rds =>?_,hx⟩;obtain⟨d,rfl,q'⟩:=z2l q;obtain⟨v,rfl,rd⟩:=rds1 rds;obtain⟨j,rfl,j0,j1,q2⟩:=z9M q';refine⟨j,by rw[z0Y rd],λr hr0=>⟨r,j,rfl,z0A,j0,j1,λd hd =>?_⟩⟩;have hd1:H1 d=none:=by
   cases z:H1 d with
   | none=>rfl
   | some o=>rw[z0G hr0 _ d o z] at hd; cases hd
  have hd0:H d=none:=by
   cases z:H d with
   | none=>rfl
   | some o=>rw[g3 d o z] at hd1; cases hd1
  have s2:Same H1 (upd (upd H1 r (.rng 0 j)) d (.lst ((List.range j.toNat).map λ(k:Nat)=>V.int (k:Int)))):=z0a (z0G hr0 _) (z0G hd _);refine hk (.lst ((List.range j.toNat).map λ(k:Nat) =>.int (k:Int))) d G1 _ q2 g1 (z0a g2 s2) (z0a g3 s2) hd0 (z1z g2 hd1) ⟨_,z0A,?_⟩;have all:∀(l:List Nat),RDs X.K X.mg G1 (l.map λ(k:Nat) =>.int (k:Int)) (l.map λ(k:Nat)=>V.int (k:Int)):=by
   intro l
   induction l with
   | nil=>exact RDs.nil
   | cons a l ih=>exact RDs.cons RD.int' ih
  exact all _
end
end Pu
namespace Pu
open PySem L2
def z0t:Fn:=Fn.mkN 3 6 (.seq (.own 3 (.comp 1 [] (.nm 0) (.v 0) none (.c (.int 0))))
 (.seq (.set 4 (.op z2e [(.v 1),(.c (.int 7))]))
 (.seq (.for_ [] (.nm 5) (.v 2) (.seq (.put 3 (.v 5) (.op pMod [(.op z06 [(.v 1),(.op pAdd [(.c (.int 90)),(.v 5)])]),(.op pIx [(.op pLst [(.c (.int 2)),(.c (.int 4)),(.op pPow [(.c (.int 10)),(.c (.int 12))])]),(.op pMod [(.op z06 [(.v 1),(.c (.int 119))]),(.c (.int 3))])])]))
 (.ifs (.op pEq [(.op pMod [(.v 1),(.c (.int 7))]),(.c (.int 3))]) (.seq (.put 3 (.v 5) (.op pMod [(.v 4),(.op pPow [(.c (.int 10)),(.c (.int 6))])]))
 (.set 4 (.op z2e [(.v 4),(.op pPow [(.c (.int 10)),(.c (.int 6))])]))) .skip)))
 (.seq (.ifs (.op pEq [(.op pSum [(.v 3)]),(.c (.int 0))]) (.put 3 (.op pIx [(.v 2),(.op pMod [(.op z06 [(.v 1),(.c (.int 120))]),(.op pLen [(.v 2)])])]) (.c (.int 1))) .skip)
 (.ret (.op z4w [(.comp 1 [3] (.nm 0) (.op z94 [(.op pLen [(.v 0)])]) (some (.op pGt [(.op pIx [(.v 1),(.v 0)]),(.c (.int 0))])) (.op pTup [(.v 0),(.op z1U [(.op pIx [(.v 1),(.v 0)]),(.op pSum [(.v 1)])])]))]))))))
def z1o:Fn:=Fn.mkN 2 11 (.seq (.set 2 (.op pMod [(.op z06 [(.v 1),(.c (.int 140))]),(.c (.int 8))]))
 (.seq (.set 3 (.op pIx [(.v 0),(.op pMod [(.op z06 [(.v 1),(.c (.int 141))]),(.op pLen [(.v 0)])])]))
 (.seq (.unp [] [4,5,6] (.op z0T [(.v 0),(.op z0t [(.v 0),(.v 1),(.op z4C [(.op pLen [(.v 0)])])])]))
 (.seq (.ifs (.op pEq [(.v 2),(.c (.int 1))]) (.seq (.set 7 (.op pLst [(.op pMod [(.op z06 [(.v 1),(.c (.int 141))]),(.op pLen [(.v 0)])]),(.op pMod [(.op z06 [(.v 1),(.c (.int 142))]),(.op pLen [(.v 0)])])]))
 (.ret (.op z0T [(.v 0),(.op z0t [(.v 0),(.v 1),(.v 7)])]))) .skip)
 (.seq (.ifs (.op pEq [(.v 2),(.c (.int 2))]) (.ret (.op pTup [(.op pIx [(.v 3),(.c (.int 0))]),(.op pIx [(.v 3),(.c (.int 1))]),(.c (.int 1))])) .skip)
 (.seq (.ifs (.op pEq [(.v 2),(.c (.int 3))]) (.seq (.set 8 (.op pIx [(.op pLst [(.c (.int 1)),(.c (.int 7)),(.op pPow [(.c (.int 10)),(.c (.int 15))])]),(.op pMod [(.op z06 [(.v 1),(.c (.int 143))]),(.c (.int 3))])]))
 (.seq (.set 9 (.op pTup [(.op pSub [(.op z0u [(.op pIx [(.v 3),(.c (.int 0))]),(.v 6)]),(.v 4)]),(.op pSub [(.op z0u [(.op pIx [(.v 3),(.c (.int 1))]),(.v 6)]),(.v 5)])]))
 (.ret (.op z0l [(.op pAdd [(.op z0u [(.op z0u [(.op pIx [(.v 3),(.c (.int 0))]),(.v 6)]),(.v 8)]),(.op pIx [(.v 9),(.c (.int 0))])]),(.op pAdd [(.op z0u [(.op z0u [(.op pIx [(.v 3),(.c (.int 1))]),(.v 6)]),(.v 8)]),(.op pIx [(.v 9),(.c (.int 1))])]),(.op z0u [(.v 6),(.v 8)])])))) .skip)
 (.seq (.ifs (.op pEq [(.v 2),(.c (.int 4))]) (.seq (.set 10 (.op z0g [(.v 1),(.c (.int 144)),(.c (.int 1))]))
 (.seq (.set 8 (.op pAdd [(.c (.int 1)),(.op pMod [(.op z06 [(.v 1),(.c (.int 146))]),(.c (.int 9))])]))
 (.ret (.op z0l [(.op pAdd [(.op z0u [(.op pIx [(.v 3),(.c (.int 0))]),(.v 8)]),(.op pIx [(.v 10),(.c (.int 0))])]),(.op pAdd [(.op z0u [(.op pIx [(.v 3),(.c (.int 1))]),(.v 8)]),(.op pIx [(.v 10),(.c (.int 1))])]),(.v 8)])))) .skip)
 (.seq (.ifs (.op pEq [(.v 2),(.c (.int 7))]) (.seq (.set 10 (.op z0V [(.v 1),(.op pPow [(.c (.int 10)),(.c (.int 20))])]))
 (.ret (.op z0l [(.op pIx [(.v 10),(.c (.int 0))]),(.op pIx [(.v 10),(.c (.int 1))]),(.op pAdd [(.c (.int 1)),(.op pMod [(.op z2e [(.op z2e [(.v 1),(.op pAdd [(.op z0u [(.c (.int 2)),(.op pPow [(.c (.int 10)),(.c (.int 20))])]),(.c (.int 1))])]),(.op pAdd [(.op z0u [(.c (.int 2)),(.op pPow [(.c (.int 10)),(.c (.int 20))])]),(.c (.int 1))])]),(.op pPow [(.c (.int 10)),(.c (.int 9))])])])]))) .skip)
 (.seq (.ifs (.op pEq [(.v 2),(.c (.int 5))]) (.seq (.set 10 (.op z0g [(.v 1),(.c (.int 144)),(.c (.int 40))]))
 (.ret (.op z0l [(.op pIx [(.v 10),(.c (.int 0))]),(.op pIx [(.v 10),(.c (.int 1))]),(.op pAdd [(.c (.int 1)),(.op pMod [(.op z06 [(.v 1),(.c (.int 146))]),(.c (.int 7))])])]))) .skip)
 (.ret (.op pTup [(.v 4),(.v 5),(.v 6)])))))))))))
def z2a:Fn:=Fn.mkN 3 3 (.ret (.op pGt [(.op pAdd [(.op z0u [(.op pIx [(.v 1),(.c (.int 0))]),(.op pIx [(.v 0),(.c (.int 0))])]),(.op z0u [(.op pIx [(.v 1),(.c (.int 1))]),(.op pIx [(.v 0),(.c (.int 1))])])]),(.op z0u [(.v 2),(.op pIx [(.v 0),(.c (.int 2))])])]))
def z1O:Fn:=Fn.mkN 3 4 (.seq (.ifs (.op pEq [(.op pIx [(.v 2),(.c (.int 0))]),(.c (.str "sailed"))]) (.seq (.set 3 (.op pIx [(.v 2),(.c (.int 1))]))
 (.ret (.and (.op z2u [(.v 0),(.v 3)]) (.and (.op pEq [(.op z4c [(.v 3)]),(.op pTup [(.c (.int 1)),(.c (.int 1))])]) (.op pEq [(.op z4d [(.v 0),(.v 3)]),(.v 1)]))))) .skip)
 (.seq (.ifs (.op pEq [(.op pIx [(.v 2),(.c (.int 0))]),(.c (.str "barred"))]) (.ret (.op z2a [(.v 1),(.op pIx [(.v 2),(.c (.int 1))]),(.op z5z [(.v 0),(.op pIx [(.v 2),(.c (.int 1))])])])) .skip)
 (.ret (.c (.bl false)))))
end Pu
namespace Geo
def zh6 (w:P):∀h:List P,h≠[]->∃c∈h,∀d∈h,sc d w<=sc c w
 | [],n=>(n rfl).elim
 | [a],_=>⟨a,by simp,λd hd=>by rw[List.mem_singleton.mp hd]; exact Int.le_refl _⟩
 | a::b::r,_=>by
  obtain⟨c,hc,h⟩:=zh6 w (b::r) (by simp)
  rcases Int.le_total (sc a w) (sc c w) with z | z
  ·exact⟨c,by simp[hc],λd hd=>by
    rcases List.mem_cons.mp hd with rfl | hd
    ·exact z
    ·exact h d hd⟩
  ·exact⟨a,by simp,λd hd=>by
    rcases List.mem_cons.mp hd with rfl | hd
    ·exact Int.le_refl _
    ·exact Int.le_trans (h d hd) z⟩
def zhi {a b p:P}(ne:a≠b):(cr a b p=0/\0<=dot a b p/\0<=dot b a p)↔(0<=cr a b p/\0<=cr b a p/\(a.1 - p.1)*(b.1 - p.1)+(a.2 - p.2)*(b.2 - p.2)<=0):=by
 obtain⟨a1,a2⟩:=a;obtain⟨b1,b2⟩:=b;obtain⟨p1,p2⟩:=p;simp only[cr,dot];have e1:(b1 - a1)*(p2 - a2) - (b2 - a2)*(p1 - a1)=(a1 - p1)*(b2 - p2) - (a2 - p2)*(b1 - p1):=by grind
 have e2:(a1 - b1)*(p2 - b2) - (a2 - b2)*(p1 - b1) = -((a1 - p1)*(b2 - p2) - (a2 - p2)*(b1 - p1)):=by grind
 have e3:(p1 - a1)*(b1 - a1)+(p2 - a2)*(b2 - a2)=((a1 - p1)*(a1 - p1)+(a2 - p2)*(a2 - p2)) - ((a1 - p1)*(b1 - p1)+(a2 - p2)*(b2 - p2)):=by grind
 have e4:(p1 - b1)*(a1 - b1)+(p2 - b2)*(a2 - b2)=((b1 - p1)*(b1 - p1)+(b2 - p2)*(b2 - p2)) - ((a1 - p1)*(b1 - p1)+(a2 - p2)*(b2 - p2)):=by grind
 have ne':¬ (a1 - p1=b1 - p1/\a2 - p2=b2 - p2):=λz=>ne (Prod.ext (by simp; omega) (by simp; omega));rw[e1,e2,e3,e4];generalize a1 - p1=A at*;generalize a2 - p2=B at*;generalize b1 - p1=C at*;generalize b2 - p2=E at*;clear e1 e2 e3 e4 ne;have sq:∀x:Int,0<=x*x:=λx=>by
  rcases Int.le_total 0 x with z | z
  ·exact Int.mul_nonneg z z
  ·exact Int.mul_nonneg_of_nonpos_of_nonpos z z
 constructor
 ·rintro⟨h1,h2,h3⟩;refine⟨by omega,by omega,?_⟩
  rcases Int.lt_or_le 0 (A*C+B*E) with z | z
  ·exfalso
   have lag:(A*C+B*E)*(A*C+B*E)+(A*E - B*C)*(A*E - B*C)=(A*A+B*B)*(C*C+E*E):=by grind
   rw[h1,Int.zero_mul,Int.add_zero] at lag;have df:(A - C)*(A - C)+(B - E)*(B - E)=(A*A+B*B)+(C*C+E*E) - 2*(A*C+B*E):=by grind
   have q1:=sq (A - C);have q2:=sq (B - E);generalize A*C+B*E=s at*;generalize A*A+B*B=m at*;generalize C*C+E*E=n at*;have hm:m=s:=by
    rcases Int.lt_or_le s m with w | w
    ·have:=Int.mul_lt_mul_of_pos_right w (show 0<n by omega);have:=Int.mul_le_mul_of_nonneg_left (show s<=n by omega) (show 0<=s by omega);omega
    ·omega
   have hn:n=s:=by
    rw[hm] at lag;exact(Int.eq_of_mul_eq_mul_left (by omega) lag).symm
   have z1:(A - C)*(A - C)=0:=by omega
   have z2:(B - E)*(B - E)=0:=by omega
   have y1:=Int.mul_eq_zero.mp z1;have y2:=Int.mul_eq_zero.mp z2;exact ne' ⟨by omega,by omega⟩
  ·exact z
 ·rintro⟨h1,h2,h3⟩;have:=sq A;have:=sq B;have:=sq C;have:=sq E;exact⟨by omega,by omega,by omega⟩
end Geo
namespace Pu
open PySem L2 Mth
def zim (l:List Sh):noL (.tup (l.map shD))=true:=by
 show noLs (l.map shD)=true;refine z9G λd hd =>?_;obtain⟨x,_,rfl⟩:=List.mem_map.mp hd
 rfl
def zin (l:List Sh):noD (.tup (l.map shD))=true:=by
 show noDs (l.map shD)=true;refine z9H λd hd =>?_;obtain⟨x,_,rfl⟩:=List.mem_map.mp hd
 rfl
def zce {n:Nat}{k:Int}(h0:0<=k)(h1:k<n):ixN n k=some k.toNat:=by
 unfold ixN;rw[if_pos h0,if_pos h1]
def zc8 {k:Int}{Q:DK}{X:XP}(h : -(2 ^ 62)<=k)(h':k<2 ^ 62)(q:Q (.lst ((List.range k.toNat).map λ(j:Nat)=>D.int (j:Int)))):z94.run [.int k] Q X:=⟨⟨h,h'⟩,q⟩
def zgE:∀{ws:List Int}{M:Int},(∀w∈ws,0<=w/\w<=M)->0<=ws.sum/\ws.sum<=M*(ws.length:Int)
 | [],M,_=>by simp
 | w::ws,M,h=>by
  have:=zgE (ws:=ws) λx hx=>h x (by simp[hx]);have:=h w (by simp);rw[List.sum_cons,List.length_cons];have e:M*((ws.length+1:Nat):Int)=M*(ws.length:Int)+M:=by
   rw[Int.natCast_add]
   grind
  omega
def zdw:∀{ws:List Int},(∀w∈ws,0<=w)->ws.sum≠0->∃w∈ws,0<w
 | [],_,h=>by simp at h
 | w::ws,h,hn=>by
  have:=h w (by simp)
  rcases Int.lt_or_eq_of_le this with z | z
  ·exact⟨w,by simp,z⟩
  ·rw[List.sum_cons, <- z,Int.zero_add] at hn;obtain⟨x,hx,p⟩:=zdw (λx hx=>h x (by simp[hx])) hn;exact⟨x,by simp[hx],p⟩
def z8V:∀{ws:List Int},(∀w∈ws,0<=w)->(∃w∈ws,0<w)->0<ws.sum
 | [],_,⟨_,h,_⟩=>by simp at h
 | w::ws,h,⟨x,hx,p⟩=>by
  have h0:=h w (by simp);have h1:0<=ws.sum:=by
   have:∀(l:List Int),(∀w∈l,0<=w)->0<=l.sum:=λl=>by
    induction l with
    | nil=>intro _; simp
    | cons a l ih=>
     intro k;have:=ih λx hx=>k x (by simp[hx]);have:=k a (by simp);rw[List.sum_cons];omega
   exact this ws λx hx=>h x (by simp[hx])
  rw[List.sum_cons]
  rcases List.mem_cons.mp hx with z | z
  ·subst z; omega
  ·have:=z8V (λx hx=>h x (by simp[hx])) ⟨x,z,p⟩;omega
def z75 {α:Type}{l:List α}{i:Nat}{a x:α}(h:x∈l.set i a):x∈l\/x=a:=by
 rcases List.mem_or_eq_of_mem_set h with z | z
 ·exact .inl z
 ·exact .inr z
def zl2 {f:Nat->Int}{p:Nat->Bool}:∀{l:List Nat},(∀k∈l,p k=false->f k=0)->((l.filter p).map f).sum=(l.map f).sum
 | [],_=>rfl
 | k::l,h=>by
  have ih:=zl2 (f:=f) (p:=p) (l:=l) λx hx=>h x (by simp[hx]);rw[List.filter_cons]
  cases e:p k with
  | true=>simp[ih]
  | false=>simp[ih,h k (by simp) e]
def Dvs (sh:List Sh):Prop:=∃W,0<W/\Bt 50 W/\(∀s∈sh,s.2.2 ∣ W/\Bt 50 s.2.1)/\(sh.map λs=>s.2.1*(W / s.2.2)).sum=W
def z6h {w:Nat->Int}{g:Sh->Int}{S:Int}:∀{l:List Sh},(∀s∈l,s.2.1*S=g s*s.2.2)->Xq w l*S=Bq l*(l.map λs=>w s.1*g s).sum
 | [],_=>by simp[Xq]
 | s::l,h=>by
  have ih:=z6h (w:=w) (g:=g) (S:=S) (l:=l) λx hx=>h x (by simp[hx]);have hs:=h s (by simp);rw[Xq,Bq,List.map_cons,List.sum_cons]
  grind
def z63 {l:List P}{c:Int}{ks:List Nat}{Q:DK}{X:XP}(hk0:ks≠[])(hk:∀k∈ks,k<l.length)(hkl:ks.length<=62)(hz:l.length<=62)(q:∀sh,Shs l.length sh->Dvs sh->sh≠[]->Q (.tup (sh.map shD))):z0t.run [vecs l,.int c,.lst (ks.map λ(k:Nat) =>.int (k:Int))] Q X:=by
 have nl:∀ws:List Int,zfe (.lst (ws.map .int)) [.s (vecs l),.s (.int c),.s (.lst (ks.map λ(k:Nat) =>.int (k:Int))),.n,.n,.n]:=λws x hx=>by
  obtain⟨w,_,rfl⟩:=List.mem_map.mp hx;exact Safe.of_noL rfl rfl _
 walk_at "fn";ac_nf;refine⟨by rw[List.length_map]; exact szl (by omega),?_⟩;refine z3g (g:=λ_ =>.int 0) (λx _ K k =>?_) ?_
 ·ac_nf;exact k
 rw[show l.map (λ_=>D.int 0)=(l.map λ_=>(0:Int)).map .int by rw[List.map_map]; rfl];refine z3H (nl _) ?_;ac_rfl;ac_nf;refine z1D (f:=λ(j:Nat)=>D.int (j:Int)) (λdn ρ=>∃(ws:List Int) (rest:Int) (x5:B),ws.length=l.length/\(∀w∈ws,0<=w/\w<=1000000000000)/\ρ=[.s (vecs l),.s (.int c),.s (.lst (ks.map λ(k:Nat) =>.int (k:Int))),.o (.lst (ws.map .int)),.s (.int rest),x5]) ⟨l.map λ_=>(0:Int),_,_,by simp,λw hw=>by(obtain⟨_,_,rfl⟩:=List.mem_map.mp hw; decide),rfl⟩ ?_ ?_
 ·rintro dn k r ρ e ⟨ws,rest,x5,hw,hb,rfl⟩;have hkk:=hk k (by rw[e]; simp);have six:(10:Int) ^ (6:Int).toNat=1000000:=by decide
  show Sm.run _ _ _ _ _;ac_rfl;ac_nf;refine zhx (z1Q rfl ?_);ac_nf;refine z4A (z0r (by omega)) λu u0 u1 =>?_;ac_nf;refine z4A (z0r (by decide)) λv v0 v1 =>?_;ac_nf;refine menu (ns:=[2,4,10 ^ 12]) (by omega) (by show v % 3<3; omega) λm hm =>?_;have hm':0<m/\m<=1000000000000:=by
   simp only[List.mem_cons,List.not_mem_nil,or_false] at hm;omega
  clear hm;ac_nf;have m1:=Int.emod_nonneg u (show m≠0 by omega);have m2:=Int.emod_lt_of_pos u hm'.1;generalize u % m=w at*;rw[List.length_map];rw[zce (by omega) (by omega)];show Sm.run _ _ _ _ _;ac_rfl;rw[<- List.map_set];have hw2:(ws.set (k:Int).toNat w).length=l.length:=by rw[List.length_set]; exact hw
  have hb2:∀x∈ws.set (k:Int).toNat w,0<=x/\x<=1000000000000:=λx hx=>by
   rcases z75 hx with z | z
   ·exact hb x z
   ·omega
  ac_nf;refine z2d (λ_ =>?_) (λ_ =>?_)
  ·ac_nf;refine zhx (z1Q rfl ?_);ac_nf;rw[six];ac_nf;rw[List.length_map,zce (by omega) (by rw[hw2]; omega)];show Sm.run _ _ _ _ _;ac_rfl;rw[<- List.map_set];ac_nf;rw[six];ac_nf;refine⟨_,_,_,by rw[List.length_set]; exact hw2,λx hx =>?_,rfl⟩
   rcases z75 hx with z | z
   ·exact hb2 x z
   ·omega
  ·ac_nf;exact⟨_,_,_,hw2,hb2,rfl⟩
 rintro ρ ⟨ws,rest,x5,hw,hb,rfl⟩;refine zjn (λρ'=>∃ws:List Int,ws.length=l.length/\(∀w∈ws,0<=w/\w<=1000000000000)/\(∃w∈ws,0<w)/\ρ'=[.s (vecs l),.s (.int c),.s (.lst (ks.map λ(k:Nat) =>.int (k:Int))),.o (.lst (ws.map .int)),.s (.int rest),x5]) ?_ ?_
 ·ac_nf;refine zg3 ?_;ac_nf;refine z2d (λ_ =>?_) (λhs =>?_)
  ·ac_nf;refine zhx (z1Q rfl ?_);ac_nf;refine z4A (z0r (by decide)) λu u0 u1 =>?_;ac_nf;have hp:=List.length_pos_iff.mpr hk0;rw[List.length_map];refine z7T (by omega) ?_;have m1:=Int.emod_nonneg u (show (ks.length:Int)≠0 by omega);have m2:=Int.emod_lt_of_pos u (show (0:Int)<ks.length by omega);generalize u % (ks.length:Int)=w at*;ac_nf;obtain⟨k,hkm,ek⟩:=z7l (xs:=ks) (i:=w) (by omega) (by omega);have:=hk k hkm;refine z2v (z1a ek) ?_;ac_nf;rw[List.length_map,zce (by omega) (by omega)];show ∃_,_;ac_rfl;rw[<- List.map_set];refine⟨_,by rw[List.length_set]; exact hw,λx hx =>?_,⟨1,?_,by decide⟩,rfl⟩
   ·rcases z75 hx with z | z
    ·exact hb x z
    ·omega
   ·exact List.mem_set (by omega) _
  ·ac_nf;exact⟨ws,hw,hb,zdw (λx hx=>(hb x hx).1) hs,rfl⟩
 rintro ρ ⟨ws,hw,hb,hx,rfl⟩;have s0:=z8V (λx hx=>(hb x hx).1) hx;obtain⟨_,s1⟩:=zgE hb;have bS:Bt 50 ws.sum:=z0r (by omega);ac_nf;rw[List.length_map];have er:((l.length:Nat):Int).toNat=l.length:=by simp
 refine zc8 (by omega) (by omega) ?_;rw[er];ac_nf;refine⟨by rw[List.length_map,List.length_range]; exact szl (by omega),?_⟩;have at':∀k,k<l.length->atI (ws.map D.int) (k:Int)=some (.int (ws.getD k 0)):=λk hk'=>by
  unfold atI;rw[List.length_map,zce (by omega) (by omega)];show (ws.map D.int)[((k:Nat):Int).toNat]? = _;rw[show ((k:Nat):Int).toNat=k by simp,List.getElem?_map,List.getD_eq_getElem?_getD,List.getElem?_eq_getElem (by omega)]
  rfl
 have hwk:∀k,k<l.length->0<=ws.getD k 0/\ws.getD k 0<=1000000000000:=λk hk'=>by
  rw[List.getD_eq_getElem?_getD,List.getElem?_eq_getElem (by omega)];exact hb _ (List.getElem_mem _)
 refine z3h (f:=λ(j:Nat)=>D.int (j:Int)) (p:=λk=>decide (0<ws.getD k 0)) (g:=λk=>shD (k,ws.getD k 0 / (Int.gcd (ws.getD k 0) ws.sum:Int),ws.sum / (Int.gcd (ws.getD k 0) ws.sum:Int))) (λk hkr K k1 k2 =>?_) ?_
 ·have hkl':k<l.length:=List.mem_range.mp hkr;ac_nf;refine z2v (at' k hkl') ?_;ac_nf;refine z2d (λh1 =>?_) (λh1 =>?_)
  ·ac_nf;refine z2v (at' k hkl') ?_;ac_nf;refine zg3 ?_;ac_nf;refine zjl s0 bS.le ?_;ac_nf;exact k1 (decide_eq_true h1)
  ·exact k2 (decide_eq_false h1)
 ac_nf;rw[show ∀rs:List Nat,rs.map (λk=>shD (k,ws.getD k 0 / (Int.gcd (ws.getD k 0) ws.sum:Int),ws.sum / (Int.gcd (ws.getD k 0) ws.sum:Int)))=(rs.map λk=>((k,ws.getD k 0 / (Int.gcd (ws.getD k 0) ws.sum:Int),ws.sum / (Int.gcd (ws.getD k 0) ws.sum:Int)):Sh)).map shD from λrs=>by rw[List.map_map]; rfl];have bits:∀k,k<l.length->Bt 50 (ws.getD k 0 / (Int.gcd (ws.getD k 0) ws.sum:Int))/\Bt 50 (ws.sum / (Int.gcd (ws.getD k 0) ws.sum:Int)):=λk hk'=>by
  obtain⟨g0,_,_,_,_⟩:=z5m (t:=ws.getD k 0) s0;have:=hwk k hk';exact⟨Bt.of_abs (z0r (n:=50) (by omega)) (z0h g0),bS.of_abs (z0h g0)⟩
 have tot:((((List.range l.length).filter λk=>decide (0<ws.getD k 0)).map λk=>((k,ws.getD k 0 / (Int.gcd (ws.getD k 0) ws.sum:Int),ws.sum / (Int.gcd (ws.getD k 0) ws.sum:Int)):Sh)).map λs=>s.2.1*(ws.sum / s.2.2)).sum=ws.sum:=by
  rw[List.map_map];have e:∀k∈(List.range l.length).filter λk=>decide (0<ws.getD k 0),((λs:Sh=>s.2.1*(ws.sum / s.2.2)) ∘ λk=>((k,ws.getD k 0 / (Int.gcd (ws.getD k 0) ws.sum:Int),ws.sum / (Int.gcd (ws.getD k 0) ws.sum:Int)):Sh)) k=ws.getD k 0:=λk _=>by
   obtain⟨g0,f1,f2,f3,_⟩:=z5m (t:=ws.getD k 0) s0;show ws.getD k 0 / (Int.gcd (ws.getD k 0) ws.sum:Int)*(ws.sum / (ws.sum / (Int.gcd (ws.getD k 0) ws.sum:Int)))=_;rw[show ws.sum / (ws.sum / (Int.gcd (ws.getD k 0) ws.sum:Int))=(Int.gcd (ws.getD k 0) ws.sum:Int) from Int.ediv_eq_of_eq_mul_left (by omega) f2,Int.mul_comm, <- f1]
  rw[List.map_congr_left e,zl2 λk hk' hf=>by
   have h1:=of_decide_eq_false hf;have h2:=hwk k (List.mem_range.mp hk');omega, <- hw]
  exact(Geo.zj8 ws).symm
 refine q _ ⟨λs hs =>?_,?_,?_⟩ ⟨ws.sum,s0,bS,λs hs =>?_,tot⟩ ?_
 rotate_left 2
 ·refine Bt.le (Bq.bt (m:=67) λs hs =>?_) (show _<=4300 by
   rw[List.length_reverse,List.length_map];have:=List.length_filter_le (λk=>decide (0<ws.getD k 0)) (List.range l.length);rw[List.length_range] at this;omega)
  obtain⟨k,hk',rfl⟩:=List.mem_map.mp (List.mem_reverse.mp hs);exact(bits k (List.mem_range.mp (List.mem_filter.mp hk').1)).2.le
 rotate_right 2
 ·obtain⟨k,hk',rfl⟩:=List.mem_map.mp hs;obtain⟨hk1,hk2⟩:=List.mem_filter.mp hk';have hk1:=List.mem_range.mp hk1;have hk2:=of_decide_eq_true hk2;obtain⟨g0,e1,e2,e3,e4⟩:=z5m (t:=ws.getD k 0) s0;obtain⟨b1,b2⟩:=bits k hk1;refine⟨⟨?_,by show 0<ws.sum / _; omega,e4,b1.le,b2.le⟩,hk1⟩;show 0<ws.getD k 0 / (Int.gcd (ws.getD k 0) ws.sum:Int)
  rcases Int.lt_or_le 0 (ws.getD k 0 / (Int.gcd (ws.getD k 0) ws.sum:Int)) with z | z
  ·exact z
  ·have:=Int.mul_nonpos_of_nonneg_of_nonpos (Int.le_of_lt g0) z;omega
 ·rw[List.pairwise_map];exact(List.pairwise_lt_range).filter _
 ·obtain⟨k,hk',rfl⟩:=List.mem_map.mp hs;exact⟨⟨_,(Int.ediv_mul_cancel (show (Int.gcd (ws.getD k 0) ws.sum:Int) ∣ ws.sum from Int.gcd_dvd_right ..)).symm⟩,(bits k (List.mem_range.mp (List.mem_filter.mp hk').1)).1⟩
 ·intro z;obtain⟨w,hw1,hw2⟩:=hx;obtain⟨k,hk1,hk2⟩:=List.getElem_of_mem hw1;have:k∈(List.range l.length).filter λk=>decide (0<ws.getD k 0):=by
   refine List.mem_filter.mpr ⟨List.mem_range.mpr (by omega),decide_eq_true ?_⟩;rw[List.getD_eq_getElem?_getD,List.getElem?_eq_getElem hk1,hk2];exact hw2
  rw[List.map_eq_nil_iff.mp z] at this
  cases this
def zjf {js is:List Nat}{e:Ex}{ρ:Pu.Env}{N:Pu.Env->Prop}{Q:DK}{X:XP}(q:e.run (vis (dem js ρ)) (λd=>onL (seqD d) λds=>is.length=ds.length/\N (z0w is ds (dem js ρ))) X):(Sm.unp js is e).run ρ N Q X:=q
def zgz {f g:Nat->Int}{a b:Int}:∀l:List Sh,Xq (λk=>f k*a+g k*b) l=Xq f l*a+Xq g l*b
 | []=>by simp[Xq]
 | s::l=>by
  have ih:=zgz (f:=f) (g:=g) (a:=a) (b:=b) l;simp only[Xq,ih]
  grind
def ziL {f:Nat->Int}{M:Int}(hf:∀k,f k<=M):∀{l:List Sh},(∀s∈l,Sg s)->Xq f l<=M*Xq (λ_=>1) l
 | [],_=>by simp[Xq]
 | s::l,h=>by
  have ih:=ziL hf (l:=l) λx hx=>h x (by simp[hx]);have hs:=h s (by simp);have hB:=Bq.pos (l:=l) λx hx=>h x (by simp[hx]);have h1:=Int.mul_le_mul_of_nonneg_right ih (Int.le_of_lt hs.bot);have h2:=Int.mul_le_mul_of_nonneg_right (hf s.1) (Int.le_of_lt (Int.mul_pos hs.top hB));have e1:Xq f (s::l)=Xq f l*s.2.2+f s.1*(s.2.1*Bq l):=by simp only[Xq]; grind
  have e2:M*Xq (λ_=>1) (s::l)=M*Xq (λ_=>1) l*s.2.2+M*(s.2.1*Bq l):=by simp only[Xq]; grind
  rw[e1,e2];omega
abbrev pcD (x y t:Int):D :=.tup [.int x,.int y,.int t]
structure Pc (x y t:Int):Prop where
 pos:0<t
 bx:Bt 800 x
 bY:Bt 800 y
 bt:Bt 110 t
 cop:Int.gcd ((Int.gcd x y:Nat):Int) t=1
def Pl.pc {x y b u v t:Int}(h:Pl x y b u v t)(hb:0<b)(bb:Bt 110 b)(bx:Bt 800 x)(bY:Bt 800 y):Pc u v t:=by
 obtain⟨z1,z2,z3⟩:=h.bt hb bb bx bY;exact⟨h.pos,z2,z3,z1,h.cop⟩
def ziM {l:List P}(hn:l≠[])(hb:Wb 600 l)(k:Nat):Bt 600 (wx l k)/\Bt 600 (wy l k):=hb _ (List.mem_of_getElem? (Geo.z4f (List.length_pos_iff.mpr hn)))
def Dvs.one {sh:List Sh}(h:Dvs sh):Xq (λ_=>1) sh.reverse=Bq sh.reverse:=by
 obtain⟨W,hW,_,hd,e⟩:=h;have hg:∀s∈sh.reverse,s.2.1*W=(s.2.1*(W / s.2.2))*s.2.2:=λs hs'=>by
  obtain⟨d,_⟩:=hd s (List.mem_reverse.mp hs');rw[Int.mul_assoc,Int.ediv_mul_cancel d]
 have h1:=z6h (w:=λ_=>1) hg;rw[show (sh.reverse.map λs=>(1:Int)*(s.2.1*(W / s.2.2)))=(sh.reverse.map λs=>s.2.1*(W / s.2.2)) from List.map_congr_left λs _=>Int.one_mul _,z7V,e] at h1;exact Int.eq_of_mul_eq_mul_right (by omega) h1
def zgF {f:Sh->Int}{n:Nat}:∀{l:List Sh},(∀s∈l,Bt n (f s))->Bt (n+l.length) (l.map f).sum
 | [],_=>by
  rw[List.map_nil,List.sum_nil];exact Bt.le (m:=0) (z0r (by decide)) (Nat.zero_le _)
 | s::l,h=>by
  rw[List.map_cons,List.sum_cons];exact Bt.le (Bt.add (h s (by simp)) (zgF λx hx=>h x (by simp[hx]))) (by simp; omega)
def Pl.small {x y b u v t N M W:Int}(hb:0<b)(hW:0<W)(h:Pl x y b u v t)(e1:x*W=b*N)(e2:y*W=b*M):t ∣ W/\u*W=N*t/\v*W=M*t:=by
 have cx:=h.cx;have cy:=h.cy;have f1:u*W=N*t:=Int.eq_of_mul_eq_mul_left (a:=b) (by omega) (by grind);have f2:v*W=M*t:=Int.eq_of_mul_eq_mul_left (a:=b) (by omega) (by grind);exact⟨z7z h.cop ⟨N,by rw[f1,Int.mul_comm]⟩ ⟨M,by rw[f2,Int.mul_comm]⟩,f1,f2⟩
def zaX {u W N t:Int}(hW:0<W)(ht:0<t)(hd:t ∣ W)(e:u*W=N*t):u.natAbs<=N.natAbs:=by
 have h1:=Int.le_of_dvd hW hd;have h2:=congrArg Int.natAbs e;rw[Int.natAbs_mul,Int.natAbs_mul] at h2
 rcases Nat.lt_or_ge N.natAbs u.natAbs with z | z
 ·have a:=Nat.mul_lt_mul_of_lt_of_le z (show t.natAbs<=W.natAbs by omega) (by omega);omega
 ·exact z
def zgI {l:List P}{sh:List Sh}{Q:DK}{X:XP}(hl:l≠[])(hz:l.length<=62)(hb:Wb 600 l)(h:Shs l.length sh)(hD:Dvs sh)(q:∀u v t,Pl (Xq (wx l) sh.reverse) (Xq (wy l) sh.reverse) (Bq sh.reverse) u v t->Pc u v t->(Bt 762 u/\Bt 762 v/\Bt 50 t)->Q (pcD u v t)):z0T.run [vecs l,.tup (sh.map shD)] Q X:=by
 refine s_law_end hl hz hb h λu v t p =>?_;obtain⟨W,hW,bW,hd,_⟩:=hD;have sl:=z9j h.up λs hs=>(h.each s hs).2;have hs:∀s∈sh.reverse,Sg s:=λs hs=>(h.each s (List.mem_reverse.mp hs)).1;have rl:sh.reverse.length=sh.length:=List.length_reverse;have hg:∀s∈sh.reverse,s.2.1*W=(s.2.1*(W / s.2.2))*s.2.2:=λs hs'=>by
  obtain⟨d,_⟩:=hd s (List.mem_reverse.mp hs');rw[Int.mul_assoc,Int.ediv_mul_cancel d]
 have bg:∀s∈sh.reverse,Bt 100 (s.2.1*(W / s.2.2)):=λs hs'=>by
  obtain⟨d,b⟩:=hd s (List.mem_reverse.mp hs');exact Bt.le (Bt.mul b (bW.of_abs (z0h (hs s hs').bot)))
 obtain⟨d1,e1,e2⟩:=p.small (Bq.pos hs) hW (z6h hg) (z6h hg);have b1:Bt 50 t:=bW.of_abs (by have:=Int.le_of_dvd hW d1; have:=p.pos; omega);have sx:∀w:Nat->Int,(∀k,Bt 600 (w k))->Bt 762 (sh.reverse.map λs=>w s.1*(s.2.1*(W / s.2.2))).sum:=λw hw=>Bt.le (zgF λs hs'=>Bt.mul (hw s.1) (bg s hs')) (by omega);have bu:Bt 762 u:=(sx (wx l) λk=>(ziM hl hb k).1).of_abs (zaX hW p.pos d1 e1);have bv:Bt 762 v:=(sx (wy l) λk=>(ziM hl hb k).2).of_abs (zaX hW p.pos d1 e2);exact q u v t p ⟨p.pos,bu.le,bv.le,b1.le,p.cop⟩ ⟨bu,bv,b1⟩
def zcG {l:List P}{c:Int}{Q:DK}{X:XP}(hn:l≠[])(hz:l.length<=62)(hb:Wb 600 l)(q:∀x y t,Pc x y t->Q (pcD x y t)):z1o.run [vecs l,.int c] Q X:=by
 have hp:=List.length_pos_iff.mpr hn;walk_at "fn";ac_nf;refine z4A (z0r (by decide)) λu u0 u1 =>?_;ac_nf;generalize u % 8=way;refine z4A (z0r (by decide)) λu u0 u1 =>?_;ac_nf;rw[List.length_map];refine z7T (by omega) ?_;have m1:=Int.emod_nonneg u (show (l.length:Int)≠0 by omega);have m2:=Int.emod_lt_of_pos u (show (0:Int)<l.length by omega);generalize u % (l.length:Int)=w at*;obtain⟨p,hpm,ep⟩:=z7l (xs:=l) (i:=w) (by omega) (by omega);ac_nf;refine z2v (z1a ep) ?_;ac_nf;refine zjf ?_;ac_rfl;ac_nf;rw[List.length_map];refine⟨by omega,by omega,?_⟩;rw[show ((l.length:Nat):Int).toNat=l.length by simp];refine z63 (ks:=List.range l.length) (List.ne_nil_of_length_pos (by rw[List.length_range]; exact hp)) (λk hk=>List.mem_range.mp hk) (by simp; omega) hz λsh hsh hf h0 =>?_;refine zgI hn hz hb hsh hf λE N B pl pc ⟨bE,bN,bB⟩ =>?_;refine⟨rfl,?_⟩;unfold z0w z0w z0w z0w;have B0:=pc.pos;obtain⟨p1,p2⟩:=hb p hpm;have k1:Bt 110 1:=z0r (by decide);ac_rfl;ac_nf;refine z2d (λ_ =>?_) (λ_ =>?_)
 ·ac_nf;refine z4A (z0r (by decide)) λu u0 u1 =>?_;ac_nf;rw[List.length_map];refine z7T (by omega) ?_;have i1:=Int.emod_nonneg u (show (l.length:Int)≠0 by omega);have i2:=Int.emod_lt_of_pos u (show (0:Int)<l.length by omega);generalize u % (l.length:Int)=i at*;ac_nf;refine z4A (z0r (by decide)) λu u0 u1 =>?_;ac_nf;rw[List.length_map];refine z7T (by omega) ?_;have j1:=Int.emod_nonneg u (show (l.length:Int)≠0 by omega);have j2:=Int.emod_lt_of_pos u (show (0:Int)<l.length by omega);generalize u % (l.length:Int)=j at*;obtain⟨i,rfl⟩:∃a:Nat,i=a:=⟨i.toNat,by omega⟩
  obtain⟨j,rfl⟩:∃a:Nat,j=a:=⟨j.toNat,by omega⟩
  ac_nf;refine z63 (ks:=[i,j]) (by simp) (λk hk=>by simp at hk; omega) (by simp) hz λsh hsh hf h0 =>?_;exact zgI hn hz hb hsh hf λu v t _ pc _=>q _ _ _ pc
 ac_nf;refine z2d (λ_ =>?_) (λ_ =>?_)
 ·ac_nf;exact q _ _ _ ⟨by decide,p1.le,p2.le,k1,by simp⟩
 ac_nf;refine z2d (λ_ =>?_) (λ_ =>?_)
 ·ac_nf;refine z4A (z0r (by decide)) λu u0 u1 =>?_;ac_nf;refine menu (ns:=[1,7,10 ^ 15]) (by omega) (by show u % 3<3; omega) λm hm =>?_;have hm':0<m/\m<=1000000000000000:=by
   simp only[List.mem_cons,List.not_mem_nil,or_false] at hm;omega
  clear hm;have bm:Bt 51 m:=z0r (by omega);ac_nf;have g1:Bt 650 (p.1*B):=Bt.le (Bt.mul p1 bB);have g2:Bt 650 (p.2*B):=Bt.le (Bt.mul p2 bB);ac_nf;refine zad (Int.mul_pos B0 hm'.1) (Bt.le (Bt.mul bB bm)) λa b c h =>?_;exact q _ _ _ (h.pc (Int.mul_pos B0 hm'.1) (Bt.le (Bt.mul bB bm)) (Bt.le (Bt.add (Bt.mul g1 bm) (Bt.sub g1 bE))) (Bt.le (Bt.add (Bt.mul g2 bm) (Bt.sub g2 bN))))
 ac_nf;refine z2d (λ_ =>?_) (λ_ =>?_)
 ·ac_nf;refine z5q (by omega) (by omega) (by omega) (by omega) λv hv =>?_;obtain⟨v1,v2⟩:=hv.vb (n:=30) (by decide);ac_nf;refine z4A (z0r (by decide)) λu u0 u1 =>?_;have bu:Bt 30 (1+u % 9):=z0r (by omega);ac_nf;refine zad (by omega) bu.le λa b c h =>?_;exact q _ _ _ (h.pc (by omega) bu.le (Bt.le (Bt.add (Bt.mul p1 bu) v1)) (Bt.le (Bt.add (Bt.mul p2 bu) v2)))
 ac_nf;refine z2d (λ_ =>?_) (λ_ =>?_)
 ·ac_nf;refine zbN (by decide) (z0r (by decide)) λv hv =>?_;obtain⟨v1,v2⟩:=hv.vb (n:=70) (by decide);ac_nf;rw[show (10:Int) ^ Int.toNat 9=1000000000 by decide];generalize c / (2*10 ^ Int.toNat 20+1) / (2*10 ^ Int.toNat 20+1)=u;have bu:Bt 31 (1+u % 1000000000):=z0r (by omega);refine zad (by omega) bu.le λa b c h =>?_;exact q _ _ _ (h.pc (by omega) bu.le v1.le v2.le)
 ac_nf;refine z2d (λ_ =>?_) (λ_ =>?_)
 ·ac_nf;refine z5q (by omega) (by omega) (by omega) (by omega) λv hv =>?_;ac_nf;refine z4A (z0r (by decide)) λu u0 u1 =>?_;obtain⟨v1,v2⟩:=hv.vb (n:=30) (by decide);have bu:Bt 30 (1+u % 7):=z0r (by omega);ac_nf;refine zad (by omega) bu.le λa b c h =>?_;exact q _ _ _ (h.pc (by omega) bu.le v1.le v2.le)
 ac_nf;exact q _ _ _ pc
def deq3 (a b c x y z:Int):deq (pcD a b c) (pcD x y z)=decide (a=x/\b=y/\c=z):=by
 show PyData.eqv (.tuple [.int a,.int b,.int c]) (.tuple [.int x,.int y,.int z])=_;simp[PyData.eqv,PyData.eqvAll]
 by_cases h1:a=x <;> by_cases h2:b=y <;> by_cases h3:c=z <;> simp[h1,h2,h3]
def Da3 (a b c:Int){n:Nat}:Da (n+1) (pcD a b c):=Da.tup.mpr λd hd=>by
 simp only[List.mem_cons,List.not_mem_nil,or_false] at hd
 rcases hd with rfl | rfl | rfl <;> exact Da.int
def zko {X B u t:Int}(hB:0<B)(h:Pl X 0 B u 0 t):(u=1/\t=1)↔X=B:=by
 constructor
 ·rintro⟨rfl,rfl⟩;have:=h.cx;omega
 ·rintro rfl;have:=h.eq hB (k:=⟨by decide,by decide,by omega,by omega⟩) (u':=1) (v':=0) (t':=1);exact⟨this.1,this.2.2⟩
def zdc {l:List P}{b:P}{x y t m:Int}(ht:0<t)(h1:m∈l.map (dot · b))(h2:∀p∈l,dot p b<=m):m*t<dot (x,y) b↔∀p∈l,dot p b*t<dot (x,y) b:=by
 constructor
 ·intro h p hp;have:=Int.mul_le_mul_of_nonneg_right (h2 p hp) (Int.le_of_lt ht);omega
 ·intro h;obtain⟨p,hp,rfl⟩:=List.mem_map.mp h1;exact h p hp
def zco {l:List P}{b:P}{m:Int}(hb:Wb 600 l)(hv:Vb 700 b)(h:m∈l.map (dot · b)):Bt 1400 m:=by
 obtain⟨p,hp,rfl⟩:=List.mem_map.mp h;obtain⟨b1,b2⟩:=hb p hp;exact Bt.le (Bt.add (Bt.mul b1 hv.1) (Bt.mul b2 hv.2))
def zbO {x y t m:Int}{b:P}{Q:DK}{X:XP}(pc:Pc x y t)(hv:Vb 700 b)(bm:Bt 1400 m)(q:Q (.bl (decide (m*t<dot (x,y) b)))):z2a.run [pcD x y t,vec b,.int m] Q X:=by
 obtain⟨pos,bx,bY,bt',_⟩:=pc;obtain⟨v1,v2⟩:=hv;walk_at "fn";ac_nf;rw[show b.1*x+b.2*y=dot (x,y) b by simp only[dot]; rw[Int.mul_comm b.1,Int.mul_comm b.2]];exact q
def zem {x y:Str}{Q:DK}{X:XP}(q:Q (.bl (decide (x=y)))):pEq.run [.str x,.str y] Q X:=q
end Pu
namespace Zp
open PySem PySem.Spec PyProof.Rows L2
section
variable {prog:Program}{w:World}{A:Around}{E:Value->Shared->Prop}{s:Shared}
def nx {j t:Addr}{n:Nat}{xs:Array Value}{x:Value}{Q:Value->Shared->Prop}(it:s.heap.IsTupleIter j t n)(tu:s.heap.IsTuple t xs)(e:xs[n]? = some x)
  (q:∀h',h'.IsTupleIter j t (n+1)->Heap.SameBut j s.heap h'->Q x { s with heap:=h' }):wpAny (model prog w) A (Builtin.SmallTypes.nextOf (.ref j)) Q E s:=by
 obtain⟨ob,g,gc,gd⟩:=id it;obtain⟨ot,gt,_,nt,gdt⟩:=tu
 delta Builtin.SmallTypes.nextOf
 refine wpAny_bind (wpAny_callSpecial?_slot (name:=Str.ofString "__next__") it.typeIs F.slot_tuple_iterator_next (wpAny_call_entry F.slot_tuple_iterator_next it.typeIs F.entry_tuple_iterator_next ?_ (F.args_tuple_iterator_next_1 _)));show wpAny _ _ (PySem.field (.ref j) 0 >>= _) _ _ s;refine wpAny_bind (wpAny_field g gd (x :=.ref t) rfl ?_);show wpAny _ _ (if (Value.ref t == Value.none)=true then _ else (PySem.field (.ref j) 1 >>= _)) _ _ s;rw[if_neg (show ¬ (Value.ref t == Value.none)=true from Bool.false_ne_true)];refine wpAny_bind (wpAny_field g gd (x :=.int n 0) rfl ?_);show wpAny _ _ (seqItems? (.ref t) >>= λ_=>_) _ _ s;refine wpAny_bind (wpAny_seqItems gt gdt ?_);simp only[Int.toNat_natCast,e];refine wpAny_bind (wpAny_setField g gd (by simp) (wpAny_pure ⟨x,rfl,wpAny_pure (q _ ⟨_,Heap.get?_update_self _ g (Obj.isFreed_of_fields (Obj.data_mapFields gd _)),(Obj.cls_mapFields ..).trans gc,by rw[Obj.data_mapFields gd]; simp[rawInt]⟩ (Heap.SameBut.update ..))⟩))
def nxE {j t:Addr}{n:Nat}{xs:Array Value}{Q:Value->Shared->Prop}(hh:A.handled=none)(it:s.heap.IsTupleIter j t n)(tu:s.heap.IsTuple t xs)(e:xs[n]? = none)
  (q:∀h' z,Heap.ExtBut j s.heap h'->(∃o,h'.get? z=some o/\o.cls = .type "StopIteration")->E (.ref z) { s with heap:=h' }):wpAny (model prog w) A (Builtin.SmallTypes.nextOf (.ref j)) Q E s:=by
 obtain⟨ob,g,gc,gd⟩:=id it;obtain⟨ot,gt,_,nt,gdt⟩:=tu
 delta Builtin.SmallTypes.nextOf
 refine wpAny_bind (wpAny_callSpecial?_slot (name:=Str.ofString "__next__") it.typeIs F.slot_tuple_iterator_next (wpAny_call_entry F.slot_tuple_iterator_next it.typeIs F.entry_tuple_iterator_next ?_ (F.args_tuple_iterator_next_1 _)));show wpAny _ _ (PySem.field (.ref j) 0 >>= _) _ _ s;refine wpAny_bind (wpAny_field g gd (x :=.ref t) rfl ?_);show wpAny _ _ (if (Value.ref t == Value.none)=true then _ else (PySem.field (.ref j) 1 >>= _)) _ _ s;rw[if_neg (show ¬ (Value.ref t == Value.none)=true from Bool.false_ne_true)];refine wpAny_bind (wpAny_field g gd (x :=.int n 0) rfl ?_);show wpAny _ _ (seqItems? (.ref t) >>= λ_=>_) _ _ s;refine wpAny_bind (wpAny_seqItems gt gdt ?_);simp only[Int.toNat_natCast,e];refine wpAny_bind (wpAny_rule (wpAny_bind (wpAny_setField g gd (by simp) (show wpAny _ _ (newExc (.type "StopIteration") [] >>= λ_=>_) _ _ _ from wpAny_bind ?_))));simp only[newExc,newTuple];refine wpAny_bind (wpAny_newObj_type (wpAny_bind (m:=firstArgMember _ _) (wpAny_of_eq (a:=Value.none) (by first | rfl | (simp only[firstArgMember]; rfl)) (wpAny_newObj_type ?_ (by size_fits)))) (by size_fits));simp only[raiseNew];refine wpAny_bind (wpAny_handled ?_)
 first | rw[show A.in1.handled=none from hh] | rw[hh]
 exact wpAny_bind (wpAny_pure (wpAny_throw (q _ _ (((Heap.SameBut.update ..).extBut.push _).push _) ⟨_,Heap.get?_push_size _ rfl,rfl⟩)))
structure St (h:Heap)(z TI TO i1 i2 t1 t2:Addr)(f:Value)(n:Nat):Prop where
 z:IsZip h z TI TO f
 ti:IsPair h TI (.ref i1) (.ref i2)
 to:∃a b,IsPair h TO a b
 a:h.IsTupleIter i1 t1 n
 b:h.IsTupleIter i2 t2 n
def tat {h h':Heap}{t:Addr}{xs:Array Value}(x:h.IsTuple t xs)(k:∀o,h.get? t=some o->h'.get? t=some o):h'.IsTuple t xs:=by
 obtain⟨o,e,r⟩:=x;exact⟨o,k o e,r⟩
variable {z TI TO i1 i2 t1 t2:Addr}{n:Nat}{xs ys:Array Value}{x y:Value}
def item {Q:Option Value->Shared->Prop}(D:ZipApart z TI TO i1 i2 t1 t2)(S:St s.heap z TI TO i1 i2 t1 t2 .none n)(hx:s.heap.IsTuple t1 xs)(hy:s.heap.IsTuple t2 ys)(ex:xs[n]? = some x)(ey:ys[n]? = some y)
  (q:∀h',St h' z TI TO i1 i2 t1 t2 (rawInt s.heap.objs.size) (n+1)->IsPair h' s.heap.objs.size x y->h'.objs.size=s.heap.objs.size+1->(∀c o,c≠z->c≠TO->c≠i1->c≠i2->s.heap.get? c=some o->h'.get? c=some o)->Q (some (.ref s.heap.objs.size)) { s with heap:=h' }):
  wpAny (model prog w) A (pyNext (.ref z)) Q E s:=by
 obtain⟨sz,sti,⟨pa,pb,sto⟩,sa,sb⟩:=S;have ty:s.TypeIs (.ref z) "zip":=⟨_,sz,rfl⟩
 delta pyNext
 refine wpAny_bind (wpAny_attempt (wpAny_callSpecial?_slot (name:=Str.ofString "__next__") ty F.slot_zip_next (wpAny_call_entry F.slot_zip_next ty F.entry_zip_next ?_ (F.args_zip_next_1 _))));show wpAny _ _ (PySem.field (.ref z) 2 >>= λ_=>_) _ _ _;refine wpAny_bind (wpAny_field sz rfl (x :=.bool false) rfl (show wpAny _ _ (PySem.field (.ref z) 3 >>= λ_=>_) _ _ _ from wpAny_bind (wpAny_field sz rfl (x :=.ref TI) rfl (wpAny_bind (wpAny_seqItems sti rfl ?_)))));show wpAny _ _ (Builtin.SmallTypes.ownedTupleIsFree (.ref z) >>= λ_=>_) _ _ _;refine wpAny_bind ?_
 delta Builtin.SmallTypes.ownedTupleIsFree
 refine wpAny_bind (wpAny_field sz rfl (x:=Value.none) rfl (wpAny_pure ?_));simp only[if_true];refine wpAny_bind (wpAny_rule (wpAny_bind (wpAny_field sz rfl (x:=Value.ref TO) rfl (wpAny_bind (wpAny_setField_rec sz (by simp) λg1 z1 k1 =>?_)))))
 replace z1:IsZip g1 z TI TO .ellipsis:=z1
 refine wpAny_bind ?_;simp only[List.zipIdx_cons,List.zipIdx_nil,List.forIn_cons,List.forIn_nil];refine wpAny_bind (wpAny_bind (wpAny_onRaise (show wpAny _ _ (Builtin.SmallTypes.nextOf (.ref i1) >>= λ_=>_) _ _ _ from wpAny_bind (nx (sa.extBut k1.extBut D.i1z) (tat hx λo e=>k1.extBut _ _ D.l1z e) ex λg2 a2 k2=>wpAny_pure ?_))));have o2:IsPair g2 TO pa pb:=k2.extBut _ _ D.TOi1 (k1.extBut _ _ D.TOz sto);refine wpAny_bind (wpAny_seqItems o2 rfl (wpAny_bind (wpAny_updateSeq_pair o2 λg3 o3 k3 =>?_)))
 replace o3:IsPair g3 TO x pb:=o3
 refine wpAny_bind (wpAny_letGo (wpAny_pure ?_));refine wpAny_bind (wpAny_bind (wpAny_onRaise (show wpAny _ _ (Builtin.SmallTypes.nextOf (.ref i2) >>= λ_=>_) _ _ _ from wpAny_bind (nx (((sb.extBut k1.extBut D.i2z).extBut k2.extBut D.i12.symm).extBut k3.extBut D.TOi2.symm)
  (tat hy λo e=>k3.extBut _ _ D.l2TO (k2.extBut _ _ D.l2i1 (k1.extBut _ _ D.l2z e))) ey λg4 b4 k4=>wpAny_pure ?_))))
 have o4:IsPair g4 TO x pb:=k4.extBut _ _ D.TOi2 o3;refine wpAny_bind (wpAny_seqItems o4 rfl (wpAny_bind (wpAny_updateSeq_pair o4 λg5 o5 k5 =>?_)))
 replace o5:IsPair g5 TO x y:=o5
 refine wpAny_bind (wpAny_letGo (wpAny_pure (wpAny_pure (wpAny_bind (wpAny_seqItems o5 rfl (wpAny_bind (wpAny_newTuple ?_)))))));have sze:g5.objs.size=s.heap.objs.size:=by rw[k5.1,k4.1,k3.1,k2.1,k1.1]
 have z5:IsZip g5 z TI TO .ellipsis:=k5.extBut _ _ D.TOz.symm (k4.extBut _ _ D.i2z.symm (k3.extBut _ _ D.TOz.symm (k2.extBut _ _ D.i1z.symm z1)));have kk:∀c o,c≠z->c≠TO->c≠i1->c≠i2->s.heap.get? c=some o->g5.get? c=some o:=λc o c1 c2 c3 c4 e=>k5.extBut _ _ c2 (k4.extBut _ _ c4 (k3.extBut _ _ c2 (k2.extBut _ _ c3 (k1.extBut _ _ c1 e))));have a5:g5.IsTupleIter i1 t1 (n+1):=((a2.extBut k3.extBut D.TOi1.symm).extBut k4.extBut D.i12).extBut k5.extBut D.TOi1.symm;have b5:g5.IsTupleIter i2 t2 (n+1):=b4.extBut k5.extBut D.TOi2.symm;have zlt:z<g5.objs.size:=Heap.lt_size z5;show wpAny _ _ (Builtin.SmallTypes.ownedTupleHandOut (.ref z) (.ref g5.objs.size) >>= λ_=>_) _ _ _;refine wpAny_bind ?_
 delta Builtin.SmallTypes.ownedTupleHandOut
 have z6:IsZip (g5.push { cls :=.type "tuple",data :=.seq #[x,y] }) z TI TO .ellipsis:=Heap.get?_push_of_some _ z5;refine wpAny_bind (wpAny_setField_rec z6 (by simp) λg7 z7 k7 =>?_)
 replace z7:IsZip g7 z TI TO (rawInt g5.objs.size):=z7
 refine wpAny_setField_rec z7 (by simp) λg8 z8 k8 =>?_
 replace z8:IsZip g8 z TI TO (rawInt g5.objs.size):=z8
 have up:∀c o,c≠z->g5.get? c=some o->g8.get? c=some o:=λc o c1 e=>k8.extBut _ _ c1 (k7.extBut _ _ c1 (Heap.get?_push_of_some _ e));have tp:IsPair g8 g5.objs.size x y:=k8.extBut _ _ (Nat.ne_of_gt zlt) (k7.extBut _ _ (Nat.ne_of_gt zlt) (Heap.get?_push_size _ rfl));have s8:g8.objs.size=g5.objs.size+1:=by rw[k8.1,k7.1,Heap.size_push]
 rw[sze] at z8 tp s8;refine wpAny_pure ⟨_,rfl,wpAny_pure ?_⟩;show Q (some (.ref g5.objs.size)) _;rw[sze];exact q g8 ⟨z8,up _ _ D.TIz (kk _ _ D.TIz D.TITO D.TIi1 D.TIi2 sti),⟨_,_,up _ _ D.TOz o5⟩,a5.at λo e=>up _ o D.i1z e,b5.at λo e=>up _ o D.i2z e⟩ tp s8 λc o c1 c2 c3 c4 e=>up c o c1 (kk c o c1 c2 c3 c4 e)
def fin {Q:Option Value->Shared->Prop}(hh:A.handled=none)(D:ZipApart z TI TO i1 i2 t1 t2)(S:St s.heap z TI TO i1 i2 t1 t2 .none n)(hx:s.heap.IsTuple t1 xs)(hy:s.heap.IsTuple t2 ys)(e:xs[n]? = none\/ys[n]? = none)
  (q:∀h',(∀c o,c≠z->c≠TO->c≠i1->c≠i2->s.heap.get? c=some o->h'.get? c=some o)->Q none { s with heap:=h' }):wpAny (model prog w) A (pyNext (.ref z)) Q E s:=by
 obtain⟨sz,sti,⟨pa,pb,sto⟩,sa,sb⟩:=S;have ty:s.TypeIs (.ref z) "zip":=⟨_,sz,rfl⟩
 have stop:∀h' v,(∀c o,c≠z->c≠TO->c≠i1->c≠i2->s.heap.get? c=some o->h'.get? c=some o)->(∃o,h'.get? v=some o/\o.cls = .type "StopIteration")->wpAny (model prog w) A (isInstance (.ref v) (.type "StopIteration") >>= λb=>if b=true then pure none else throw (Value.ref v)) Q E { s with heap:=h' }:=λh' v kk ⟨o,ho,hc⟩=>
  wpAny_bind (wpAny_isInstance (T:="StopIteration") (b:=true) ⟨o,ho,hc⟩ isSubtype_stop (wpAny_pure (q _ kk)))
 delta pyNext
 refine wpAny_bind (wpAny_attempt (wpAny_callSpecial?_slot (name:=Str.ofString "__next__") ty F.slot_zip_next (wpAny_call_entry F.slot_zip_next ty F.entry_zip_next ?_ (F.args_zip_next_1 _))));show wpAny _ _ (PySem.field (.ref z) 2 >>= λ_=>_) _ _ _;refine wpAny_bind (wpAny_field sz rfl (x :=.bool false) rfl (show wpAny _ _ (PySem.field (.ref z) 3 >>= λ_=>_) _ _ _ from wpAny_bind (wpAny_field sz rfl (x :=.ref TI) rfl (wpAny_bind (wpAny_seqItems sti rfl ?_)))));show wpAny _ _ (Builtin.SmallTypes.ownedTupleIsFree (.ref z) >>= λ_=>_) _ _ _;refine wpAny_bind ?_
 delta Builtin.SmallTypes.ownedTupleIsFree
 refine wpAny_bind (wpAny_field sz rfl (x:=Value.none) rfl (wpAny_pure ?_));simp only[if_true];refine wpAny_bind (wpAny_rule (wpAny_bind (wpAny_field sz rfl (x:=Value.ref TO) rfl (wpAny_bind (wpAny_setField_rec sz (by simp) λg1 z1 k1 =>?_)))))
 replace z1:IsZip g1 z TI TO .ellipsis:=z1
 refine wpAny_bind ?_;simp only[List.zipIdx_cons,List.zipIdx_nil,List.forIn_cons,List.forIn_nil];refine wpAny_bind (wpAny_bind (wpAny_onRaise (show wpAny _ _ (Builtin.SmallTypes.nextOf (.ref i1) >>= λ_=>_) _ _ _ from wpAny_bind ?_)))
 cases ex:xs[n]? with
 | none=>
  refine nxE hh (sa.extBut k1.extBut D.i1z) (tat hx λo e=>k1.extBut _ _ D.l1z e) ex λg2 v k2 hv =>?_;obtain⟨oe,hoe,hce⟩:=hv;have z2:IsZip g2 z TI TO .ellipsis:=k2 _ _ D.i1z.symm z1;have ne:v≠z:=λw=>by subst w; rw[z2] at hoe; cases hoe; simp at hce
  exact wpAny_setField_rec z2 (by simp) λg3 _ k3=>stop g3 v (λc o c1 _ c3 _ w=>k3.extBut _ _ c1 (k2 _ _ c3 (k1.extBut _ _ c1 w))) ⟨oe,k3.extBut _ _ ne hoe,hce⟩
 | some x=>
  have ey:ys[n]? = none:=e.resolve_left (by rw[ex]; exact λw=>nomatch w);refine nx (sa.extBut k1.extBut D.i1z) (tat hx λo e=>k1.extBut _ _ D.l1z e) ex λg2 a2 k2=>wpAny_pure ?_;have o2:IsPair g2 TO pa pb:=k2.extBut _ _ D.TOi1 (k1.extBut _ _ D.TOz sto);refine wpAny_bind (wpAny_seqItems o2 rfl (wpAny_bind (wpAny_updateSeq_pair o2 λg3 o3 k3 =>?_)));refine wpAny_bind (wpAny_letGo (wpAny_pure ?_));refine wpAny_bind (wpAny_bind (wpAny_onRaise (show wpAny _ _ (Builtin.SmallTypes.nextOf (.ref i2) >>= λ_=>_) _ _ _ from wpAny_bind (nxE hh (((sb.extBut k1.extBut D.i2z).extBut k2.extBut D.i12.symm).extBut k3.extBut D.TOi2.symm)
   (tat hy λo e=>k3.extBut _ _ D.l2TO (k2.extBut _ _ D.l2i1 (k1.extBut _ _ D.l2z e))) ey λg4 v k4 hv =>?_))))
  obtain⟨oe,hoe,hce⟩:=hv;have z4:IsZip g4 z TI TO .ellipsis:=k4 _ _ D.i2z.symm (k3.extBut _ _ D.TOz.symm (k2.extBut _ _ D.i1z.symm z1));have ne:v≠z:=λw=>by subst w; rw[z4] at hoe; cases hoe; simp at hce
  exact wpAny_setField_rec z4 (by simp) λg5 _ k5=>stop g5 v (λc o c1 c2 c3 c4 w=>k5.extBut _ _ c1 (k4 _ _ c4 (k3.extBut _ _ c2 (k2.extBut _ _ c3 (k1.extBut _ _ c1 w))))) ⟨oe,k5.extBut _ _ ne hoe,hce⟩
end
abbrev mk1 (h:Heap)(t:Addr):Heap:=h.push { cls :=.type "tuple_iterator",data :=.fields #[.ref t,.int 0 0] }
abbrev mk3 (h:Heap)(t1 t2:Addr):Heap:=((mk1 (mk1 h t1) t2).push { cls :=.type "tuple",data :=.seq #[.ref h.objs.size,.ref (mk1 h t1).objs.size] }).push { cls :=.type "tuple",data :=.seq #[.none,.none] }
abbrev mk5 (h:Heap)(t1 t2:Addr):Heap:=(mk3 h t1 t2).push { cls :=.type "zip",data :=.fields #[.none,.bool false,.bool false,.ref (mk1 (mk1 h t1) t2).objs.size,.ref ((mk1 (mk1 h t1) t2).push { cls :=.type "tuple",data :=.seq #[.ref h.objs.size,.ref (mk1 h t1).objs.size] }).objs.size] }
def newZ (t1 t2:Addr)(xs ys:Array Value):Meets (Builtin.«zip.__new__» ⟨[.type "zip",.ref t1,.ref t2],[]⟩) (λ_ R s=>s.heap.IsTuple t1 xs/\s.heap.IsTuple t2 ys/\R (.ok (.ret (.ref (mk3 s.heap t1 t2).objs.size))) { s with heap:=mk5 s.heap t1 t2 }):=
 .of_wp λprog w A R s h=>by
  obtain⟨hp,g,d,tk,os⟩:=s;obtain⟨a1,a2,h⟩:=h;have sub:=sub_zip;have b1:Heap.IsTuple (Shared.heap ⟨hp,g,d,tk,os⟩) t1 xs:=a1;have b2:Heap.IsTuple (Shared.heap ⟨mk1 hp t1,g,d,tk,os⟩) t2 ys:=Heap.IsTuple.push a2 _
  wp_walk using wpAny_pyIter_tuple b1,wpAny_pyIter_tuple b2
  exact⟨_,rfl,h⟩
section
variable {prog:Program}{w:World}{A:Around}{E:Value->Shared->Prop}{s:Shared}{t1 t2:Addr}{xs ys:Array Value}
def zmo {Q:Value->Shared->Prop}(h1:s.heap.IsTuple t1 xs)(h2:s.heap.IsTuple t2 ys)
  (q:∀h',St h' (s.heap.objs.size+4) (s.heap.objs.size+2) (s.heap.objs.size+3) s.heap.objs.size (s.heap.objs.size+1) t1 t2 .none 0->(∀c o,s.heap.get? c=some o->h'.get? c=some o)->Q (.ref (s.heap.objs.size+4)) { s with heap:=h' }):
  wpAny (model prog w) A (call (.type "zip") [.ref t1,.ref t2]) Q E s:=by
 refine callType_new F.called_zip (by decide) (F.typeCall_zip_2 _ _) (F.newCall_zip_2 _ _) (λobj=>F.args_object_init_3 obj _ _) F.entry_zip_new (newZ t1 t2 xs ys) ⟨h1,h2,?_⟩;have n1:(mk1 s.heap t1).objs.size=s.heap.objs.size+1:=Heap.size_push ..;have n2:(mk1 (mk1 s.heap t1) t2).objs.size=s.heap.objs.size+2:=by rw[Heap.size_push,n1]
 have n3:((mk1 (mk1 s.heap t1) t2).push { cls :=.type "tuple",data :=.seq #[.ref s.heap.objs.size,.ref (mk1 s.heap t1).objs.size] }).objs.size=s.heap.objs.size+3:=by rw[Heap.size_push,n2]
 have n4:(mk3 s.heap t1 t2).objs.size=s.heap.objs.size+4:=by rw[Heap.size_push,n3]
 have up1:∀{h:Heap}{c:Addr}{o o':Obj},h.get? c=some o->(h.push o').get? c=some o:=λe=>Heap.get?_push_of_some _ e;have e5:(mk5 s.heap t1 t2).get? (mk3 s.heap t1 t2).objs.size=some _:=Heap.get?_push_size _ rfl;have e4:(mk5 s.heap t1 t2).get? ((mk1 (mk1 s.heap t1) t2).push { cls :=.type "tuple",data :=.seq #[.ref s.heap.objs.size,.ref (mk1 s.heap t1).objs.size] }).objs.size=some _:=up1 (Heap.get?_push_size _ rfl);have e3:(mk5 s.heap t1 t2).get? (mk1 (mk1 s.heap t1) t2).objs.size=some _:=up1 (up1 (Heap.get?_push_size _ rfl));have e2:(mk5 s.heap t1 t2).get? (mk1 s.heap t1).objs.size=some _:=up1 (up1 (up1 (Heap.get?_push_size _ rfl)));have e1:(mk5 s.heap t1 t2).get? s.heap.objs.size=some _:=up1 (up1 (up1 (up1 (Heap.get?_push_size _ rfl))));show _/\_;rw[n4,n2,n3] at e5;rw[n3] at e4;rw[n1,n2] at e3;rw[n1] at e2;rw[n4];exact⟨⟨_,e5,rfl⟩,q _ ⟨e5,e3,⟨_,_,e4⟩,⟨_,e1,rfl,rfl⟩,⟨_,e2,rfl,rfl⟩⟩ λc o e=>up1 (up1 (up1 (up1 (up1 e))))⟩
end
end Zp
namespace L2
open PySem PySem.Spec PyProof.Rows
section
variable {X:Cx}{pins:List (Addr × Obj)}{σ:List (Option V)}{H H':Hp}{s:Shared}{h':Heap}
def Inv.turnedL {t':Nat}{fp:List Addr}(I:Inv X pins σ H s)(k:∀b o,b ∉ fp->s.heap.get? b=some o->h'.get? b=some o)(hf:∀b∈fp,FpOk X pins H b):Inv X pins σ H { s with heap:=h',toks:=t' }:=by
 have nit:∀b u,H b=some u->b ∉ fp:=λb u e z=>by rw[(hf b z).1] at e; cases e
 have hL:X.env.locals ∉ fp:=λz=>(hf _ z).2.1 rfl;refine I.step (g':=s.gens) (d':=s.drawn) (ch:=fp) (λb hb =>?_) (λb o _ _ hc e _=>k b o hc e) (λb o _ _ hc e _=>⟨o.slots,k b o hc e⟩) (λ_ _ _ _ n=>n)
  (λb o hc e=>⟨o,k b o hc e⟩) (λ_ _ e=>e) (λ_ _ _ e=>e) (λb ps e=>⟨#[],by rw[e]; simp⟩) (λm hm =>?_) (λb u e =>?_) I.bare
 ·obtain⟨f0,f1,f2,f3,f4,f5⟩:=hf b hb;exact⟨f3,f1,f4,f5⟩
 ·obtain⟨o,es,ep,ho,r⟩:=hm;exact⟨o,es,ep,k _ o hL ho,r⟩
 ·refine(I.hok b u e).stay (λc v hc q=>k c v ?_ q) (λ_ q=>q) λ_ _ q=>q
  rcases hc with z | z
  ·rw[z]; exact nit b u e
  ·exact nit c _ z
end
end L2
namespace Zp
open PySem PySem.Spec PyProof.Rows L2
def Itz (K:W.Frag)(t1 t2:Addr):It:=
 ⟨λi H=>∃xs ys x y,SqT K H t1 xs/\SqT K H t2 ys/\xs[i]? = some x/\ys[i]? = some y,
  λi H v H'=>∃p x y,v = .ref p/\H p=none/\H'=upd H p (.tup [x,y])/\∀xs ys,SqT K H t1 xs->SqT K H t2 ys->xs[i]? = some x/\ys[i]? = some y,
  λi H=>∃xs ys,SqT K H t1 xs/\SqT K H t2 ys/\(xs.length<=i\/ys.length<=i)⟩
def zfj {P:Program}{w:World}{K:W.Frag}{es:List Expr}{kk:Nat}{pos:Pos}{z TI TO i1 i2 t1 t2:Addr}(D:ZipApart z TI TO i1 i2 t1 t2):Turn P w K (.Tuple es kk pos) (Itz K t1 t2) [z,TO,i1,i2,TI] z (λi h=>St h z TI TO i1 i2 t1 t2 .none i) where
 mem:=by simp
 obj:=λi h st b hb=>by
  obtain⟨sz,sti,⟨pa,pb,sto⟩,⟨oa,ea,ca,da⟩,⟨ob,eb,cb,db⟩⟩:=st;simp only[List.mem_cons,List.not_mem_nil,or_false] at hb
  rcases hb with rfl | rfl | rfl | rfl | rfl
  ·exact⟨_,sz,λv q=>by cases (show Data.fields _=Data.cell v from q)⟩
  ·exact⟨_,sto,λv q=>by cases (show Data.seq _ _=Data.cell v from q)⟩
  ·exact⟨_,ea,λv q=>by rw[da] at q; cases q⟩
  ·exact⟨_,eb,λv q=>by rw[db] at q; cases q⟩
  ·exact⟨_,sti,λv q=>by cases (show Data.seq _ _=Data.cell v from q)⟩
 keep:=λi h h' st k=>by
  obtain⟨sz,sti,⟨pa,pb,sto⟩,sa,sb⟩:=st;exact⟨k z (by simp) _ sz,k TI (by simp) _ sti,⟨pa,pb,k TO (by simp) _ sto⟩,sa.at λo e=>k i1 (by simp) o e,sb.at λo e=>k i2 (by simp) o e⟩
 item:=by
  intro X hP hw hK hc i pins s σ H E I hf st hg;subst hP hw hK;obtain⟨xs,ys,x,y,q1,q2,ex,ey⟩:=hg;obtain⟨us,r1,p1,_⟩:=I.tuple q1;obtain⟨vs,r2,p2,_⟩:=I.tuple q2;obtain⟨u,hu,ru⟩:=r1.get ex;obtain⟨v,hv,rv⟩:=r2.get ey;refine item D st (show s.heap.IsTuple t1 us.toArray from p1) (show s.heap.IsTuple t2 vs.toArray from p2) (x:=u) (y:=v) (by simpa using hu) (by simpa using hv) λh' S' tp _ kp=>⟨_,rfl,?_⟩
  refine wpAny_letOwnedTupleGo_zip S'.z λh2 z2 k2 =>?_;have lt:∀{b o},s.heap.get? b=some o->b≠s.heap.objs.size:=λe=>Nat.ne_of_lt (Heap.lt_size e);have ob:∀b∈[z,TO,i1,i2,TI],b≠s.heap.objs.size:=λb hb=>by
   obtain⟨sz,sti,⟨pa,pb,sto⟩,⟨oa,ea,_⟩,⟨oo,eb,_⟩⟩:=st;simp only[List.mem_cons,List.not_mem_nil,or_false] at hb
   rcases hb with rfl | rfl | rfl | rfl | rfl
   ·exact lt sz
   ·exact lt sto
   ·exact lt ea
   ·exact lt eb
   ·exact lt sti
  have hz:z≠s.heap.objs.size:=ob z (by simp);have new:(s.heap.push { cls :=.type "tuple",data :=.seq #[u,v] }).get? s.heap.objs.size=some { cls :=.type "tuple",data :=.seq #[u,v] }:=Heap.get?_push_size _ rfl;have I1:Inv X pins σ (upd H s.heap.objs.size (.tup [x,y])) { s with heap:=s.heap.push { cls :=.type "tuple",data :=.seq #[u,v] },toks:=s.toks }:=
   I.laid (λ_ _ q=>Heap.get?_push_of_some _ q) (Nat.le_refl _) ⟨Nat.le_trans (show 2<=64 by decide) (by decide),[u,v],.cons ru (.cons rv .nil),⟨_,Heap.get?_push_size _ rfl,rfl,_,rfl⟩,_,Heap.get?_push_size _ rfl,rfl⟩
  have hf1:∀b∈[z,TO,i1,i2,TI],FpOk X pins (upd H s.heap.objs.size (.tup [x,y])) b:=λb hb=>by
   obtain⟨f0,f⟩:=hf b hb;exact⟨by rw[z0o (ob b hb)]; exact f0,f⟩
  have I2:Inv X pins σ (upd H s.heap.objs.size (.tup [x,y])) { s with heap:=h2,toks:=s.toks }:=I1.turnedL (t':=s.toks) (λb o hb e=>by
   simp only[List.mem_cons,List.not_mem_nil,or_false,not_or] at hb;obtain⟨b1,b2,b3,b4,b5⟩:=hb;refine k2.extBut _ _ b1 ?_
   by_cases he:b=s.heap.objs.size
   ·subst he;rw[new] at e
    cases e
    exact tp
   ·rw[Heap.get?_push_ne _ _ _ he] at e;exact kp b o b1 b2 b3 b4 e) hf1
  refine⟨.ref s.heap.objs.size,_,I2,rfl,⟨_,x,y,rfl,I.fresh,rfl,λas bs ha hb=>⟨by rw[I.tuple_inj ha q1]; exact ex,by rw[I.tuple_inj hb q2]; exact ey⟩⟩,⟨z2,k2.extBut _ _ D.TIz S'.ti,?_,S'.a.extBut k2.extBut D.i1z,S'.b.extBut k2.extBut D.i2z⟩,λb hb=>(hf1 b hb).1⟩;obtain⟨pa,pb,e⟩:=S'.to;exact⟨pa,pb,k2.extBut _ _ D.TOz e⟩
 done:=by
  intro X hP hw hK hc i pins s σ H E I hf st hg;subst hP hw hK;obtain⟨xs,ys,q1,q2,e⟩:=hg;obtain⟨us,r1,p1,_⟩:=I.tuple q1;obtain⟨vs,r2,p2,_⟩:=I.tuple q2;have l1:=r1.length;have l2:=r2.length;refine fin (I.ok.hd hc) D st (show s.heap.IsTuple t1 us.toArray from p1) (show s.heap.IsTuple t2 vs.toArray from p2) (e.imp (λq=>by simp; omega) λq=>by simp; omega) λh' kp=>⟨rfl,I.turnedL (t':=s.toks) (λb o hb e =>?_) hf⟩
  simp only[List.mem_cons,List.not_mem_nil,or_false,not_or] at hb;exact kp b o hb.1 hb.2.1 hb.2.2.1 hb.2.2.2.1 e
 self:=λ_ _ _ _ _ st h=>wpAny_pyIter_zip st.z h
def iZip (K:W.Frag)(ta:TA):TI:=λσ H R=>ta σ H λvs H1=>∃a b,vs=[.ref a,.ref b]/\(∃xs,SqT K H1 a xs)/\(∃ys,SqT K H1 b ys)/\R (Itz K a b) H1
section
variable {X:Cx}{es:List Expr}{kk:Nat}{tp:Pos}
def zk1 {a b:Expr}{ta:TA}{p pos:Pos}(hg:Gl X "zip")(hm:X.mg "zip"=none)(ha:PA X [a,b] ta)(hs:starEach [a,b] X.env=[(false,eval a X.env),(false,eval b X.env)]:=by rfl)(hs2:starEach [b] X.env=[(false,eval b X.env)]:=by rfl):PI X (.Tuple es kk tp) (.Call (.Name "zip" p) [a,b] [] pos) (iZip X.K ta):=by
 intro pins s σ H R I h;refine Call_ (zcb I hg hm (show bootBuiltins "zip"=some (.type "zip") from rfl) (PyProof.Rows.callWith_type1 (thn (ha pos pins s σ H _ I h) λus s1 ⟨vs,H1,I1,r1,q1⟩ =>?_) (by rw[hs,hs2]) (by rw[hs2]; rfl)));obtain⟨t1,t2,e,⟨xs,q2⟩,⟨ys,q3⟩,q⟩:=q1;subst e
 cases r1 with
 | cons r rr=>
  cases rr with
  | cons r' rr=>
   cases rr
   cases (show _=Value.ref t1 from r)
   cases (show _=Value.ref t2 from r')
   obtain⟨us,rv1,p1,_⟩:=I1.tuple q2;obtain⟨vs,rv2,p2,_⟩:=I1.tuple q3;have l1:t1<s1.heap.objs.size:=by obtain⟨o,e,_⟩:=p1; exact Heap.lt_size e
   have l2:t2<s1.heap.objs.size:=by obtain⟨o,e,_⟩:=p2; exact Heap.lt_size e
   refine zmo (show s1.heap.IsTuple t1 us.toArray from p1) (show s1.heap.IsTuple t2 vs.toArray from p2) λh' S kp =>?_;refine wpAny_pyIter_zip S.z ?_;have I2:Inv X pins σ H1 { s1 with heap:=h',toks:=s1.toks }:=I1.kept (t':=s1.toks) kp;refine⟨_,_,_,_,H1,rfl,I2,zfj (zipApart_new l1 l2),S,λb hb =>?_,q⟩;have hb':s1.heap.objs.size<=b:=by
    simp only[List.mem_cons,List.not_mem_nil,or_false] at hb
    rcases hb with rfl | rfl | rfl | rfl | rfl
    ·exact Nat.le_add_right _ 4
    ·exact Nat.le_add_right _ 3
    ·exact Nat.le_refl _
    ·exact Nat.le_add_right _ 1
    ·exact Nat.le_add_right _ 2
   exact I1.fpOk hb' (I1.hok.fresh hb')
end
end Zp
namespace Pu
open PySem PySem.Spec PyProof.Rows L2 Zp
def gZip (a b:D)(Q:DK):Prop:=match a,b with
 | .tup l,.tup m=>Q (.lst ((l.zip m).map λp =>.tup [p.1,p.2]))
 | _,_=>False
def zeH (a b:D)(Q Q':DK)(m:∀d,Q d->Q' d)(h:gZip a b Q):gZip a b Q':=by
 unfold gZip at h ⊢
 split at h
 ·exact m _ h
 ·exact h.elim
def zfS:Fn:=fn2 gZip zeH
def zff {K:W.Frag}{mg:Str->Option Value}{G:Hp}{a b:Addr}{xs ys:List V}{l m:List D}(h1:SqT K G a xs)(h2:SqT K G b ys)(r1:RDs K mg G l xs)(r2:RDs K mg G m ys):Walk K mg G ((l.zip m).map λp =>.tup [p.1,p.2]) (Itz K a b):=λi G1 H g1 g2=>by
 have k1:=z1r (z0a g1 g2) h1;have k2:=z1r (z0a g1 g2) h2;refine⟨λd e =>?_,λhi=>⟨xs,ys,k1,k2,?_⟩⟩
 ·rw[List.getElem?_map,Option.map_eq_some_iff] at e;obtain⟨⟨d1,d2⟩,e,rfl⟩:=e;rw[List.getElem?_zip_eq_some] at e;obtain⟨v1,e1,rd1⟩:=r1.get e.1;obtain⟨v2,e2,rd2⟩:=r2.get e.2;refine⟨⟨xs,ys,v1,v2,k1,k2,e1,e2⟩,λv H' y =>?_⟩;obtain⟨p,x,y,rfl,hp,rfl,q⟩:=y;obtain⟨w1,w2⟩:=q xs ys k1 k2;rw[e1] at w1;rw[e2] at w2
  cases w1
  cases w2
  have gp:=z1z g2 hp;refine⟨z0G hp _,upd G1 p (.tup [v1,v2]),?_,?_,?_⟩
  ·exact Gr.new g2 hp
  ·intro c u e
   by_cases z:c=p
   ·subst z; rw[z0A] at e ⊢; exact e
   ·rw[z0o z] at e ⊢; exact g2 c u e
  ·exact RD.newT (RDs.cons (rd1.same g1) (RDs.cons (rd2.same g1) RDs.nil)) g2 hp
 ·simp only[List.length_map,List.length_zip] at hi;rw[r1.len,r2.len];omega
section
variable {X:Cx}{E:XK}
def zfG {es:List Expr}{kk:Nat}{tp p pos:Pos}{a b:Expr}{x y:Ex}(hg:Gl X "zip")(hm:X.mg "zip"=none)(ha:QXA X E [a,b] [x,y])(hs:starEach [a,b] X.env=[(false,eval a X.env),(false,eval b X.env)]:=by rfl)(hs2:starEach [b] X.env=[(false,eval b X.env)]:=by rfl):
  QXI X E (.Tuple es kk tp) (.Call (.Name "zip" p) [a,b] [] pos) (.op zfS [x,y]):=QI.imp (⟨zk1 hg hm ha.p hs hs2⟩:QI X (.Tuple es kk tp) (.Call (.Name "zip" p) [a,b] [] pos) _) λσ H R ⟨G,ρ,Q0,X0,hs,ab,hr,hz,hk,hx⟩=>by
 refine⟨G,ρ,_,X0,hs,ab,(show runs [x,y] ρ (λds=>zfS.run ds Q0 X0) X0 from hr),λds vs G1 H1 q g1 g2 g3 rds =>?_,hx⟩
 match ds,q,rds with
 | [d1,d2],q,rds=>
  have q':gZip d1 d2 Q0:=q;unfold gZip at q'
  split at q'
  ·rw[RDs] at rds;obtain⟨v1,r1,rfl,h1,h2⟩:=rds;rw[RDs] at h2;obtain⟨v2,r2,rfl,h2,h3⟩:=h2;rw[RDs] at h3;subst h3;obtain⟨a1,xs,rfl,s1,w1⟩:=z3b h1;obtain⟨a2,ys,rfl,s2,w2⟩:=z3b h2;exact⟨a1,a2,rfl,⟨xs,z1r g2 s1⟩,⟨ys,z1r g2 s2⟩,hk _ G1 H1 q' g1 g2 g3 _ _ rfl (zff s1 s2 w1 w2)⟩
  ·exact q'.elim
end
end Pu
namespace Pu
open PySem PySem.Spec PyProof.Rows L2
end Pu
namespace Tim
open PySem PyProof.Rows PySem.W HT
def TP (h:Heap)(v:Value)(n:Int):Prop:=∃a o its m t r,v = .ref a/\h.get? a=some o/\o.cls = .type "tuple"/\o.data = .seq its m/\its.toList=[.int n t,r]
def TP.keep {h h':Heap}{v:Value}{n:Int}(x:TP h v n)(g:∀b o,h.get? b=some o->o.cls = .type "tuple"->h'.get? b=some o):TP h' v n:=by
 obtain⟨a,o,its,m,t,r,e,h1,h2,h3,h4⟩:=x;exact⟨a,o,its,m,t,r,e,g _ _ h1 h2,h2,h3,h4⟩
def keyP (h:Heap)(v:Value):Int:=match v with
 | .ref a=>match h.get? a with
  | some o=>match o.data with
   | .seq its _=>match its.toList with
    | .int n _::_=>n
    | _=>0
   | _=>0
  | none=>0
 | _=>0
def TP.key {h:Heap}{v:Value}{n:Int}(x:TP h v n):keyP h v=n:=by
 obtain⟨a,o,its,m,t,r,rfl,h1,_,h3,h4⟩:=x;simp only[keyP,h1,h3,h4]
section
variable {prog:Program}{w:World}{A:Around}{s:Shared}
def lex1 (a b:Int):z3e [a] [b]=decide (a<b):=by
 rw[z2Z]
 by_cases e:a=b
 ·rw[if_pos e]
  symm
  exact decide_eq_false (by omega)
 ·rw[if_neg e]
def zit {b:Bool}{Q:Bool->Shared->Prop}{n m:Int}{t u:Tok}{r r':Value}(hr:n=m->r=r')(h:Q (decide (n<m)) s):KatLex prog w A b false Q ([Value.int n t,r].zip [Value.int m u,r']) 0 s:=by
 refine kat_cons (wpAny_eqBool_int ?_)
 by_cases e:n=m
 ·subst e;rw[show (n == n)=true by simp];obtain rfl:=hr rfl;refine kat_yes (kat_cons (SeqAt.EqAt.same r prog w _ _ (kat_yes (kat_nil ?_))));rw[decide_eq_false (by omega)] at h;exact h
 ·rw[show (n == m)=false by simpa using e];refine kat_no ?_
  cases hb:(b && 0 == 0) with
  | true=>exact oneLt_int h
  | false=>exact kat_one _ _ (lt_int h)
def zaw {h:Heap}{key:Value->Int}:∀{vs:List Value},(∀v∈vs,TP h v (key v))->∃fs:List Value,KatTups h vs fs/\fs.length=vs.length/\∀f∈fs,∃n t,f = .int n t
 | [],_=>⟨[],.nil,rfl,λ_ h=>by cases h⟩
 | v::vs,hk=>by
  obtain⟨fs,q1,q2,q3⟩:=zaw (vs:=vs) (λv hv=>hk v (List.mem_cons_of_mem _ hv));obtain⟨a,o,its,n,t,r,e,h1,h2,h3,h4⟩:=hk v (List.mem_cons_self ..);subst e;refine⟨.int (key (.ref a)) t::fs,.cons h1 h2 h3 (by rw[<- Array.getElem?_toList,h4]; rfl) q1,by simp[q2],λf hf =>?_⟩
  rcases List.mem_cons.mp hf with rfl | hf
  ·exact⟨_,_,rfl⟩
  ·exact q3 f hf
def z8t.prs {h:Heap}{vs:List Value}{key:Value->Int}(hk:∀v∈vs,TP h v (key v))(inj:∀u∈vs,∀v∈vs,key u=key v->u=v):z8t prog w h vs (λv=>rkL (vs.map λv=>[key v]) [key v]):=λA s k=>by
 refine⟨?_,λhl Q E q =>?_⟩
 ·intro x y hx hy Q E hq;rw[pairsOf_toList] at hx hy;have mx:=(mem_zip_self hx).2;have my:=(mem_zip_self hy).2;rw[<- zbQ (List.mem_map.mpr ⟨_,mx,rfl⟩) (List.mem_map.mpr ⟨_,my,rfl⟩),lex1] at hq;have ij:=inj _ mx _ my;obtain⟨a1,o1,i1,n1,t1,r1,e1,g1,c1,d1,k1⟩:=(hk _ mx).keep k;obtain⟨a2,o2,i2,n2,t2,r2,e2,g2,c2,d2,k2⟩:=(hk _ my).keep k;rw[e1] at hq k1 ij;rw[e2] at hq k2 ij;rw[e1,e2];have l1:i1.size=2:=by rw[<- Array.length_toList,k1]; rfl
  have l2:i2.size=2:=by rw[<- Array.length_toList,k2]; rfl
  refine kat_lt g1 d1 g2 d2 ?_;rw[k1,k2,show decide (i1.size<i2.size)=false by rw[l1,l2]; rfl];refine zit (λe =>?_) hq;have:=ij e
  cases this
  rw[g1] at g2
  cases g2
  rw[d1] at d2
  cases d2
  rw[k1] at k2;simp only[List.cons.injEq] at k2;exact k2.2.1
 ·obtain⟨fs,q1,q2,q3⟩:=zaw λv hv=>(hk v hv).keep k;refine kat_kind (T :=.type "int") q1 (by omega) (λv hv =>?_) rfl q;obtain⟨n,t,rfl⟩:=q3 v hv;exact Looks.now
end
end Tim
namespace Pu
open PySem PySem.Spec PyProof.Rows L2 Tab
abbrev pdD (x:Int × D):D :=.tup [.int x.1,x.2]
def zl1 (d:D)(Q:DK):Prop:=∃rs:List (Int × D),d = .lst (rs.map pdD)/\(rs.map (·.1)).Nodup/\rs.length<=63/\∀rl:List (Int × D),rl.Perm rs->rl.Pairwise (λa b=>a.1<b.1)->Q (.lst (rl.map pdD))
def zgY:Fn:=fn1 zl1 λd Q Q' m h=>by
 obtain⟨ks,e,h1,h2,q⟩:=h;exact⟨ks,e,h1,h2,λkl a b=>m _ (q kl a b)⟩
section
variable {X:Cx}
def zdW {G:Hp}{P:Value->Int->Prop}(hP:∀(b:Addr) (n:Int) (u:V),SqT X.K G b [.int n,u]->P (.ref b) n):∀{rs:List (Int × D)}{xs:List V}{its:List Value},RDs X.K X.mg G (rs.map pdD) xs->Vals xs its->Two (λv (p:V × Int × D)=>P v p.2.1/\RelV p.1 v/\RD X.K X.mg G (pdD p.2) p.1) its (xs.zip rs)
 | [],xs,its,h,r=>by
  rw[List.map_nil,RDs] at h;subst h
  cases r
  exact .nil
 | x::rs,xs,its,h,r=>by
  rw[List.map_cons,RDs] at h;obtain⟨v,vs,rfl,h1,h2⟩:=h
  cases r with
  | cons r1 r2=>
   refine .cons ⟨?_,r1,h1⟩ (zdW hP h2 r2);obtain⟨a,ys,rfl,h3,h4⟩:=z3b h1
   cases r1
   obtain⟨y,z,rfl,h5,h6⟩:=rds2 h4;rw[RD] at h5;subst h5;exact hP a x.1 z h3
def zb5 {G:Hp}{P:Value->Int->Prop}:∀{out:List Value}{m:List (V × Int × D)},Two (λv (p:V × Int × D)=>P v p.2.1/\RelV p.1 v/\RD X.K X.mg G (pdD p.2) p.1) out m->Vals (m.map (·.1)) out/\RDs X.K X.mg G ((m.map (·.2)).map pdD) (m.map (·.1))
 | _,_,.nil=>⟨.nil,RDs.nil⟩
 | _,_,.cons ⟨_,h1,h2⟩ t=>⟨.cons h1 (zb5 t).1,RDs.cons h2 (zb5 t).2⟩
def zdm {α β:Type}{R:α->β->Prop}{f:α->Int}{g:β->Int}(hf:∀a b,R a b->f a=g b):∀{l:List α}{m:List β},Two R l m->l.map f=m.map g
 | _,_,.nil=>rfl
 | _,_,.cons h t=>by rw[List.map_cons,List.map_cons,hf _ _ h,zdm hf t]
def zha {α β:Type}{f:α->β}:∀{l:List α},(l.map f).Nodup->∀u∈l,∀v∈l,f u=f v->u=v
 | a::l,h,u,hu,v,hv,e=>by
  rw[List.map_cons,List.nodup_cons] at h
  rcases List.mem_cons.mp hu with rfl | hu'
  ·rcases List.mem_cons.mp hv with rfl | hv'
   ·rfl
   ·exact(h.1 (List.mem_map.mpr ⟨v,hv',e.symm⟩)).elim
  ·rcases List.mem_cons.mp hv with rfl | hv'
   ·exact(h.1 (List.mem_map.mpr ⟨u,hu',e⟩)).elim
   ·exact zha h.2 u hu' v hv' e
def zdb:z19 X (.builtin "sorted") (λvs H Q=>∃(G:Hp) (a:Addr) (xs:List V) (rs:List (Int × D)),vs=[.ref a]/\Same G H/\SqL X.K G a xs/\RDs X.K X.mg G (rs.map pdD) xs/\(rs.map (·.1)).Nodup/\rs.length<=63/\
  ∀(D':Addr) (out:List V) (rl:List (Int × D)),H D'=none->RDs X.K X.mg G (rl.map pdD) out->rl.Perm rs->rl.Pairwise (λa b=>a.1<b.1)->Q (.ref D') (upd H D' (.lst out))):=by
 intro pins s σ H xs us Q I rv ⟨G,a,ys,rs,e,g,hs,hr,nd,hz,q⟩;subst e;obtain⟨u,rfl,rx⟩:=z4V rv
 cases rx
 obtain⟨its,r,pl,_⟩:=I.list (z2q g hs);have two:=zdW (P:=λv n=>Tim.TP s.heap v n) (λb n u h=>by
  obtain⟨jts,r',⟨o,ho,hc,m,hd⟩,_⟩:=I.tuple (z1r g h)
  cases r' with
  | cons r1 r2=>
   obtain⟨t,rfl⟩:=r1
   cases r2 with
   | cons r3 r4=>
    cases r4
    exact⟨b,o,_,m,t,_,rfl,ho,hc,hd,rfl⟩) hr r
 have hkey:its.map (Tim.keyP s.heap)=(ys.zip rs).map (·.2.1):=zdm (λv p h=>h.1.key) two;have hlen:ys.length=rs.length:=by rw[hr.len,List.length_map]
 have e2:(ys.zip rs).map (·.2.1)=rs.map (·.1):=by
  rw[show ((ys.zip rs).map (·.2.1))=((ys.zip rs).map (·.2)).map (·.1) by rw[List.map_map]; rfl,List.map_snd_zip (by lia)]
 have hTP:∀v∈its,Tim.TP s.heap v (Tim.keyP s.heap v):=λv hv=>by
  obtain⟨p,_,h1,_⟩:=two.mem_left hv;rw[h1.key];exact h1
 have inj:∀u∈its,∀v∈its,Tim.keyP s.heap u=Tim.keyP s.heap v->u=v:=λu hu v hv e=>by
  rw[e2] at hkey;rw[<- hkey] at nd;exact zha nd u hu v hv e
 have hil:its.length=rs.length:=by rw[<- r.length,hlen]
 refine Tim.zaa λE' =>?_;refine collect_list (vs:=its) (by simpa using pl.isList) ?_ (by lia);have keep:∀b o,s.heap.get? b=some o->((s.heap.push (seqObj "list" #[] 0)).update s.heap.objs.size (Obj.mapSeq (· ++ its.toArray))).get? b=some o:=λb o z=>by
  rw[Heap.get?_update_ne _ _ _ _ (Nat.ne_of_lt (Heap.lt_size z))];exact Heap.get?_push_of_some _ z
 refine⟨_,by lia,(Tim.z8t.prs hTP inj).keep keep,λout p1 p2 h' kp he =>?_⟩;obtain⟨e,he⟩:=he;obtain⟨m,pm,tm⟩:=two.perm p1.symm;obtain⟨v1,v2⟩:=zb5 tm;have hD:s.heap.get? ((s.heap.push (seqObj "list" #[] 0)).update s.heap.objs.size (Obj.mapSeq (· ++ its.toArray))).objs.size=none:=by
  cases z:s.heap.get? ((s.heap.push (seqObj "list" #[] 0)).update s.heap.objs.size (Obj.mapSeq (· ++ its.toArray))).objs.size with
  | none=>rfl
  | some o=>exact absurd (Heap.lt_size (keep _ _ z)) (Nat.lt_irrefl _)
 have perm:(m.map (·.2)).Perm rs:=by
  have:=(pm.map (·.2)).symm
  rwa [List.map_snd_zip (by lia)] at this
 have hzl:(m.map (·.1)).length<=sizeLine:=by
  have h1:=pm.length_eq;have h2:=perm.length_eq;rw[List.length_map] at h2 ⊢;exact Nat.le_trans (show m.length<=64 by lia) (by decide)
 refine⟨.ref _,upd H _ (.lst (m.map (·.1))),I.laid' (o :=.lst (m.map (·.1))) (t':=s.toks) (λb o z=>kp b o (keep b o z)) hD ⟨hzl,out,e,v1,he⟩,rfl,q _ _ _ (I.hok.none_of hD) v2 perm ?_⟩;have k2:out.map (Tim.keyP s.heap)=m.map (·.2.1):=zdm (λv p h=>h.1.key) tm;have p3:(out.map (Tim.keyP s.heap)).Pairwise (· <= ·):=by
  rw[List.pairwise_map];refine p2.imp_of_mem λ{x y} hx hy hxy =>?_;have a1:=Tim.zbQ (l:=its.map λv=>[Tim.keyP s.heap v]) (List.mem_map.mpr ⟨y,p1.mem_iff.mp hy,rfl⟩) (List.mem_map.mpr ⟨x,p1.mem_iff.mp hx,rfl⟩);rw[Tim.lex1,decide_eq_false (Nat.not_lt.mpr hxy)] at a1;have:=of_decide_eq_false a1;lia
 have p4:(m.map (·.2.1)).Nodup:=by
  have:(m.map (·.2.1)).Perm (rs.map (·.1)):=by
   have:=perm.map (·.1)
   rwa [List.map_map] at this
  exact this.nodup_iff.mpr nd
 rw[k2] at p3;rw[List.pairwise_map] at p3 ⊢;unfold List.Nodup at p4;rw[List.pairwise_map] at p4;exact(p3.and p4).imp λ{x y} h=>by
  have:=h.1;have:=h.2;lia
def zgo:z19 X (.builtin "sorted") (rNf X.K X.mg zgY):=zdb.imp λvs H Q ⟨G,ds,Q0,X0,g,rds,hr,hk⟩=>by
 obtain⟨d,rfl,hr'⟩:=z2l hr;obtain⟨v,rfl,rd⟩:=rds1 rds;obtain⟨rs,rfl,nd,hz,q⟩:=hr';obtain⟨a,xs,rfl,h1,h2⟩:=z3c rd;exact⟨G,a,xs,rs,rfl,g,h1,h2,nd,hz,λD out rl hD ht pm pw=>hk.newL g hD (q rl pm pw) ht⟩
end
end Pu
namespace Idx
open PySem PySem.Spec PyProof.Rows SeqAt
def ziO {M:Model}{A:Around}{E:Value->Shared->Prop}{s:Shared}{β:Type}{hi:Nat}(f:Nat->β->Sem (ForInStep β))(J:Nat->β->Shared->Prop)(Q:β->Shared->Prop){b:β}
  (step:∀i b s,i<hi->J i b s->wpAny M A (f i b) (λr s'=>match r with | .yield b'=>J (i+1) b' s' | .done b'=>Q b' s') E s)
  (last:∀b s,J hi b s->Q b s) (h:J 0 b s):wpAny M A (forIn [:hi] b f) Q E s:=by
 rw[Std.Legacy.Range.forIn_eq_forIn_range'];have sz:([:hi]:Std.Legacy.Range).size=hi:=by simp[Std.Legacy.Range.size]
 rw[sz];refine wpAny_forIn_list f (λrest b s=>∃i,i<=hi/\rest=List.range' i (hi - i)/\J i b s) Q ?_ ?_ _ b ⟨0,by omega,rfl,h⟩
 ·rintro x rest b s ⟨i,hle,e,hJ⟩
  rcases Nat.lt_or_ge i hi with z | z
  ·rw[show hi - i=hi - (i+1)+1 by omega,List.range'_succ] at e;obtain⟨rfl,rfl⟩:=List.cons.inj e;refine wpAny_mono (step x b s z hJ) (λr s' hr =>?_) λ_ _ h'=>h'
   cases r with
   | yield b'=>exact⟨x+1,by omega,rfl,hr⟩
   | done b'=>exact hr
  ·rw[show hi - i=0 by omega] at e
   cases e
 ·rintro b s ⟨i,hle,e,hJ⟩;have:=congrArg List.length e;rw[List.length_range',List.length_nil] at this;rw[show i=hi by omega] at hJ;exact last b s hJ
def ziU (l:Addr)(its:Array Value)(n:Nat)(dd:Option Addr)(sl:Array (Option Value))(x:Value)(e:Value->Bool)(j:Nat)(hj:j<its.size)(hit:e its[j]=true)(hno:∀m (hm:m<its.size),m<j->e its[m]=false):
  Meets (Builtin.«tuple.index» ⟨[.ref l,x],[]⟩) (λA R s=>s.heap.get? l=some { cls :=.type "tuple",dict:=dd,data :=.seq its n,slots:=sl }/\(∀y,y∈its->EqAt A.in1 s y x (e y))/\R (.ok (.ret (.int j s.toks))) { s with toks:=s.toks+1 }):=
 .of_wp λprog w A R s h=>by
  obtain⟨hp,g,d,tk,os⟩:=s;obtain⟨hl,he,h⟩:=h
  wp_walk using wpAny_loadPart' hl,ziO _ (λi b s'=>b.1=none/\s'=⟨hp,g,d,tk,os⟩/\i<=j) _
  case step=>
   rintro i b s' hi ⟨hb,rfl,hij⟩;have hi':i<its.size:=by omega
   rw[Array.getElem?_eq_getElem hi'];refine wpAny_bind (he its[i] (Array.getElem_mem hi') prog w _ _ ?_)
   rcases Nat.lt_or_ge i j with z | z
   ·rw[hno i hi' z]
    wp_walk
    exact⟨rfl,rfl,z⟩
   ·obtain rfl:i=j:=by omega
    rw[hit]
    wp_walk
    exact⟨_,rfl,h⟩
  case last=>
   rintro b s' ⟨hb,rfl,hij⟩;omega
  case h=>exact⟨rfl,rfl,by omega⟩
end Idx
namespace Pu
open PySem PySem.Spec PyProof.Rows L2 Tab
section
variable {X:Cx}{G H:Hp}
def z6L (b a:D)(Q:DK):Prop:=match b with
 | .tup l=>Da 60 a/\(∀d∈l,Da 60 d)/\(∃d∈l,deq d a=true)/\∀(i:Nat) (d:D),l[i]? = some d->deq d a=true->(∀j d',j<i->l[j]? = some d'->deq d' a=false)->Q (.int (i:Int))
 | _=>False
def zbz (a b:D)(Q Q':DK)(m:∀d,Q d->Q' d)(h:z6L a b Q):z6L a b Q':=by
 unfold z6L at h ⊢
 split at h
 ·exact⟨h.1,h.2.1,h.2.2.1,λi d e1 e2 e3=>m _ (h.2.2.2 i d e1 e2 e3)⟩
 ·exact h.elim
def zec:Fn:=fn2 z6L zbz
open Classical in
def zaD {α:Type}(f:α->Bool):∀(l:List α),(∃x∈l,f x=true)->∃(i:Nat) (x:α),l[i]? = some x/\f x=true/\∀(j:Nat) (y:α),j<i->l[j]? = some y->f y=false
 | [],⟨x,hx,_⟩=>by cases hx
 | a::l,⟨x,hx,h⟩=>by
  cases ha:f a with
  | true=>exact⟨0,a,rfl,ha,λj y hj=>by omega⟩
  | false=>
   rcases List.mem_cons.mp hx with rfl | hx
   ·rw[ha] at h; cases h
   ·obtain⟨i,y,h1,h2,h3⟩:=zaD f l ⟨x,hx,h⟩;refine⟨i+1,y,by rw[List.getElem?_cons_succ]; exact h1,h2,λj z hj e =>?_⟩
    cases j with
    | zero=>rw[List.getElem?_cons_zero] at e; cases e; exact ha
    | succ j=>exact h3 j z (by omega) (by rwa [List.getElem?_cons_succ] at e)
def zhE (X:Cx):V->List V->Hp->VK->Prop:=λx xs H Q=>∃(G:Hp) (a:Addr) (ys:List V) (l:List D) (d:D) (v:V),x = .ref a/\xs=[v]/\Same G H/\SqT X.K G a ys/\RDs X.K X.mg G l ys/\RD X.K X.mg G d v/\Da 60 d/\(∀e∈l,Da 60 e)/\(∃e∈l,deq e d=true)/\
 ∀(i:Nat) (e:D),l[i]? = some e->deq e d=true->(∀(j:Nat) (e':D),j<i->l[j]? = some e'->deq e' d=false)->Q (.int (i:Int)) H
def z8K (hu:X.A.units+64<cLine):MtR X "tuple.index" (zhE X):=by
 intro pins s σ H x xs v us Q I rx rs ⟨G,a,ys,l,d,w,e1,e2,g,hT,hl,hd,h1,h2,h3,q⟩;subst e1;subst e2
 cases rx
 obtain⟨u,rfl,ru⟩:=rs.one;obtain⟨its,rr,pl,_⟩:=I.tuple (z1r g hT);obtain⟨e,q1,_,q2⟩:=zfc I g hu hd ru h1 h2 hl rr;obtain⟨⟨cls,dd,data,sl⟩,ho,hc,n,hda⟩:=id pl;simp only at hc hda;subst hc hda;obtain⟨i,x,hi,hx,hno⟩:=zaD (λe=>deq e d) l h3;have il:i<l.length:=by
  rcases Nat.lt_or_ge i l.length with z | z
  ·exact z
  ·rw[List.getElem?_eq_none z] at hi; cases hi
 have len:its.length=l.length:=by rw[<- rr.length,hl.len]
 have hj:i<its.toArray.size:=by simpa[len] using il
 have val:∀(m:Nat) (hm:m<its.toArray.size) (y:D),l[m]? = some y->e its.toArray[m]=deq y d:=λm hm y hy=>q2 m _ y (by rw[List.getElem?_eq_getElem (by simpa using hm)]; simp) hy;refine call_meets PySem.F.slot_tuple_index ⟨_,ho,rfl⟩ PySem.F.entry_tuple_index (PySem.F.args_tuple_index_2 _ _) (Idx.ziU a its.toArray n dd sl u e i hj ((val i hj x hi).trans hx) λm hm hmi =>?_) ⟨ho,λy hy=>q1 y (by simpa using hy),?_⟩
 ·have ml:m<l.length:=by omega
  rw[val m hm _ (List.getElem?_eq_getElem ml)];exact hno m _ hmi (List.getElem?_eq_getElem ml)
 ·exact⟨.int i,H,I.tok _,⟨_,rfl⟩,q i x hi hx hno⟩
end
section
variable {X:Cx}{E:XK}{o e:Expr}{apos cpos:Pos}{i j:Nat}
def tBMT (K:W.Frag)(r:V->List V->Hp->VK->Prop)(to:TE)(t:TA):TE:=λσ H Q=>to σ H λx H1=>(∃p xs,x = .ref p/\SqT K H1 p xs)/\t σ H1 λxs H2=>r x xs H2 Q
def zjN {id:String}{name:Str}{r:V->List V->Hp->VK->Prop}{te:TE}{aa:TA}(slot:Slot "tuple" name id)(hty:typeOf (.builtin id)=pure (.type "method_descriptor"))(hm:MtR X id r)(ho:QE X o te)(ha:QA X [e] aa)
  (hbase:attributeBase o name X.env (eval o X.env)=eval o X.env:=by rfl)
  (hfew:((backTo cpos (starEach [e] X.env)).all (λx => !x.1) && (backToKw cpos (keywordEach [] X.env)).all (λx=>x.1.isSome)
   && decide ([e].length+([]:List Keyword).length+(if ([]:List Keyword).isEmpty then 0 else 1)<30))=true:=by rfl)
  (hline:(apos.endLine == cpos.line)=true:=by rfl) (hs:starEach [e] X.env=(false,eval e X.env)::starEach [] X.env:=by rfl) (hplain:(backTo cpos (starEach [] X.env)).any (·.1)=false:=by rfl):
  QE X (.Call (.Attribute o name apos) [e] [] cpos) (tBMT X.K r te aa):=⟨by
 intro pins s σ H Q I h;refine wpAny_Call_method_late hbase hfew hline rfl (thn (ho.p pins s σ H _ I h) λv s1 ⟨x,H1,I1,r1,⟨p,xs,ex,hT⟩,q1⟩ =>?_);subst ex
 cases r1
 obtain⟨its,_,⟨ob,g1,g2,_⟩,_⟩:=I1.tuple hT;refine⟨"tuple",id,PySem.F.plainAttrs_tuple,slot,hty,⟨ob,g1,g2⟩,λa ea =>?_,?_⟩
 ·cases ea
  exact I1.tupNoD hT
 have hA:=ha.p cpos pins s1 σ H1 _ I1 q1;rw[hs] at hA ⊢;refine Calls.callWith_builtin (by show (false || (backTo cpos (starEach [] X.env)).any (·.1))=false; rw[hplain] <;> rfl) (Calls.evalArgs_plain ?_);exact thn hA λus s2 ⟨vs,H2,I2,r2,q2⟩=>hm pins s2 σ H2 (.ref p) vs (.ref p) us Q I2 rfl r2 q2⟩
def zcJ (hu:X.A.units+64<cLine)(ho:QX X E o (.v i))(ha:QXA X E [e] [.v j])
  (hbase:attributeBase o "index" X.env (eval o X.env)=eval o X.env:=by rfl)
  (hfew:((backTo cpos (starEach [e] X.env)).all (λx => !x.1) && (backToKw cpos (keywordEach [] X.env)).all (λx=>x.1.isSome)
   && decide ([e].length+([]:List Keyword).length+(if ([]:List Keyword).isEmpty then 0 else 1)<30))=true:=by rfl)
  (hline:(apos.endLine == cpos.line)=true:=by rfl) (hs:starEach [e] X.env=(false,eval e X.env)::starEach [] X.env:=by rfl) (hplain:(backTo cpos (starEach [] X.env)).any (·.1)=false:=by rfl):
  QX X E (.Call (.Attribute o "index" apos) [e] [] cpos) (.op zec [.v i,.v j]):=
 QE.imp (zjN PySem.F.slot_tuple_index PySem.F.type_tuple_index (z8K hu) ho ha hbase hfew hline hs hplain) λσ H Q ⟨G,ρ,Q0,X0,g,ab,hr,hk,hx⟩=>by
  have hr':onV (ρ.get i) (λd=>onV (ρ.get j) λd'=>z6L d d' Q0):=hr
  cases z1:ρ.get i with
  | none=>rw[z1] at hr'; exact hr'.elim
  | some d=>
   rw[z1] at hr'
   cases z2:ρ.get j with
   | none=>
    have hr2:onV (ρ.get j) (λd'=>z6L d d' Q0):=hr';rw[z2] at hr2; exact hr2.elim
   | some d'=>
    have hr2:onV (ρ.get j) (λd'=>z6L d d' Q0):=hr';rw[z2] at hr2;have hr3:z6L d d' Q0:=hr2;refine⟨G,ρ,λc=>c=d,X0,g,ab,(by show onV (ρ.get i) _; rw[z1]; exact rfl),?_,hx⟩;rintro c v G1 H1 rfl g1 g2 g3 rd;unfold z6L at hr3
    split at hr3
    ·rename_i l
     obtain⟨h1,h2,h3,q⟩:=hr3;obtain⟨a,ys,rfl,hT,hl⟩:=z3b rd;refine⟨⟨a,ys,rfl,z1r g2 hT⟩,G1,ρ,λcs=>cs=[d'],X0,g2,ab.same g1.1,(by show onV (ρ.get j) _; rw[z2]; exact rfl),?_,hx.same g3⟩;rintro cs vs G2 H2 rfl k1 k2 k3 rds;obtain⟨w,rfl,rw'⟩:=rds1 rds;exact⟨G2,a,ys,l,d',w,rfl,rfl,k2,z1r k1.1 hT,hl.same k1.1,rw',h1,h2,h3,λn c e1 e2 e3=>hk _ _ G2 H2 (q n c e1 e2 e3) (g1.trans g3 k1) k2 (z0a g3 k3) RD.int'⟩
    ·exact hr3.elim
end
section
variable {X:Cx}
def zcv (f:Nat->Int):∀k,argBest (λi j=>decide (f i<f j)) k<=k/\∀j,j<=k->f (argBest (λi j=>decide (f i<f j)) k)<=f j
 | 0=>⟨Nat.le_refl _,λj h=>by rw[show j=0 by lia]; exact Int.le_refl _⟩
 | k+1=>by
  obtain⟨i1,i2⟩:=zcv f k;rw[argBest]
  split
  ·rename_i hb
   have hb:=of_decide_eq_true hb;refine⟨Nat.le_refl _,λj hj =>?_⟩
   rcases Nat.lt_or_ge j (k+1) with z | z
   ·have:=i2 j (by lia);lia
   ·rw[show j=k+1 by lia]; exact Int.le_refl _
  ·rename_i hb
   have hb:¬ f (k+1)<f (argBest (λi j=>decide (f i<f j)) k):=λz=>hb (decide_eq_true z);refine⟨by lia,λj hj =>?_⟩
   rcases Nat.lt_or_ge j (k+1) with z | z
   ·exact i2 j (by lia)
   ·rw[show j=k+1 by lia]; lia
def zf1 (hc:X.calm=true):z19 X (.builtin "min") (λvs H Q=>∃G a ns,vs=[.ref a]/\Same G H/\SqT X.K G a (ns.map V.int)/\ns≠[]/\∀m,m∈ns->(∀x∈ns,m<=x)->Q (.int m) H):=by
 intro pins s σ H xs us Q I rv ⟨G,a,ns,e,g,hS,hne,q⟩;subst e;obtain⟨u,rfl,rx⟩:=z4V rv
 cases rx
 have hh:X.A.handled=none:=I.ok.hd hc;obtain⟨its,rr,pl,_⟩:=I.tuple (z1r g hS);obtain⟨l,rfl,hl⟩:=z7C ns rr;have hll:l.length=ns.length:=by rw[<- hl,List.length_map]
 have hpos:0<ns.length:=List.length_pos_iff.mpr hne;obtain⟨o,ho,hc',n,hd⟩:=id pl;have ha:a<s.heap.objs.size:=Heap.lt_size ho;have val:∀(i:Nat) (v:Value),(l.map λp=>Value.int p.1 p.2).toArray[i]? = some v->∃t,v = .int ((ns[i]?).getD 0) t/\i<ns.length:=λi v e=>by
  have e':(l.map λp=>Value.int p.1 p.2)[i]? = some v:=by simpa using e
  rw[List.getElem?_map] at e'
  cases z:l[i]? with
  | none=>rw[z] at e'; cases e'
  | some p=>
   rw[z] at e'
   cases e'
   have hi:i<l.length:=by
    rcases Nat.lt_or_ge i l.length with w | w
    ·exact w
    ·rw[List.getElem?_eq_none w] at z; cases z
   exact⟨p.2,by rw[<- hl,List.getElem?_map,z]; rfl,by lia⟩
 have W:=(Walks.tuple (prog:=X.prog) (w:=X.w) (A:=X.A.in1) (show X.A.in1.handled=none from by simp[hh]) s.heap.objs.size a (Nat.ne_of_lt ha) (l.map λp=>Value.int p.1 p.2).toArray).toS;refine Rev.zg6 (wpAny_pyIter_tuple pl ⟨_,_,_,_,_,_,_,λi j=>decide ((ns[i]?).getD 0<(ns[j]?).getD 0),λ_=>True,rfl,W,⟨⟨_,Heap.get?_push_size _ rfl,rfl,rfl⟩,⟨o,Heap.get?_push_of_some _ ho,hc',n,hd⟩⟩,trivial,λ_ _ _ _=>trivial,λb hb =>?_,by simp; lia,?_,λv s' pv mv =>?_⟩)
 ·rw[Heap.size_push];simp only[List.mem_cons,List.not_mem_nil,or_false] at hb
  rcases hb with e | e
  ·rw[e]; exact Nat.lt_succ_self _
  ·rw[e]; exact Nat.lt_succ_of_lt ha
 ·intro i j x y s1 Q1 E1 _ px py q1;obtain⟨t,rfl,_⟩:=val i x px;obtain⟨t',rfl,_⟩:=val j y py;exact lt_int q1
 ·obtain⟨t,rfl,hi⟩:=val _ v pv;obtain⟨h',g',d',tk',os'⟩:=s';have eg:g'=s.gens:=mv.gens;have ed:d'=s.drawn:=mv.drawn;have eo:os'=s.os:=mv.os;subst eg; subst ed; subst eo;refine⟨.int _,H,I.kept (t':=tk') λb o e=>mv.heap b o ?_ (Heap.get?_push_of_some _ e),⟨t,rfl⟩,q _ ?_ λx hx =>?_⟩
  ·simp only[List.mem_singleton];exact Nat.ne_of_lt (Heap.lt_size e)
  ·rw[List.getElem?_eq_getElem hi];exact List.getElem_mem hi
  ·obtain⟨j,hj,rfl⟩:=List.mem_iff_getElem.mp hx;have:=(zcv (λi=>(ns[i]?).getD 0) ((l.map λp=>Value.int p.1 p.2).toArray.size - 1)).2 j (by simp; lia);simpa[List.getElem?_eq_getElem hj] using this
def zmb (d:D)(Q:DK):Prop:=∃ns:List Int,d = .tup (ns.map .int)/\ns≠[]/\∀m,m∈ns->(∀x∈ns,m<=x)->Q (.int m)
def zkh:Fn:=fn1 zmb λd Q Q' m ⟨ns,e,h1,h2⟩=>⟨ns,e,h1,λk a b=>m _ (h2 k a b)⟩
def zbd:∀{ns:List Int}{vs:List V}{K:W.Frag}{mg:Str->Option Value}{G:Hp},RDs K mg G (ns.map D.int) vs->vs=ns.map V.int
 | [],vs,K,mg,G,h=>by
  rw[List.map_nil,RDs] at h;exact h
 | n::ns,vs,K,mg,G,h=>by
  rw[List.map_cons,RDs] at h;obtain⟨x,r,rfl,h1,h2⟩:=h;rw[RD] at h1;rw[h1,zbd h2]
  rfl
def ziC (hc:X.calm=true):z19 X (.builtin "min") (rN X.K X.mg zkh):=(zf1 hc).imp λvs H Q ⟨G,ds,Q0,X0,g,rds,hr,hk⟩=>by
 obtain⟨d,rfl,hr'⟩:=z2l hr;obtain⟨v,rfl,rd⟩:=rds1 rds;obtain⟨ns,rfl,hne,q⟩:=hr';obtain⟨a,xs,rfl,h1,h2⟩:=z3b rd;rw[zbd h2] at h1;exact⟨G,a,ns,rfl,g,h1,hne,λm h3 h4=>hk.now g (q m h3 h4) RD.int'⟩
def zeZ (hc:X.calm=true):z19 X (.builtin "sum") (λvs H Q=>∃(G:Hp) (a:Addr) (ns:List Int),vs=[.ref a]/\Same G H/\SqT X.K G a (ns.map V.int)/\Q (.int ns.sum) H):=by
 intro pins s σ H xs us Q I rv ⟨G,a,ns,e,g,hS,q⟩;subst e;obtain⟨u,rfl,rx⟩:=z4V rv
 cases rx
 have hh:X.A.handled=none:=I.ok.hd hc;obtain⟨its,rr,pl,_⟩:=I.tuple (z1r g hS);obtain⟨l,rfl,hl⟩:=z7C ns rr;have hll:l.length=ns.length:=by rw[<- hl,List.length_map]
 obtain⟨o,ho,hc',n,hd⟩:=id pl;have ha:a<s.heap.objs.size:=Heap.lt_size ho;refine call_sum_walkG (wpAny_pyIter_tuple pl ⟨_,_,_,_,_,_,λi=>ns.getD i 0,rfl,Walks.tuple (prog:=X.prog) (w:=X.w) (A:=X.A.in1) (show X.A.in1.handled=none from by simp[hh]) s.heap.objs.size a (Nat.ne_of_lt ha) (l.map λp=>Value.int p.1 p.2).toArray,⟨⟨_,Heap.get?_push_size _ rfl,rfl,rfl⟩,⟨o,Heap.get?_push_of_some _ ho,hc',n,hd⟩⟩,λb hb =>?_,λi v e =>?_,λh' tk t' hk =>?_⟩)
 ·rw[Heap.size_push];simp only[List.mem_cons,List.not_mem_nil,or_false] at hb
  rcases hb with e | e
  ·rw[e]; exact Nat.lt_succ_self _
  ·rw[e]; exact Nat.lt_succ_of_lt ha
 ·have e':(l.map λp=>Value.int p.1 p.2)[i]? = some v:=by simpa using e
  rw[List.getElem?_map] at e'
  cases z:l[i]? with
  | none=>rw[z] at e'; cases e'
  | some p=>
   rw[z] at e'
   cases e'
   exact⟨p.2,by dsimp only; rw[List.getD_eq_getElem?_getD, <- hl,List.getElem?_map,z]; rfl⟩
 ·refine⟨.int _,H,I.kept (t':=tk) λb o e=>hk b o ?_ (Heap.get?_push_of_some _ e),⟨t',rfl⟩,?_⟩
  ·simp only[List.mem_singleton];exact Nat.ne_of_lt (Heap.lt_size e)
  ·rw[preSum_getD,List.take_of_length_le (by simp; lia)];exact q
def zma (d:D)(Q:DK):Prop:=∃ns:List Int,d = .tup (ns.map .int)/\Q (.int ns.sum)
def zkg:Fn:=fn1 zma λd Q Q' m ⟨ns,e,h⟩=>⟨ns,e,m _ h⟩
def ziB (hc:X.calm=true):z19 X (.builtin "sum") (rN X.K X.mg zkg):=(zeZ hc).imp λvs H Q ⟨G,ds,Q0,X0,g,rds,hr,hk⟩=>by
 obtain⟨d,rfl,hr'⟩:=z2l hr;obtain⟨v,rfl,rd⟩:=rds1 rds;obtain⟨ns,rfl,q⟩:=hr';obtain⟨a,xs,rfl,h1,h2⟩:=z3b rd;rw[zbd h2] at h1;exact⟨G,a,ns,rfl,g,h1,hk.now g q RD.int'⟩
end
end Pu
namespace Pu
open PySem L2
def z2c:Fn:=Fn.mkN 2 4 (.seq (.for_ [] (.tp [2,3]) (.op z5w [(.v 0)]) (.ifs (.op z2a [(.v 1),(.v 2),(.v 3)]) (.ret (.v 2)) .skip))
 (.ret (.c .non)))
def z5v:Fn:=Fn.mkN 2 2 (.ret (.op pTup [(.op pSub [(.op pIx [(.v 1),(.c (.int 0))]),(.op z0u [(.op pIx [(.v 0),(.c (.int 0))]),(.op pIx [(.v 1),(.c (.int 2))])])]),(.op pSub [(.op pIx [(.v 1),(.c (.int 1))]),(.op z0u [(.op pIx [(.v 0),(.c (.int 1))]),(.op pIx [(.v 1),(.c (.int 2))])])])]))
def z4e:Fn:=Fn.mkN 2 5 (.seq (.set 2 (.op z1M [(.op pIx [(.v 0),(.c (.int 0))]),(.op pIx [(.v 0),(.c (.int 1))])]))
 (.seq (.set 3 (.op z0u [(.op z3A [(.v 2),(.v 2)]),(.op pIx [(.v 1),(.c (.int 2))])]))
 (.seq (.set 4 (.op z3A [(.op z5v [(.op pIx [(.v 0),(.c (.int 0))]),(.v 1)]),(.v 2)]))
 (.ret (.op pTup [(.op pSub [(.v 3),(.v 4)]),(.v 4)])))))
def z1d:Fn:=Fn.mkN 2 8 (.seq (.set 2 (.op z1M [(.op pIx [(.v 0),(.c (.int 0))]),(.op pIx [(.v 0),(.c (.int 1))])]))
 (.seq (.set 3 (.op z1M [(.op pIx [(.v 0),(.c (.int 0))]),(.op pIx [(.v 0),(.c (.int 2))])]))
 (.seq (.set 4 (.op z5v [(.op pIx [(.v 0),(.c (.int 0))]),(.v 1)]))
 (.seq (.set 5 (.op z0u [(.op z3f [(.v 2),(.v 3)]),(.op pIx [(.v 1),(.c (.int 2))])]))
 (.seq (.set 6 (.op z3f [(.v 4),(.v 3)]))
 (.seq (.set 7 (.op z3f [(.v 2),(.v 4)]))
 (.ret (.op pTup [(.op pSub [(.op pSub [(.v 5),(.v 6)]),(.v 7)]),(.v 6),(.v 7)]))))))))
def z29:Fn:=Fn.mkN 2 4 (.seq (.set 2 (.c (.int 2)))
 (.seq (.set 3 (.sl (.v 0) none (some (.c (.int 3)))))
 (.seq (.wh (.op pLt [(.op zkh [(.op z1d [(.v 3),(.v 1)])]),(.c (.int 0))]) (.seq (.set 2 (.op pAdd [(.v 2),(.c (.int 1))]))
 (.set 3 (.op pTup [(.op pIx [(.v 0),(.c (.int 0))]),(.op pIx [(.v 0),(.op pSub [(.v 2),(.c (.int 1))])]),(.op pIx [(.v 0),(.v 2)])]))))
 (.ret (.v 3)))))
def z7y:Fn:=Fn.mkN 2 3 (.seq (.ifs (.op pEq [(.v 1),(.c (.int 0))]) .never .skip)
 (.seq (.set 2 (.op z0b [(.v 1),(.v 0)]))
 (.seq (.ifs (.op pLt [(.v 1),(.c (.int 0))]) (.set 2 (.op pNeg [(.v 2)])) .skip)
 (.ret (.op pTup [(.op z2e [(.v 0),(.v 2)]),(.op z2e [(.v 1),(.v 2)])])))))
def z1u:Fn:=Fn.mkN 3 5 (.seq (.set 3 (.op zkg [(.v 2)]))
 (.seq (.set 4 (.comp 2 [3,0] (.tp [0,1]) (.op zfS [(.v 1),(.v 2)]) (some (.op pGt [(.v 1),(.c (.int 0))])) (.op pTup [(.op zec [(.v 3),(.v 0)]),(.op z7y [(.v 1),(.v 2)])])))
 (.ret (.op z4w [(.op zgY [(.v 4)])]))))
def z4L:Fn:=Fn.mkN 2 6 (.seq (.set 2 (.op z1e [(.v 0)]))
 (.seq (.set 3 (.op z2c [(.v 2),(.v 1)]))
 (.seq (.ifs (.op zeb [(.v 3),(.c .non)]) (.ret (.op pTup [(.c (.str "barred")),(.v 3)])) .skip)
 (.seq (.set 4 (.v 2))
 (.seq (.set 5 (.op pTup [(.c (.int 1))]))
 (.seq (.ifs (.op pEq [(.op pLen [(.v 2)]),(.c (.int 2))]) (.set 5 (.op z4e [(.v 4),(.v 1)])) .skip)
 (.seq (.ifs (.op pGt [(.op pLen [(.v 2)]),(.c (.int 2))]) (.seq (.set 4 (.op z29 [(.v 2),(.v 1)]))
 (.set 5 (.op z1d [(.v 4),(.v 1)]))) .skip)
 (.ret (.op pTup [(.c (.str "sailed")),(.op z1u [(.v 0),(.v 4),(.v 5)])])))))))))
end Pu
namespace Geo
def zeo {a b c d:Int}(ha:0<a)(hb:0<=b)(hc:c<0)(hd:0<=d)(e:a*b=c*d):d=0:=by
 have h1:=Int.mul_nonneg (Int.le_of_lt ha) hb;have h2:=Int.mul_nonpos_of_nonpos_of_nonneg (Int.le_of_lt hc) hd;have h3:c*d=0:=by omega
 rcases Int.mul_eq_zero.mp h3 with z | z
 ·omega
 ·exact z
def sqp {a b:Int}(h:¬ (a=0/\b=0)):0<a*a+b*b:=by
 have sq:∀x:Int,0<=x*x:=λx=>by
  rcases Int.le_total 0 x with z | z
  ·exact Int.mul_nonneg z z
  ·exact Int.mul_nonneg_of_nonpos_of_nonpos z z
 have h1:=sq a;have h2:=sq b
 rcases Int.lt_or_eq_of_le (Int.add_nonneg h1 h2) with z | z
 ·exact z
 ·exfalso
  have z1:a*a=0:=by omega
  have z2:b*b=0:=by omega
  have y1:=Int.mul_eq_zero.mp z1;have y2:=Int.mul_eq_zero.mp z2;exact h ⟨by omega,by omega⟩
def zkK {S:P->Prop}{a b o c:P}(e1:Edge S a b)(e2:Edge S o c)(ha:a≠o)(hb:b≠o):0<cr a b o:=by
 rcases Int.lt_or_eq_of_le (e1.left o e2.sa) with z | z
 ·exact z
 exfalso
 have z:=z.symm;have bt:=e1.btw o e2.sa z;have np:=((zhi e1.ne).mp ⟨z,bt.1,bt.2⟩).2.2;have la:=e2.left a e1.sa;have lb:=e2.left b e1.sb;have ba:=e2.btw a e1.sa;have bb:=e2.btw b e1.sb;have nc:=e2.ne;obtain⟨a1,a2⟩:=a;obtain⟨b1,b2⟩:=b;obtain⟨o1,o2⟩:=o;obtain⟨c1,c2⟩:=c;simp only[cr,dot] at z np la lb ba bb;have ha':¬ (a1 - o1=0/\a2 - o2=0):=λw=>ha (Prod.ext (by simp; omega) (by simp; omega));have hb':¬ (b1 - o1=0/\b2 - o2=0):=λw=>hb (Prod.ext (by simp; omega) (by simp; omega));have hc':¬ (c1 - o1=0/\c2 - o2=0):=λw=>nc (Prod.ext (by simp; omega) (by simp; omega));have z':(a1 - o1)*(b2 - o2) - (a2 - o2)*(b1 - o1)=0:=by rw[<- z]; grind
 clear z ha hb nc bt e1 e2;generalize a1 - o1=u1 at*;generalize a2 - o2=u2 at*;generalize b1 - o1=v1 at*;generalize b2 - o2=v2 at*;generalize c1 - o1=s1 at*;generalize c2 - o2=s2 at*;have U:=sqp ha';have V:=sqp hb';have C:=sqp hc';have lag:(u1*v1+u2*v2)*(u1*v1+u2*v2)+(u1*v2 - u2*v1)*(u1*v2 - u2*v1)=(u1*u1+u2*u2)*(v1*v1+v2*v2):=by grind
 have i1:(u1*u1+u2*u2)*(s1*v2 - s2*v1)=(u1*v1+u2*v2)*(s1*u2 - s2*u1)+(u1*v2 - u2*v1)*(s1*u1+s2*u2):=by grind
 have i2:(u1*u1+u2*u2)*(v1*s1+v2*s2)=(u1*v1+u2*v2)*(u1*s1+u2*s2) - (u1*v2 - u2*v1)*(s1*u2 - s2*u1):=by grind
 have i3:(u1*s1+u2*s2)*(u1*s1+u2*s2)+(s1*u2 - s2*u1)*(s1*u2 - s2*u1)=(u1*u1+u2*u2)*(s1*s1+s2*s2):=by grind
 rw[z',Int.zero_mul,Int.add_zero] at lag i1;rw[z',Int.zero_mul,Int.sub_zero] at i2;have UV:=Int.mul_pos U V;have neg:u1*v1+u2*v2<0:=by
  rcases Int.lt_or_eq_of_le np with w | w
  ·exact w
  ·rw[w] at lag; omega
 have k1:s1*u2 - s2*u1=0:=zeo U lb neg la i1;have k1':s1*v2 - s2*v1=0:=by
  rw[k1,Int.mul_zero] at i1
  rcases Int.mul_eq_zero.mp i1 with w | w
  ·omega
  ·exact w
 have k2:=(ba k1).1;have k3:=(bb k1').1;have k4:u1*s1+u2*s2=0:=zeo U k3 neg k2 i2;rw[k1,k4] at i3;have:=Int.mul_pos U C;omega
def ed (a b:P)(x y t:Int):Int:=(b.1 - a.1)*(y - a.2*t) - (b.2 - a.2)*(x - a.1*t)
def zeP (a b:P)(x y t:Int):ed b a x y t = -ed a b x y t:=by simp only[ed]; grind
def zaH {h:List P}(nd:h.Nodup){i j:Nat}(hi:i<h.length)(hj:j<h.length)(ne:i≠j):cy h i≠cy h j:=λe=>by
 have g1:=z4f (h:=h) (i:=i) (by omega);have g2:=z4f (h:=h) (i:=j) (by omega);rw[Nat.mod_eq_of_lt hi,List.getElem?_eq_getElem hi] at g1;rw[Nat.mod_eq_of_lt hj,List.getElem?_eq_getElem hj] at g2;have e1:h[i]=h[j]:=by
  rw[Option.some.inj g1,Option.some.inj g2]; exact e
 rcases Nat.lt_or_gt_of_ne ne with z | z
 ·exact(List.pairwise_iff_getElem.mp nd i j hi hj z) e1
 ·exact(List.pairwise_iff_getElem.mp nd j i hj hi z) e1.symm
def zgl {S:P->Prop}{h:List P}(x:z1W S h){k:Nat}(h1:1<=k)(h2:k+1<h.length):0<cr (cy h k) (cy h (k+1)) (cy h 0):=
 zkK (z8o x (by omega) k) (z8o x (by omega) 0) (zaH x.nodup (by omega) (by omega) (by omega)) (zaH x.nodup (by omega) (by omega) (by omega))
end Geo
namespace Pu
open PySem L2 Mth
def cyw {h:List P}{n:Nat}(hn:h≠[])(hb:Wb n h)(k:Nat):Vb n (Geo.cy h k):=hb _ (List.mem_of_getElem? (Geo.z4f (List.length_pos_iff.mpr hn)))
def zdE {h:List P}(hn:h≠[])(hb:Wb 600 h){s:P × P}(hs:s∈z2g h):Vb 700 s.1:=by
 unfold z2g at hs
 split at hs
 ·obtain⟨b,hb',rfl⟩:=List.mem_map.mp hs;unfold ways at hb';simp only[List.mem_cons,List.not_mem_nil,or_false] at hb'
  rcases hb' with rfl | rfl | rfl | rfl <;> exact⟨Bt.le (m:=1) (z0r (by dsimp only; decide)),Bt.le (m:=1) (z0r (by dsimp only; decide))⟩
 ·obtain⟨j,_,hs⟩:=List.mem_flatMap.mp hs;obtain⟨a1,a2⟩:=cyw hn hb (j+h.length - 1);obtain⟨c1,c2⟩:=cyw hn hb j;have d1:Bt 601 ((Geo.cy h j).1 - (Geo.cy h (j+h.length - 1)).1):=Bt.le (Bt.sub c1 a1);have d2:Bt 601 ((Geo.cy h j).2 - (Geo.cy h (j+h.length - 1)).2):=Bt.le (Bt.sub c2 a2);unfold z1P at hs
  rcases List.mem_cons.mp hs with rfl | hs
  ·exact⟨d2.le,Bt.le (Bt.neg d1)⟩
  ·split at hs
   ·rw[List.mem_singleton.mp hs];exact⟨d1.le,d2.le⟩
   ·cases hs
def Wthn (h:List P)(x y t:Int):Prop:=∀s∈z2g h,dot (x,y) s.1<=dot s.2 s.1*t
def zdL {l h:List P}{x y t:Int}{Q:DK}{X:XP}(hh:Geo.z1W (· ∈ l) h)(hb:Wb 600 h)(hz:h.length<=62)(pc:Pc x y t)
  (q1:∀b,b≠(0,0)->Vb 700 b->(∀p∈l,dot p b*t<dot (x,y) b)->Q (vec b)) (q2:Wthn h x y t->Q .non):z2c.run [vecs h,pcD x y t] Q X:=by
 obtain⟨m,tl,em,_⟩:=hh.ex;have hn:h≠[]:=by rw[em]; simp
 walk_at "fn";ac_nf;refine s_sides_of (.inl rfl) hb.le hn (by omega) λh' hh' =>?_;have self:Geo.z1W (· ∈ h) h:=hh.of (λp hp=>hh.sub p hp) λp hp=>hp;obtain rfl:h'=h:=(hh'.is hn).unique self;ac_nf;refine z1D (f:=zht) (λdn ρ=>∃x2 x3:B,(∀s∈dn,dot (x,y) s.1<=dot s.2 s.1*t)/\ρ=[.s (vecs h'),.s (pcD x y t),x2,x3]) ⟨_,_,by simp,rfl⟩ ?_ ?_
 ·rintro dn s r ρ e ⟨x2,x3,hd,rfl⟩;have hs:s∈z2g h':=by rw[e]; simp
  have sb:=zdE hn hb hs;obtain⟨s2,sf⟩:=zfq hh hs;refine⟨rfl,?_⟩;show Sm.run _ _ _ _ _;unfold z0w z0w z0w;ac_rfl;ac_nf;refine zbO pc sb (zco hb sb (List.mem_map.mpr ⟨s.2,s2,rfl⟩)) ?_;refine z2d (λz =>?_) (λz =>?_)
  ·ac_nf;refine q1 s.1 (zhs hh hs) sb λp hp =>?_;have:=Int.mul_le_mul_of_nonneg_right (sf p hp) (Int.le_of_lt pc.pos);omega
  ·ac_nf;refine⟨_,_,λs' hs' =>?_,rfl⟩
   rcases List.mem_append.mp hs' with hs' | hs'
   ·exact hd s' hs'
   ·rw[List.mem_singleton.mp hs']; omega
 rintro ρ ⟨x2,x3,hd,rfl⟩;ac_nf;exact q2 hd
def zb1 {h:List P}{x y t:Int}(hl:2<=h.length)(w:Wthn h x y t){k:Nat}(hk:k<h.length):0<=Geo.ed (Geo.cy h k) (Geo.cy h (k+1)) x y t:=by
 have key:∀j,j<h.length->0<=Geo.ed (Geo.cy h (j+h.length - 1)) (Geo.cy h j) x y t:=λj hj=>by
  have:=w _ (z7U (by omega) hj (List.mem_cons_self ..));simp only[dot,rt,stp] at this;simp only[Geo.ed];generalize Geo.cy h (j+h.length - 1)=a at*;generalize Geo.cy h j=b at*
  grind
 rcases Nat.lt_or_ge (k+1) h.length with z | z
 ·have:=key (k+1) z;rw[show k+1+h.length - 1=k+h.length by omega] at this
  rwa [show Geo.cy h (k+h.length)=Geo.cy h k by unfold Geo.cy; rw[Nat.add_mod_right]] at this
 ·have:=key 0 (by omega);rw[show 0+h.length - 1=k by omega] at this
  rwa [show Geo.cy h 0=Geo.cy h (k+1) by unfold Geo.cy; rw[show k+1=h.length by omega,Nat.mod_self,Nat.zero_mod]] at this
def s_way_to {a:P}{x y t:Int}{Q:DK}{X:XP}(ha:Vb 600 a)(pc:Pc x y t)(q:Q (vec (x - a.1*t,y - a.2*t))):z5v.run [vec a,pcD x y t] Q X:=by
 obtain⟨pos,bx,bY,bt',_⟩:=pc;obtain⟨a1,a2⟩:=ha;walk_at "fn";ac_nf;exact q
def zgA {a:P}{x y t:Int}(ha:Vb 600 a)(pc:Pc x y t):Vb 900 (x - a.1*t,y - a.2*t):=⟨Bt.le (Bt.sub pc.bx (Bt.mul ha.1 pc.bt)),Bt.le (Bt.sub pc.bY (Bt.mul ha.2 pc.bt))⟩
def z8W {a b:P}(ha:Vb 600 a)(hb:Vb 600 b):Vb 601 (b.1 - a.1,b.2 - a.2):=⟨Bt.le (Bt.sub hb.1 ha.1),Bt.le (Bt.sub hb.2 ha.2)⟩
def zjg {a b c:P}{x y t:Int}{Q:DK}{X:XP}(ha:Vb 600 a)(hb:Vb 600 b)(hc:Vb 600 c)(pc:Pc x y t)(q:Q (.tup ([Geo.ed b c x y t,Geo.ed c a x y t,Geo.ed a b x y t].map .int))):z1d.run [vecs [a,b,c],pcD x y t] Q X:=by
 have vo:=z8W ha hb;have vt:=z8W ha hc;have vw:=zgA ha pc;have bt':=pc.bt;walk_at "fn";ac_nf;refine s_step_of ?_;ac_nf;refine s_step_of ?_;ac_nf;refine s_way_to ha pc ?_;ac_nf;refine s_turn_of ⟨vo.1.le,vo.2.le⟩ ⟨vt.1.le,vt.2.le⟩ ?_;have bw:Bt 1203 ((b.1 - a.1)*(c.2 - a.2) - (b.2 - a.2)*(c.1 - a.1)):=Bt.le (Bt.sub (Bt.mul vo.1 vt.2) (Bt.mul vo.2 vt.1));ac_nf;refine s_turn_of ⟨vw.1.le,vw.2.le⟩ ⟨vt.1.le,vt.2.le⟩ ?_;ac_nf;refine s_turn_of ⟨vo.1.le,vo.2.le⟩ ⟨vw.1.le,vw.2.le⟩ ?_;ac_nf;have e1:((b.1 - a.1)*(c.2 - a.2) - (b.2 - a.2)*(c.1 - a.1))*t - ((x - a.1*t)*(c.2 - a.2) - (y - a.2*t)*(c.1 - a.1)) - ((b.1 - a.1)*(y - a.2*t) - (b.2 - a.2)*(x - a.1*t))=Geo.ed b c x y t:=by simp only[Geo.ed]; grind
 have e2:(x - a.1*t)*(c.2 - a.2) - (y - a.2*t)*(c.1 - a.1)=Geo.ed c a x y t:=by simp only[Geo.ed]; grind
 have e3:(b.1 - a.1)*(y - a.2*t) - (b.2 - a.2)*(x - a.1*t)=Geo.ed a b x y t:=rfl;rw[e1,e2,e3];exact q
structure Fan (h:List P)(x y t:Int)(k:Nat):Prop where
 lo:1<=k
 hi:k+1<h.length
 a:0<=Geo.ed (Geo.cy h k) (Geo.cy h (k+1)) x y t
 b:0<=Geo.ed (Geo.cy h (k+1)) (Geo.cy h 0) x y t
 c:0<=Geo.ed (Geo.cy h 0) (Geo.cy h k) x y t
def zli {h:List P}(h3:3<=h.length):h.take 3=[Geo.cy h 0,Geo.cy h 1,Geo.cy h 2]:=by
 match h,h3 with
 | a::b::c::r,_=>
  have e:∀k,k<3->k % (a::b::c::r).length=k:=λk hk=>Nat.mod_eq_of_lt (by simp; omega);simp only[Geo.cy];rw[e 0 (by omega),e 1 (by omega),e 2 (by omega)]
  rfl
def zfy {h:List P}{x y t:Int}{Q:DK}{X:XP}(hb:Wb 600 h)(h3:3<=h.length)(hz:h.length<=62)(pc:Pc x y t)(w:Wthn h x y t)
  (q:∀k,Fan h x y t k->Q (vecs [Geo.cy h 0,Geo.cy h k,Geo.cy h (k+1)])):z29.run [vecs h,pcD x y t] Q X:=by
 have hn:h≠[]:=List.ne_nil_of_length_pos (by omega);have ew:=λ{k:Nat}(hk:k<h.length)=>zb1 (by omega) w hk;have elast:0<=Geo.ed (Geo.cy h (h.length - 1)) (Geo.cy h 0) x y t:=by
  have:=ew (k:=h.length - 1) (by omega)
  rwa [show Geo.cy h (h.length - 1+1)=Geo.cy h 0 by unfold Geo.cy; rw[show h.length - 1+1=h.length by omega,Nat.mod_self,Nat.zero_mod]] at this
 have c3:cutD (h.map vec) none (some 3)=(h.take 3).map vec:=by
  rw[z6f,show HT.sIx h.length h.length (some (3:Int))=min 3 h.length by
   show (if (3:Int)<0 then ((3:Int)+(h.length:Int)).toNat else min (3:Int).toNat h.length)=_;rw[if_neg (by decide)]
   rfl]
  show (h.take (min 3 h.length)).map vec=_;rw[show min 3 h.length=3 by omega]
 walk_at "fn";ac_nf;rw[c3,zli h3];ac_nf;refine z9l (z7B (λρ=>∃k:Nat,1<=k/\k+1<h.length/\0<=Geo.ed (Geo.cy h 0) (Geo.cy h k) x y t/\ρ=[.s (vecs h),.s (pcD x y t),.s (.int ((k:Int)+1)),.s (vecs [Geo.cy h 0,Geo.cy h k,Geo.cy h (k+1)])]) (λρ=>match ρ with | [_,_,.s (.int a),_]=>(100 - a).toNat | _=>0) ⟨1,by omega,by omega,ew (k:=0) (by omega),rfl⟩ ?_);rintro ρ ⟨k,k1,k2,hc,rfl⟩;have ha:=ew (k:=k) (by omega);ac_nf;refine zjg (cyw hn hb _) (cyw hn hb _) (cyw hn hb _) pc ?_;refine⟨_,rfl,by simp,λm hm hle =>?_⟩;ac_nf;have l2:=hle _ (List.mem_cons_of_mem _ (List.mem_cons_self ..));refine z2d (λz =>?_) (λz =>?_)
 ·have hb':Geo.ed (Geo.cy h (k+1)) (Geo.cy h 0) x y t<0:=by
   simp only[List.mem_cons,List.not_mem_nil,or_false] at hm;omega
  have ne:k+1≠h.length - 1:=λe=>by rw[e] at hb'; omega
  have hc':0<=Geo.ed (Geo.cy h 0) (Geo.cy h (k+1)) x y t:=by rw[Geo.zeP]; omega
  ac_nf;refine z2v (z1a (zaI (k:=0) (by omega))) ?_;ac_nf;rw[show (k:Int)+1+1 - 1=((k+1:Nat):Int) by omega];refine z2v (z1a (zaI (k:=k+1) (by omega))) ?_;ac_nf;rw[show (k:Int)+1+1=((k+2:Nat):Int) by omega];refine z2v (z1a (zaI (k:=k+2) (by omega))) ?_;ac_nf;refine⟨⟨k+1,by omega,by omega,hc',rfl⟩,?_⟩;show (100 - ((k+2:Nat):Int)).toNat<(100 - ((k:Int)+1)).toNat
  omega
 ·ac_nf;refine q k ⟨k1,k2,ha,by omega,hc⟩
def s_lowest {p W:Int}{Q:DK}{X:XP}(hW:0<W)(bW:Bt 1400 W)(q:Q (vec (p / (Int.gcd p W:Int),W / (Int.gcd p W:Int)))):z7y.run [.int p,.int W] Q X:=by
 obtain⟨g0,_,_,_,_⟩:=z5m (t:=p) hW;have gW:(Int.gcd p W:Int)<=W:=Int.le_of_dvd hW (Int.gcd_dvd_right ..);have bg:Bt 9000 (Int.gcd p W:Int):=Bt.le (bW.of_abs (by omega));walk_at "fn";ac_nf;refine t_no (by omega) ?_;ac_nf;refine z3t ?_;rw[Int.gcd_comm];ac_nf;refine t_no (by omega) ?_;ac_nf;exact q
def idx (l:List P)(c:P):Nat:=l.findIdx λp=>decide (p=c)
def z9O {l:List P}{c:P}(h:c∈l):l[idx l c]? = some c:=by
 have h1:idx l c<l.length:=List.findIdx_lt_length_of_exists ⟨c,h,by simp⟩;rw[List.getElem?_eq_getElem h1];have:=List.findIdx_getElem (w:=h1);exact congrArg some (of_decide_eq_true this)
def zcg {l:List P}{c:P}(h:c∈l):idx l c<l.length:=List.findIdx_lt_length_of_exists ⟨c,h,by simp⟩
def ziv {l:List P}{c d:P}(hc:c∈l)(hd:d∈l)(e:idx l c=idx l d):c=d:=by
 have h1:=z9O hc;rw[e,z9O hd] at h1;exact(Option.some.inj h1).symm
def zkY {l:List P}{c:P}(h:c∈l):Geo.cy l (idx l c)=c:=by
 have h1:=z9O h;have h2:=Geo.z4f (h:=l) (i:=idx l c) (by have:=zcg h; omega);rw[Nat.mod_eq_of_lt (zcg h),h1] at h2;exact(Option.some.inj h2).symm
def zij {l:List P}{c:P}{Q:DK}{X:XP}(h:c∈l)(q:Q (.int (idx l c:Int))):zec.run [vecs l,vec c] Q X:=by
 refine⟨Da.vec c,λd hd =>?_,⟨vec c,List.mem_map_of_mem h,by rw[z8m]; simp⟩,λi d e1 e2 e3 =>?_⟩
 ·obtain⟨p,_,rfl⟩:=List.mem_map.mp hd;exact Da.vec p
 ·rw[List.getElem?_map] at e1
  cases z:l[i]? with
  | none=>rw[z] at e1; cases e1
  | some p=>
   rw[z] at e1
   cases e1
   rw[z8m] at e2;have ep:=of_decide_eq_true e2;subst ep;have:i=idx l p:=by
    rcases Nat.lt_trichotomy i (idx l p) with w | w | w
    ·have hi:i<l.length:=Nat.lt_trans w (zcg h);have:=List.not_of_lt_findIdx (show i<l.findIdx λq=>decide (q=p) from w);rw[List.getElem?_eq_getElem hi] at z;rw[Option.some.inj z] at this;simp at this
    ·exact w
    ·have:=e3 (idx l p) (vec p) w (by rw[List.getElem?_map,z9O h]; rfl);rw[z8m] at this;simp at this
   rw[this];exact q
def shOf (l:List P)(W:Int)(x:P × Int):Sh:=(idx l x.1,x.2 / (Int.gcd x.2 W:Int),W / (Int.gcd x.2 W:Int))
def rwOf (l:List P)(W:Int)(x:P × Int):Int × D:=((idx l x.1:Int),vec (x.2 / (Int.gcd x.2 W:Int),W / (Int.gcd x.2 W:Int)))
def back:Int × D->Sh
 | (n,.tup [.int a,.int b])=>(n.toNat,a,b)
 | (n,_)=>(n.toNat,0,1)
def za0 (l:List P)(W:Int)(x:P × Int):back (rwOf l W x)=shOf l W x:=by
 simp only[rwOf,shOf,back,vec];simp
def ze6 {f:Sh->Int}{a b:List Sh}(h:a.Perm b):(a.map f).sum=(b.map f).sum:=by
 induction h with
 | nil=>rfl
 | cons x _ ih=>simp[ih]
 | swap x y l=>simp; omega
 | trans _ _ i1 i2=>rw[i1,i2]
def zcn {f:P × Int->Int}:∀{l:List (P × Int)},(∀x∈l,0<=x.2)->(∀x,x.2=0->f x=0)->((l.filter λx=>decide (0<x.2)).map f).sum=(l.map f).sum
 | [],_,_=>rfl
 | x::l,h,hf=>by
  have ih:=zcn (l:=l) (λy hy=>h y (by simp[hy])) hf;rw[List.filter_cons]
  split
  ·rw[List.map_cons,List.map_cons,List.sum_cons,List.sum_cons,ih]
  ·rename_i z
   have h0:=h x (by simp);have:x.2=0:=by simp at z; omega
   rw[List.map_cons,List.sum_cons,hf x this,Int.zero_add,ih]
def zkq {l m:List D}{Q:DK}{X:XP}(q:Q (.lst ((l.zip m).map λp =>.tup [p.1,p.2]))):zfS.run [.tup l,.tup m] Q X:=q
structure Got (l:List P)(xs:List (P × Int))(W:Int)(sh:List Sh):Prop where
 shs:Shs l.length sh
 few:sh.length<=3
 sum:∀(w:Nat->Int) (f:P->Int),(∀k,w k=f (Geo.cy l k))->Xq w sh.reverse*W=Bq sh.reverse*(xs.map λx=>f x.1*x.2).sum
def zcH {l:List P}{xs:List (P × Int)}{Q:DK}{X:XP}(hl:∀x∈xs,x.1∈l)(hz:l.length<=62)(nd:(xs.map (·.1)).Nodup)(h3:xs.length<=3)(h0:∀x∈xs,0<=x.2)(hW:0<(xs.map (·.2)).sum)(bW:Bt 1400 (xs.map (·.2)).sum)
  (q:∀sh,Got l xs (xs.map (·.2)).sum sh->Q (.tup (sh.map shD))):z1u.run [vecs l,vecs (xs.map (·.1)),.tup ((xs.map (·.2)).map .int)] Q X:=by
 walk_at "fn";ac_nf;refine⟨_,rfl,?_⟩;generalize eW:(xs.map (·.2)).sum=W at*;ac_nf;refine zkq ?_;rw[List.map_map,List.map_map,List.zip_map',List.map_map];ac_nf;refine⟨by rw[List.length_map]; exact szl' (by omega),?_⟩;refine z3h (f:=λx:P × Int=>D.tup [vec x.1,.int x.2]) (p:=λx=>decide (0<x.2)) (g:=λx=>pdD (rwOf l W x)) (λx hx K k1 k2 =>?_) ?_
 ·refine⟨rfl,?_⟩;show Ex.run _ _ _ _;unfold z0w z0w z0w;ac_rfl;ac_nf;refine z2d (λz =>?_) (λz =>?_)
  ·ac_nf;refine zij (hl x hx) ?_;ac_nf;refine s_lowest hW bW ?_;ac_nf;exact k1 (decide_eq_true z)
  ·exact k2 (decide_eq_false z)
 generalize eF:(xs.filter λx=>decide (0<x.2))=F;have hF:∀x∈F,x∈xs/\0<x.2:=λx hx=>by
  rw[<- eF] at hx;obtain⟨h1,h2⟩:=List.mem_filter.mp hx;exact⟨h1,of_decide_eq_true h2⟩
 have lF:F.length<=3:=by
  rw[<- eF];exact Nat.le_trans (List.length_filter_le _ _) h3
 rw[show (F.map λx=>pdD (rwOf l W x))=(F.map (rwOf l W)).map pdD by rw[List.map_map]; rfl];refine⟨⟨trivial,trivial,trivial,trivial,trivial,trivial⟩,?_⟩;ac_rfl;ac_nf;refine⟨F.map (rwOf l W),rfl,?_,by rw[List.length_map]; omega,λrl pm pw =>?_⟩
 ·rw[List.map_map];have n1:(F.map (·.1)).Nodup:=by
   rw[<- eF];exact(List.filter_sublist.map _).nodup nd
  unfold List.Nodup at n1 ⊢;rw[List.pairwise_map] at n1 ⊢;refine n1.imp_of_mem λ{a b} ha hb hab e =>?_;have e:((idx l a.1:Nat):Int)=(idx l b.1:Nat):=e;exact hab (ziv (hl a (hF a ha).1) (hl b (hF b hb).1) (by omega))
 ac_nf;have hrl:∀y∈rl,∃x∈F,y=rwOf l W x:=λy hy=>by
  obtain⟨x,hx,e⟩:=List.mem_map.mp (pm.mem_iff.mp hy);exact⟨x,hx,e.symm⟩
 have e1:rl.map pdD=(rl.map back).map shD:=by
  rw[List.map_map];apply List.map_congr_left;intro y hy;obtain⟨x,hx,rfl⟩:=hrl y hy;show pdD (rwOf l W x)=shD (back (rwOf l W x));rw[za0]
  rfl
 have pm2:(rl.map back).Perm (F.map (shOf l W)):=by
  have:=pm.map back
  rwa [List.map_map,show back ∘ rwOf l W=shOf l W from funext λx=>za0 l W x] at this
 rw[e1];have hs:∀s∈rl.map back,∃x∈F,s=shOf l W x:=λs hs=>by
  obtain⟨x,hx,e⟩:=List.mem_map.mp (pm2.mem_iff.mp hs);exact⟨x,hx,e.symm⟩
 have sg:∀s∈rl.map back,Sg s/\s.1<l.length:=λs hs'=>by
  obtain⟨x,hx,rfl⟩:=hs s hs';obtain⟨x1,x2⟩:=hF x hx;obtain⟨g0,f1,f2,f3,f4⟩:=z5m (t:=x.2) hW;have xW:x.2<=W:=by
   rw[<- eW];exact(Geo.z95 λy hy=>by obtain⟨z,hz,rfl⟩:=List.mem_map.mp hy; exact h0 z hz).2 _ (List.mem_map_of_mem x1)
  have bx:Bt 1400 x.2:=bW.of_abs (by omega);refine⟨⟨?_,by show 0<W / _; omega,f4,bx.of_abs (z0h g0),bW.of_abs (z0h g0)⟩,zcg (hl x x1)⟩;show 0<x.2 / (Int.gcd x.2 W:Int)
  rcases Int.lt_or_le 0 (x.2 / (Int.gcd x.2 W:Int)) with z | z
  ·exact z
  ·have:=Int.mul_nonpos_of_nonneg_of_nonpos (Int.le_of_lt g0) z;omega
 have ll:(rl.map back).length<=3:=by rw[pm2.length_eq,List.length_map]; exact lF
 refine q _ ⟨⟨sg,?_,?_⟩,ll,λw f hw =>?_⟩
 ·rw[List.pairwise_map];refine pw.imp_of_mem λ{a b} ha hb hab =>?_;obtain⟨x,_,rfl⟩:=hrl a ha;obtain⟨y,_,rfl⟩:=hrl b hb;rw[za0,za0];have hab:((idx l x.1:Nat):Int)<(idx l y.1:Nat):=hab;show idx l x.1<idx l y.1;omega
 ·refine Bt.le (Bq.bt (m:=1400) λs hs'=>(sg s (List.mem_reverse.mp hs')).1.bb) ?_;rw[List.length_reverse];omega
 ·have hg:∀s∈(rl.map back).reverse,s.2.1*W=(s.2.1*(W / s.2.2))*s.2.2:=λs hs'=>by
   obtain⟨x,hx,rfl⟩:=hs s (List.mem_reverse.mp hs');obtain⟨g0,f1,f2,f3,f4⟩:=z5m (t:=x.2) hW;have d:W / (Int.gcd x.2 W:Int) ∣ W:=⟨(Int.gcd x.2 W:Int),by rw[Int.mul_comm]; exact f2⟩
   show _*W=_*(W / (W / (Int.gcd x.2 W:Int)))*(W / (Int.gcd x.2 W:Int));rw[Int.mul_assoc,Int.ediv_mul_cancel d]
  rw[z6h hg,ze6 ((rl.map back).reverse_perm.trans pm2),List.map_map, <- zcn (l:=xs) h0 (λx hx=>by rw[hx,Int.mul_zero]),eF]
  congr 2
  apply List.map_congr_left;intro x hx;obtain⟨x1,x2⟩:=hF x hx;obtain⟨g0,f1,f2,f3,f4⟩:=z5m (t:=x.2) hW;show w (idx l x.1)*(x.2 / (Int.gcd x.2 W:Int)*(W / (W / (Int.gcd x.2 W:Int))))=f x.1*x.2;rw[hw,zkY (hl x x1)];have e2:W / (W / (Int.gcd x.2 W:Int))=(Int.gcd x.2 W:Int):=by
   have:W=(Int.gcd x.2 W:Int)*(W / (Int.gcd x.2 W:Int)):=f2;exact Int.ediv_eq_of_eq_mul_left (by omega) this
  rw[e2,Int.mul_comm (x.2 / _), <- f1]
def zl0 {l:List P}{xs:List (P × Int)}{W x y t:Int}{sh:List Sh}(G:Got l xs W sh)(hW:0<W)(eW:(xs.map (·.2)).sum=W)(pc:Pc x y t)(e1:(xs.map λz=>z.1.1*z.2).sum*t=W*x)(e2:(xs.map λz=>z.1.2*z.2).sum*t=W*y):
  Xq (λ_=>1) sh.reverse=Bq sh.reverse/\Pl (Xq (wx l) sh.reverse) (Xq (wy l) sh.reverse) (Bq sh.reverse) x y t:=by
 have s0:=G.sum (λ_=>1) (λ_=>1) λ_=>rfl;have s1:=G.sum (wx l) (λp=>p.1) λ_=>rfl;have s2:=G.sum (wy l) (λp=>p.2) λ_=>rfl;rw[show (xs.map λx=>(1:Int)*x.2)=xs.map (·.2) from List.map_congr_left λx _=>Int.one_mul _,eW] at s0;refine⟨Int.eq_of_mul_eq_mul_right (by omega) s0,pc.pos,pc.cop,?_,?_⟩
 ·generalize (xs.map λz=>z.1.1*z.2).sum=N at*;refine Int.eq_of_mul_eq_mul_right (a:=W) (by omega) ?_;rw[Int.mul_right_comm (Xq (wx l) sh.reverse),s1,Int.mul_assoc (Bq sh.reverse) N,e1]
  grind
 ·generalize (xs.map λz=>z.1.2*z.2).sum=N at*;refine Int.eq_of_mul_eq_mul_right (a:=W) (by omega) ?_;rw[Int.mul_right_comm (Xq (wy l) sh.reverse),s2,Int.mul_assoc (Bq sh.reverse) N,e2]
  grind
def zjm {a b:P}{x y t:Int}{Q:DK}{X:XP}(ha:Vb 600 a)(hb:Vb 600 b)(pc:Pc x y t)
  (q:Q (.tup ([((b.1 - a.1)*(b.1 - a.1)+(b.2 - a.2)*(b.2 - a.2))*t - ((x - a.1*t)*(b.1 - a.1)+(y - a.2*t)*(b.2 - a.2)),(x - a.1*t)*(b.1 - a.1)+(y - a.2*t)*(b.2 - a.2)].map .int))):z4e.run [vecs [a,b],pcD x y t] Q X:=by
 have vo:=z8W ha hb;have vw:=zgA ha pc;have bt':=pc.bt;walk_at "fn";ac_nf;refine s_step_of ?_;ac_nf;refine s_dot_of ⟨vo.1.le,vo.2.le⟩ ⟨vo.1.le,vo.2.le⟩ ?_;have bw:Bt 1203 ((b.1 - a.1)*(b.1 - a.1)+(b.2 - a.2)*(b.2 - a.2)):=Bt.le (Bt.add (Bt.mul vo.1 vo.1) (Bt.mul vo.2 vo.2));ac_nf;refine s_way_to ha pc ?_;ac_nf;refine s_dot_of ⟨vw.1.le,vw.2.le⟩ ⟨vo.1.le,vo.2.le⟩ ?_;ac_nf;exact q
abbrev swD (sh:List Sh):D :=.tup [.str (Str.ofString "sailed"),.tup (sh.map shD)]
abbrev brD (b:P):D :=.tup [.str (Str.ofString "barred"),vec b]
structure Led (l:List P)(x y t:Int)(sh:List Sh):Prop where
 shs:Shs l.length sh
 few:sh.length<=3
 one:Xq (λ_=>1) sh.reverse=Bq sh.reverse
 pl:Pl (Xq (wx l) sh.reverse) (Xq (wy l) sh.reverse) (Bq sh.reverse) x y t
structure Prt (l:List P)(x y t:Int)(xs:List (P × Int)):Prop where
 mem:∀z∈xs,z.1∈l
 nd:(xs.map (·.1)).Nodup
 few:xs.length<=3
 nn:∀z∈xs,0<=z.2
 pos:0<(xs.map (·.2)).sum
 bt:Bt 1400 (xs.map (·.2)).sum
 ex:(xs.map λz=>z.1.1*z.2).sum*t=(xs.map (·.2)).sum*x
 ey:(xs.map λz=>z.1.2*z.2).sum*t=(xs.map (·.2)).sum*y
def zhC {l:List P}{x y t:Int}{xs:List (P × Int)}{Q:DK}{X:XP}(hz:l.length<=62)(pc:Pc x y t)(g:Prt l x y t xs)(q2:∀sh,Led l x y t sh->Q (.tup (sh.map shD))):
  z1u.run [vecs l,vecs (xs.map (·.1)),.tup ((xs.map (·.2)).map .int)] Q X:=by
 refine zcH g.mem hz g.nd g.few g.nn g.pos g.bt λsh G =>?_;obtain⟨h1,h2⟩:=zl0 G g.pos rfl pc g.ex g.ey;exact q2 sh ⟨G.shs,G.few,h1,h2⟩
def zhV {l:List P}{m:P}{x y t:Int}(hm:m∈l)(w:Wthn [m] x y t):Prt l x y t [(m,1)]:=by
 have f:∀b,b∈ways->dot (x,y) b<=dot m b*t:=λb hb=>w (b,m) (by
  unfold z2g;rw[if_pos (show [m].length=1 from rfl)];exact List.mem_map.mpr ⟨b,hb,rfl⟩)
 have f1:=f (1,0) (by decide);have f2:=f (0,1) (by decide);have f3:=f (-1,0) (by decide);have f4:=f (0,-1) (by decide);simp[dot,Int.neg_mul] at f1 f2 f3 f4;have g1:m.1*t=x:=by omega
 have g2:m.2*t=y:=by omega
 exact⟨by simpa using hm,by simp,by simp,by simp,by simp,by simpa using z0r (n:=1400) (i:=1) (Nat.lt_of_lt_of_le (by decide:(1:Int).natAbs<2 ^ 1) (Nat.pow_le_pow_right (by decide) (by decide))),by simpa using g1,by simpa using g2⟩
def zhU {S:P->Prop}{l:List P}{a b:P}{x y t:Int}(pc:Pc x y t)(hh:Geo.z1W S [a,b])(ha:a∈l)(hb:b∈l)(va:Vb 600 a)(vb:Vb 600 b)(w:Wthn [a,b] x y t):
  Prt l x y t [(a,((b.1 - a.1)*(b.1 - a.1)+(b.2 - a.2)*(b.2 - a.2))*t - ((x - a.1*t)*(b.1 - a.1)+(y - a.2*t)*(b.2 - a.2))),(b,(x - a.1*t)*(b.1 - a.1)+(y - a.2*t)*(b.2 - a.2))]:=by
 have nd:=hh.nodup;have ne:a≠b:=λe=>by rw[e] at nd; simp at nd
 have e1:=zb1 (h:=[a,b]) (by simp) w (k:=0) (by simp);have e2:=zb1 (h:=[a,b]) (by simp) w (k:=1) (by simp);have e1:0<=Geo.ed a b x y t:=e1;have c2:Geo.cy [a,b] 2=a:=by simp[Geo.cy]
 have e2:0<=Geo.ed b a x y t:=by rw[show (1+1:Nat)=2 from rfl,c2] at e2; exact e2
 rw[Geo.zeP] at e2;have e0:Geo.ed a b x y t=0:=by omega
 have k1:=w (stp a b,b) (z7U (by simp) (j:=1) (by simp) (by unfold z1P; rw[if_pos (show [a,b].length=2 from rfl),show 1+[a,b].length - 1=2 from rfl,c2]; exact List.mem_cons_of_mem _ (List.mem_singleton.mpr rfl)));have k2:=w (stp b a,a) (z7U (by simp) (j:=0) (by simp) (by unfold z1P; rw[if_pos (show [a,b].length=2 from rfl)]; exact List.mem_cons_of_mem _ (List.mem_singleton.mpr rfl)));have vo:=z8W va vb;have pos:=pc.pos;have sq:0<(b.1 - a.1)*(b.1 - a.1)+(b.2 - a.2)*(b.2 - a.2):=Geo.sqp λz=>ne (Prod.ext (by omega) (by omega));have sm:((b.1 - a.1)*(b.1 - a.1)+(b.2 - a.2)*(b.2 - a.2))*t - ((x - a.1*t)*(b.1 - a.1)+(y - a.2*t)*(b.2 - a.2))+((x - a.1*t)*(b.1 - a.1)+(y - a.2*t)*(b.2 - a.2))=((b.1 - a.1)*(b.1 - a.1)+(b.2 - a.2)*(b.2 - a.2))*t:=by omega
 simp only[dot,stp] at k1 k2;simp only[Geo.ed] at e0;refine⟨by simp[ha,hb],nd,by simp,?_,?_,?_,?_,?_⟩
 ·intro z hz;simp only[List.mem_cons,List.not_mem_nil,or_false] at hz
  rcases hz with rfl | rfl
  ·show 0<=_ - _
   grind
  ·show 0<=_+_
   grind
 ·simp only[List.map_cons,List.map_nil,List.sum_cons,List.sum_nil,Int.add_zero];rw[sm];exact Int.mul_pos sq pos
 ·simp only[List.map_cons,List.map_nil,List.sum_cons,List.sum_nil,Int.add_zero];rw[sm];exact Bt.le (Bt.mul (Bt.add (Bt.mul vo.1 vo.1) (Bt.mul vo.2 vo.2)) pc.bt)
 ·simp only[List.map_cons,List.map_nil,List.sum_cons,List.sum_nil,Int.add_zero];rw[sm]
  grind
 ·simp only[List.map_cons,List.map_nil,List.sum_cons,List.sum_nil,Int.add_zero];rw[sm]
  grind
def zdV {S:P->Prop}{l h:List P}{x y t:Int}{k:Nat}(pc:Pc x y t)(hh:Geo.z1W S h)(hm:∀p∈h,p∈l)(hb:Wb 600 h)(F:Fan h x y t k):
  Prt l x y t [(Geo.cy h 0,Geo.ed (Geo.cy h k) (Geo.cy h (k+1)) x y t),(Geo.cy h k,Geo.ed (Geo.cy h (k+1)) (Geo.cy h 0) x y t),(Geo.cy h (k+1),Geo.ed (Geo.cy h 0) (Geo.cy h k) x y t)]:=by
 obtain⟨k1,k2,fa,fb,fc⟩:=F;have hn:h≠[]:=List.ne_nil_of_length_pos (by omega);have tn:=Geo.zgl hh k1 k2;have n1:=Geo.zaH hh.nodup (i:=0) (j:=k) (by omega) (by omega) (by omega);have n2:=Geo.zaH hh.nodup (i:=0) (j:=k+1) (by omega) (by omega) (by omega);have n3:=Geo.zaH hh.nodup (i:=k) (j:=k+1) (by omega) (by omega) (by omega);have mm:∀j,Geo.cy h j∈l:=λj=>hm _ (List.mem_of_getElem? (Geo.z4f (List.length_pos_iff.mpr hn)));have m0:=mm 0;have m1:=mm k;have m2:=mm (k+1);have v0:=cyw hn hb 0;have v1:=cyw hn hb k;have v2:=cyw hn hb (k+1);generalize Geo.cy h 0=a at*;generalize Geo.cy h k=b at*;generalize Geo.cy h (k+1)=c at*;have pos:=pc.pos;have sm:Geo.ed b c x y t+(Geo.ed c a x y t+Geo.ed a b x y t)=Geo.cr b c a*t:=by simp only[Geo.ed,Geo.cr]; grind
 refine⟨by simp[m0,m1,m2],by simp[n1,n2,n3],by simp,?_,?_,?_,?_,?_⟩
 ·intro z hz;simp only[List.mem_cons,List.not_mem_nil,or_false] at hz
  rcases hz with rfl | rfl | rfl
  ·exact fa
  ·exact fb
  ·exact fc
 ·simp only[List.map_cons,List.map_nil,List.sum_cons,List.sum_nil,Int.add_zero];rw[sm];exact Int.mul_pos tn pos
 ·simp only[List.map_cons,List.map_nil,List.sum_cons,List.sum_nil,Int.add_zero];rw[sm];have d1:=z8W v1 v2;have d2:=z8W v1 v0;exact Bt.le (Bt.mul (Bt.sub (Bt.mul d1.1 d2.2) (Bt.mul d1.2 d2.1)) pc.bt)
 ·simp only[List.map_cons,List.map_nil,List.sum_cons,List.sum_nil,Int.add_zero];rw[sm];simp only[Geo.ed,Geo.cr]
  grind
 ·simp only[List.map_cons,List.map_nil,List.sum_cons,List.sum_nil,Int.add_zero];rw[sm];simp only[Geo.ed,Geo.cr]
  grind
def s_shares_to {l:List P}{x y t:Int}{Q:DK}{X:XP}(hn:l≠[])(hz:l.length<=62)(hb:Wb 600 l)(pc:Pc x y t)
  (q1:∀b,b≠(0,0)->Vb 700 b->(∀p∈l,dot p b*t<dot (x,y) b)->Q (brD b)) (q2:∀sh,Led l x y t sh->Q (swD sh)):z4L.run [vecs l,pcD x y t] Q X:=by
 walk_at "fn";ac_nf;refine s_least_headings (.inl rfl) hb.le (by omega) λh hhd =>?_;have hh:=hhd.is hn;have hl:=z3L hh.nodup hh.sub;have hbh:Wb 600 h:=λp hp=>hb p (hh.sub p hp);have hne:h≠[]:=by obtain⟨m,tl,em,_⟩:=hh.ex; rw[em]; simp
 have pos:=pc.pos;refine z3p (Safe.of_noL (z6x _) (z6y _) _) ?_;ac_rfl;ac_nf;refine zdL hh hbh (by omega) pc (λb b0 bb hbar =>?_) λw =>?_
 ·ac_nf;refine zj0 rfl ?_;ac_nf;exact q1 b b0 bb hbar
 ac_nf;refine zlj rfl ?_;ac_nf;rw[List.length_map];refine z2d (λz =>?_) (λz =>?_)
 ·obtain⟨a,b,rfl⟩:∃a b,h=[a,b]:=by
   match h,z with
   | [a,b],_=>exact⟨a,b,rfl⟩
  have va:=hbh a (by simp);have vb:=hbh b (by simp);ac_nf;refine zjm va vb pc ?_;ac_nf;refine t_no (by simp) ?_;ac_nf;refine zhC hz pc (zhU pc hh (hh.sub a (by simp)) (hh.sub b (by simp)) va vb w) λsh L =>?_;ac_nf;exact q2 sh L
 ac_nf;rw[List.length_map];refine z2d (λz3 =>?_) (λz3 =>?_)
 ·ac_nf;refine zfy hbh (by omega) (by omega) pc w λk F =>?_;refine z3p (Safe.of_noL (z6x _) (z6y _) _) ?_;ac_rfl;ac_nf;refine zjg (cyw hne hbh _) (cyw hne hbh _) (cyw hne hbh _) pc ?_;ac_nf;refine zhC hz pc (zdV pc hh hh.sub hbh F) λsh L =>?_;ac_nf;exact q2 sh L
 ·obtain⟨m,rfl⟩:∃m,h=[m]:=by
   match h,hne,z,z3 with
   | [m],_,_,_=>exact⟨m,rfl⟩
   | _::_::r,_,z,z3=>simp at z z3; omega
  ac_nf;refine zhC hz pc (zhV (hh.sub m (by simp)) w) λsh L =>?_;ac_nf;exact q2 sh L
def zfu {l:List P}{x y t:Int}{b:P}{Q:DK}{X:XP}(hn:l≠[])(hz:l.length<=62)(hb:Wb 600 l)(pc:Pc x y t)(vb:Vb 700 b)(q:Q (.bl (decide (∀p∈l,dot p b*t<dot (x,y) b)))):z1O.run [vecs l,pcD x y t,brD b] Q X:=by
 walk_at "fn";ac_nf;refine zem ?_;refine t_no (by decide +kernel) ?_;ac_nf;refine zem ?_;refine z9g rfl ?_;ac_nf;refine s_farthest ⟨vb.1.le,vb.2.le⟩ hb.le hn (szl' (by omega)) λm h1 h2 =>?_;refine zbO pc vb (zco hb vb h1) ?_;rw[decide_eq_decide.mpr (zdc pc.pos h1 h2)];exact q
def zft {l:List P}{x y t:Int}{sh:List Sh}{Q:DK}{X:XP}(hn:l≠[])(hz:l.length<=62)(hb:Wb 600 l)(pc:Pc x y t)(hs:Shs l.length sh)(one:Xq (λ_=>1) sh.reverse=Bq sh.reverse)
  (q:∀u v t',Pl (Xq (wx l) sh.reverse) (Xq (wy l) sh.reverse) (Bq sh.reverse) u v t'->Q (.bl (decide (u=x/\v=y/\t'=t)))):z1O.run [vecs l,pcD x y t,swD sh] Q X:=by
 have B0:0<Bq sh.reverse:=Bq.pos λs hs'=>(hs.each s (List.mem_reverse.mp hs')).1;walk_at "fn";ac_nf;refine zem ?_;refine z9g rfl ?_;ac_nf;refine s_are_shares hs ?_;ac_nf;refine s_shares_sum hz hs λu w pl =>?_;obtain⟨rfl,rfl⟩:=(zko B0 pl).mpr one;ac_nf;refine zik (l:=[.int 1,.int 1]) (r:=[.int 1,.int 1]) (Da.vec (1,1)) (Da.vec (1,1)) ?_;refine zj0 (by rw[show deq (.tup [.int 1,.int 1]) (.tup [.int 1,.int 1])=decide (((1:Int),(1:Int))=((1:Int),(1:Int))) from z8m (1,1) (1,1)]; rfl) ?_;ac_nf;refine s_shares_end hn hz hb hs λu v t' pl =>?_;ac_nf;refine zik (l:=[.int u,.int v,.int t']) (r:=[.int x,.int y,.int t]) (Da3 u v t') (Da3 x y t) ?_;rw[show deq (.tup [.int u,.int v,.int t']) (.tup [.int x,.int y,.int t])=decide (u=x/\v=y/\t'=t) from deq3 u v t' x y t];exact q u v t' pl
def zh9 {l:List P}{x y t:Int}{sh:List Sh}{b:P}(hn:l≠[])(hs:Shs l.length sh)(one:Xq (λ_=>1) sh.reverse=Bq sh.reverse)(pl:Pl (Xq (wx l) sh.reverse) (Xq (wy l) sh.reverse) (Bq sh.reverse) x y t):¬ ∀p∈l,dot p b*t<dot (x,y) b:=λhbar=>by
 have sg:∀s∈sh.reverse,Sg s:=λs hs'=>(hs.each s (List.mem_reverse.mp hs')).1;obtain⟨p,hp,hmax⟩:=Geo.zh6 b l hn;have hf:∀k,wx l k*b.1+wy l k*b.2<=Geo.sc p b:=λk=>hmax _ (List.mem_of_getElem? (Geo.z4f (i:=k) (List.length_pos_iff.mpr hn)));have h1:=ziL hf sg;rw[zgz,one] at h1;have hB:=Bq.pos sg;have e1:=pl.cx;have e2:=pl.cy;have h2:=Int.mul_le_mul_of_nonneg_right h1 (Int.le_of_lt pl.pos);have h3:=Int.mul_lt_mul_of_pos_right (hbar p hp) hB;have e3:dot (x,y) b*Bq sh.reverse=(Xq (wx l) sh.reverse*b.1+Xq (wy l) sh.reverse*b.2)*t:=by
  simp only[dot];rw[Int.add_mul,Int.add_mul,Int.mul_right_comm,e1,Int.mul_right_comm y,e2,Int.mul_right_comm,Int.mul_right_comm (Xq (wy l) sh.reverse)]
 rw[e3,Int.mul_right_comm] at h3;have e4:Geo.sc p b=dot p b:=rfl;rw[e4] at h2;omega
end Pu
namespace Pu
open PySem PySem.Spec PyProof.Rows L2
def zcY (a b:D)(Q:DK):Prop:=match a,b with
 | .bl x,.bl y=>Q (.bl (!decide (x=y)))
 | _,_=>False
def zcX (a b:D)(Q Q':DK)(m:∀d,Q d->Q' d)(h:zcY a b Q):zcY a b Q':=by
 unfold zcY at h ⊢
 split at h
 ·exact m _ h
 ·exact h.elim
def z9u:Fn:=fn2 zcY zcX
section
variable {X:Cx}
def zan:OpR X (compareOp .IsNot) (r2 X.K X.mg z9u):=by
 intro pins s σ H x y v u Q I rx ry ⟨G,d1,d2,Q0,X0,g,r1,r2,hr,hk⟩;have hr':zcY d1 d2 Q0:=hr;unfold zcY at hr'
 split at hr'
 ·rename_i b c
  cases z9o r1
  cases z9o r2
  cases rx
  cases ry
  refine wpAny_isNot_plain rfl ⟨.bl _,H,I,rfl,hk.now g hr' ?_⟩;rw[show (Value.bool b == Value.bool c)=decide (b=c) by cases b <;> cases c <;> rfl];exact RD.bl'
 ·exact hr'.elim
end
def zh3 {x y:Bool}{Q:DK}{X:XP}(q:Q (.bl (!decide (x=y)))):z9u.run [.bl x,.bl y] Q X:=q
end Pu
namespace Pu
open PySem L2
def z1p:Fn:=Fn.mkN 2 6 (.seq (.own 2 (.comp 1 [1] (.nm 0) (.op z94 [(.c (.int 4))]) none (.op z0g [(.v 1),(.op pAdd [(.c (.int 160)),(.op z0u [(.c (.int 2)),(.v 0)])]),(.op pIx [(.op pLst [(.c (.int 1)),(.c (.int 5)),(.op pPow [(.c (.int 10)),(.c (.int 9))])]),(.op pMod [(.v 0),(.c (.int 3))])])])))
 (.seq (.forr [(.op pLen [(.v 0)])] (.nm 3) (.seq (.set 4 (.op pIx [(.v 0),(.v 3)]))
 (.seq (.set 5 (.op pIx [(.v 0),(.op pMod [(.op pAdd [(.v 3),(.c (.int 1))]),(.op pLen [(.v 0)])])]))
 (.seq (.app 2 (.op pTup [(.op pSub [(.op pIx [(.v 5),(.c (.int 1))]),(.op pIx [(.v 4),(.c (.int 1))])]),(.op pSub [(.op pIx [(.v 4),(.c (.int 0))]),(.op pIx [(.v 5),(.c (.int 0))])])]))
 (.app 2 (.op pTup [(.op pSub [(.op pIx [(.v 5),(.c (.int 0))]),(.op pIx [(.v 4),(.c (.int 0))])]),(.op pSub [(.op pIx [(.v 5),(.c (.int 1))]),(.op pIx [(.v 4),(.c (.int 1))])])]))))))
 (.ret (.comp 1 [] (.nm 0) (.v 2) (some (.op pNe [(.v 0),(.op pTup [(.c (.int 0)),(.c (.int 0))])])) (.v 0)))))
def z8l:Fn:=Fn.mkN 1 10 (.seq (.for_ [] (.tp [1,2]) (.op z13 [(.v 0)]) (.seq (.set 3 (.op z2b [(.v 1)]))
 (.forr [(.c (.int 3))] (.nm 4) (.seq (.set 5 (.op pAdd [(.v 2),(.op z0u [(.c (.int 7)),(.v 4)])]))
 (.seq (.set 6 (.op z1o [(.v 1),(.v 5)]))
 (.ifs (.op pEq [(.op pIx [(.op z4L [(.v 1),(.v 6)]),(.c (.int 0))]),(.c (.str "sailed"))]) (.for_ [] (.nm 7) (.op z1p [(.v 3),(.v 5)]) (.ifs (.op z9u [(.op z1O [(.v 1),(.v 6),(.op pTup [(.c (.str "barred")),(.v 7)])]),(.c (.bl false))]) (.ret (.c (.bl false))) .skip)) (.forr [(.c (.int 3))] (.nm 8) (.seq (.set 9 (.op z0t [(.v 1),(.op pAdd [(.v 5),(.v 8)]),(.op z4C [(.op pLen [(.v 1)])])]))
 (.seq (.ifs (.op pEq [(.op z0T [(.v 1),(.v 9)]),(.v 6)]) (.ret (.c (.bl false))) .skip)
 (.ifs (.op z9u [(.op z1O [(.v 1),(.v 6),(.op pTup [(.c (.str "sailed")),(.v 9)])]),(.c (.bl false))]) (.ret (.c (.bl false))) .skip))))))))))
 (.ret (.c (.bl true))))
end Pu
namespace Pu
open PySem L2 Mth
def zcI {h:List P}{c:Int}{Q:DK}{X:XP}(hne:h≠[])(hz:h.length<=62)(hb:Wb 600 h)(q:∀bs:List P,(∀b∈bs,Vb 700 b)->bs.length<=1000->Q (.lst (bs.map vec))):z1p.run [vecs h,.int c] Q X:=by
 have hp:=List.length_pos_iff.mpr hne;walk_at "fn";ac_nf;refine zc8 (by omega) (by omega) ?_;ac_nf;refine⟨by rw[List.length_map,List.length_range]; exact szl' (by decide),?_⟩;refine z8r (f:=λ(j:Nat)=>D.int (j:Int)) (g:=vec) (P:=λ_ p=>Vb 700 p) (λj hj K hK =>?_) λys yl hy =>?_
 ·have hj:j<4:=List.mem_range.mp hj;have bj:Bt 10 (j:Int):=z0r (by omega);ac_nf;refine menu (ns:=[1,5,10 ^ 9]) (by omega) (by show (j:Int) % 3<3; omega) λm hm =>?_;have hm':0<=m/\m<=1000000000:=by
   simp only[List.mem_cons,List.not_mem_nil,or_false] at hm;omega
  clear hm;refine z5q (by omega) (by omega) hm'.1 hm'.2 λb hb =>?_;have:=hb.vb (n:=30) (by omega);exact hK b ⟨this.1.le,this.2.le⟩
 have hy:∀b∈ys,Vb 700 b:=λb hb=>by
  obtain⟨_,_,h⟩:=hy b hb;exact h
 have yl:ys.length=4:=by rw[yl,List.length_range]; rfl
 refine z3H (λx hx =>?_) ?_
 ·obtain⟨y,_,rfl⟩:=List.mem_map.mp hx;exact Safe.of_noL rfl rfl _
 ac_rfl;ac_nf;rw[List.length_map];refine zbS (by omega) (by omega) ?_;rw[show ((h.length:Nat):Int).toNat=h.length by simp];refine z1D (f:=λ(j:Nat)=>D.int (j:Int)) (λdn ρ=>∃(bs:List P) (x3 x4 x5:B),(∀b∈bs,Vb 700 b)/\bs.length<=4+2*dn.length/\ρ=[.s (vecs h),.s (.int c),.o (.lst (bs.map vec)),x3,x4,x5]) ⟨ys,_,_,_,hy,by omega,rfl⟩ ?_ ?_
 ·rintro dn k r ρ e ⟨bs,x3,x4,x5,hbs,hlen,rfl⟩;have le:=congrArg List.length e;rw[List.length_range,List.length_append,List.length_cons] at le;have hk:k<h.length:=List.mem_range.mp (by rw[e]; simp);have hj:(k+1) % h.length<h.length:=Nat.mod_lt _ (by omega);have ea:h[k]? = some h[k]:=List.getElem?_eq_getElem hk;have eb:h[(k+1) % h.length]? = some (h[(k+1) % h.length]'hj):=List.getElem?_eq_getElem hj;have va:=hb _ (List.getElem_mem hk);have vc:=hb _ (List.getElem_mem hj);generalize h[k]=a at*;generalize h[(k+1) % h.length]'hj=d at*;show Sm.run _ _ _ _ _;ac_rfl;ac_nf;refine z2v (z1a (x:=a) (by rw[zfb hk,ea])) ?_;ac_nf;rw[List.length_map];refine z7T (by omega) ?_;rw[show ((k:Int)+1) % (h.length:Int)=(((k+1) % h.length:Nat):Int) by simp];ac_nf;refine z2v (z1a (x:=d) (by rw[zfb hj,eb])) ?_;ac_nf;refine z9m (l:=[]) (z1Q rfl ?_);ac_nf;refine⟨by rw[List.length_map]; exact szl' (by omega),Safe.of_noL rfl rfl _,?_⟩;ac_rfl;refine z9m (l:=[]) (z1Q rfl ?_);ac_nf;refine⟨by rw[List.length_append,List.length_map,List.length_singleton]; exact szl' (by omega),Safe.of_noL rfl rfl _,?_⟩;ac_rfl;refine⟨bs++[(d.2 - a.2,a.1 - d.1),(d.1 - a.1,d.2 - a.2)],_,_,_,λb hb' =>?_,by simp; omega,by rw[List.map_append,List.append_assoc]; rfl⟩
  rcases List.mem_append.mp hb' with hb' | hb'
  ·exact hbs b hb'
  ·simp only[List.mem_cons,List.not_mem_nil,or_false] at hb'
   rcases hb' with rfl | rfl
   ·exact⟨Bt.le (Bt.sub vc.2 va.2),Bt.le (Bt.sub va.1 vc.1)⟩
   ·exact⟨Bt.le (Bt.sub vc.1 va.1),Bt.le (Bt.sub vc.2 va.2)⟩
 rintro ρ ⟨bs,x3,x4,x5,hbs,hlen,rfl⟩;rw[List.length_range] at hlen;ac_nf;refine⟨by rw[List.length_map]; exact szl' (by omega),?_⟩;refine z3h (f:=vec) (p:=λb:P => !decide (b=(0,0))) (g:=vec) (λb hb' K k1 k2 =>?_) ?_
 ·ac_nf;refine zm1 (l:=[.int b.1,.int b.2]) (r:=[.int 0,.int 0]) (Da.vec b) (Da.vec (0,0)) ?_;rw[show deq (.tup [.int b.1,.int b.2]) (.tup [.int 0,.int 0])=decide (b=((0:Int),(0:Int))) from z8m b (0,0)];refine zb6 (z2d (λz =>?_) (λz =>?_))
  ·exact k2 (by rw[decide_eq_true z]; rfl)
  ·ac_nf;exact k1 (by rw[decide_eq_false z]; rfl)
 exact q _ (λb hb'=>hbs b (List.mem_filter.mp hb').1) (Nat.le_trans (List.length_filter_le _ _) (by omega))
def zir (ns:List Int)(h:ns.length<=63):z8l.run [.lst (ns.map .int)] (λd=>d = .bl true) (λ_=>False):=by
 walk_at "fn";ac_nf;refine zhy h λps hps =>?_;ac_nf;refine z1D (f:=prD) (λdn ρ=>∃x1 x2 x3 x4 x5 x6 x7 x8 x9:B,ρ=[.s (.lst (ns.map .int)),x1,x2,x3,x4,x5,x6,x7,x8,x9]) ⟨_,_,_,_,_,_,_,_,_,rfl⟩ ?_ ?_
 ·rintro dn x r ρ e ⟨x1,x2,x3,x4,x5,x6,x7,x8,x9,rfl⟩;obtain⟨hb,hn,hz⟩:=hps x (by rw[e]; simp);obtain⟨l,c⟩:=x;dsimp only at hb hn hz;have hp:=List.length_pos_iff.mpr hn;refine⟨rfl,?_⟩;show Sm.run _ _ _ _ _;unfold z0w z0w z0w;ac_rfl;ac_nf;refine zhz (.inl rfl) hb.le hn (by omega) λh hhd =>?_;have hh:=hhd.is hn;have hlen:=z3L hh.nodup hh.sub;have hne:h≠[]:=by obtain⟨m,tl,em,_⟩:=hh.ex; rw[em]; simp
  refine z3p (Safe.of_noL (z6x _) (z6y _) _) ?_;ac_rfl;ac_nf;refine zbS (by omega) (by omega) ?_;refine z1D (f:=λ(j:Nat)=>D.int (j:Int)) (λdn ρ=>∃x4 x5 x6 x7 x8 x9:B,ρ=[.s (.lst (ns.map .int)),.s (vecs l),.s (.int c),.s (vecs h),x4,x5,x6,x7,x8,x9]) ⟨_,_,_,_,_,_,rfl⟩ ?_ ?_
  ·rintro dn k r ρ e ⟨x4,x5,x6,x7,x8,x9,rfl⟩;have hk:k<3:=List.mem_range.mp (by
    have:k∈List.range (Int.toNat 3):=by rw[e]; simp
    exact this)
   have bk:Bt 10 (k:Int):=z0r (by omega);show Sm.run _ _ _ _ _;ac_rfl;ac_nf;refine zcG hn hz hb λx y t pc =>?_;ac_nf;refine s_shares_to hn hz hb pc (λb b0 vb hbar =>?_) λsh L =>?_
   ·ac_nf;refine zem ?_;refine t_no (by decide +kernel) ?_;ac_nf;refine zbS (by omega) (by omega) ?_;refine z1D (f:=λ(j:Nat)=>D.int (j:Int)) (λdn ρ=>∃x4 x7 x8 x9:B,ρ=[.s (.lst (ns.map .int)),.s (vecs l),.s (.int c),.s (vecs h),x4,.s (.int (c+7*(k:Int))),.s (pcD x y t),x7,x8,x9]) ⟨_,_,_,_,rfl⟩ ?_ ?_
    ·rintro dn j r ρ e ⟨x4,x7,x8,x9,rfl⟩;show Sm.run _ _ _ _ _;ac_rfl;ac_nf;rw[List.length_map];refine⟨by omega,by omega,?_⟩;rw[show ((l.length:Nat):Int).toNat=l.length by simp];refine z63 (ks:=List.range l.length) (List.ne_nil_of_length_pos (by rw[List.length_range]; exact hp)) (λk hk=>List.mem_range.mp hk) (by simp; omega) hz λsh hsh hD h0 =>?_;refine z3p (Safe.of_noL (zim _) (zin _) _) ?_;ac_rfl;ac_nf;have ne:∀u v t',Pl (Xq (wx l) sh.reverse) (Xq (wy l) sh.reverse) (Bq sh.reverse) u v t'->¬ (u=x/\v=y/\t'=t):=λu v t' pl z=>by
      obtain⟨rfl,rfl,rfl⟩:=z;exact zh9 (b:=b) hn hsh hD.one pl hbar
     refine s_law_end hn hz hb hsh λu v t' pl =>?_;ac_nf;refine zik (l:=[.int u,.int v,.int t']) (r:=[.int x,.int y,.int t]) (Da3 u v t') (Da3 x y t) ?_;rw[show deq (.tup [.int u,.int v,.int t']) (.tup [.int x,.int y,.int t])=decide (u=x/\v=y/\t'=t) from deq3 u v t' x y t];refine t_no (ne u v t' pl) ?_;ac_nf;refine zft hn hz hb pc hsh hD.one λu v t' pl =>?_;rw[decide_eq_false (ne u v t' pl)];ac_nf;refine zh3 ?_;refine zb6 (z9g rfl ?_);ac_nf;exact⟨_,_,_,_,rfl⟩
    ·rintro ρ ⟨x4,x7,x8,x9,rfl⟩;exact⟨_,_,_,_,_,_,rfl⟩
   ·ac_nf;refine zem ?_;refine z9g rfl ?_;ac_nf;refine zcI hne (by omega) (λp hp=>hb p (hh.sub p hp)) λbs hbs bl =>?_;ac_nf;refine z1D (f:=vec) (λdn ρ=>∃x4 x5 x7 x8 x9:B,ρ=[.s (.lst (ns.map .int)),.s (vecs l),.s (.int c),.s (vecs h),x4,x5,.s (pcD x y t),x7,x8,x9]) ⟨_,_,_,_,_,rfl⟩ ?_ ?_
    ·rintro dn b r ρ e ⟨x4,x5,x7,x8,x9,rfl⟩;have vb:=hbs b (by rw[e]; simp);show Sm.run _ _ _ _ _;ac_rfl;ac_nf;refine zfu hn hz hb pc vb ?_;rw[decide_eq_false (zh9 hn L.shs L.one L.pl)];ac_nf;refine zh3 ?_;refine zb6 (z9g rfl ?_);ac_nf;exact⟨_,_,_,_,_,rfl⟩
    ·rintro ρ ⟨x4,x5,x7,x8,x9,rfl⟩;exact⟨_,_,_,_,_,_,rfl⟩
  ·rintro ρ ⟨x4,x5,x6,x7,x8,x9,rfl⟩;exact⟨_,_,_,_,_,_,_,_,_,rfl⟩
 rintro ρ ⟨x1,x2,x3,x4,x5,x6,x7,x8,x9,rfl⟩;ac_nf
 rfl
end Pu
namespace Pu
open PySem PySem.Spec PyProof.Rows L2
def Std (K:W.Frag)(n:Str)(st:Stmt)(f:Addr):Prop:=∃(oc:Value) (od:Option Addr) (sl:Array (Option Value)) (kV dc pm:Value) (an:Option Addr) (cd ct:Value),
 PySem.W.nsIn K mainGlobals n=some (some (.ref f))/\K.lookup f=some ⟨oc,od,.func (PySem.W.fnOf n n (z5n st) (z3W st) (z01 st) .none kV dc pm an cd ct),sl⟩/\PySem.W.codeIn K cd n=true/\PySem.W.keepIn K (.ref f)=true
def Std.mk {K:W.Frag}{n:Str}{st:Stmt}{f:Addr}{oc:Value}{od:Option Addr}{sl:Array (Option Value)}{kV dc pm:Value}{an:Option Addr}{cd ct:Value}(a:PySem.W.nsIn K mainGlobals n=some (some (.ref f)))(l:K.lookup f=some ⟨oc,od,.func (PySem.W.fnOf n n (z5n st) (z3W st) (z01 st) .none kV dc pm an cd ct),sl⟩)(c:PySem.W.codeIn K cd n=true)(k:PySem.W.keepIn K (.ref f)=true):Std K n st f:=⟨oc,od,sl,kV,dc,pm,an,cd,ct,a,l,c,k⟩
section
variable {P:Program}{w:World}{K:W.Frag}{mg:Str->Option Value}{h base:Heap}{CX:CXT}{k:Nat}{n:Str}{st:Stmt}{f fa:Addr}{ps:List Str}{sp:Sp}
def z0q (X:K.In h)(G:h.Ns mainGlobals mg)(d:Std K n st f)
  (hb:∀(kV dc pm:Value) (an:Option Addr) (cd ct:Value) (us:List Value),us.length=ps.length->bindArgs (PySem.W.fnOf n n (z5n st) (z3W st) (z01 st) .none kV dc pm an cd ct) ⟨us,[]⟩=pure (ps.zip us))
  (ok:∀fd,Fun K n n st f fd->FnOk P w K mg base CX k f fd ps sp):Cal P w K mg base CX k n ps sp:=by
 obtain⟨oc,od,sl,kV,dc,pm,an,cd,ct,a,l,c,kk⟩:=d;have F:=zhc (st:=st) l c kk;exact⟨_,_,ok _ F,PySem.W.mg_of X G a,kk,F.binds (ps:=ps) hb⟩
def ziY {x:Str}(X:K.In h)(G:h.Ns mainGlobals mg)(d:Std K n st f)(hfa:mg n=some (.ref fa))
  (hb:∀(kV dc pm:Value) (an:Option Addr) (cd ct:Value) (s:Shared) (v:Value),BindsTo s (PySem.W.fnOf n n (z5n st) (z3W st) (z01 st) .none kV dc pm an cd ct) ⟨[v],[]⟩ [(x,v)])
  (ok:∀base:Heap,K.In base->base.Ns mainGlobals mg->∀fd,Fun K n n st fa fd->FnOk P w K mg base CX k fa fd [x] sp):
  ∃fd:FuncData,(∀(s:Shared) (v:Value),BindsTo s fd ⟨[v],[]⟩ [(x,v)])/\∀base:Heap,K.In base->base.Ns mainGlobals mg->FnOk P w K mg base CX k fa fd [x] sp:=by
 obtain⟨oc,od,sl,kV,dc,pm,an,cd,ct,a,l,c,kk⟩:=d
 cases hfa.symm.trans (PySem.W.mg_of X G a)
 exact⟨_,λs v=>hb kV dc pm an cd ct s v,λbase kb nb=>ok base kb nb _ (zhc (st:=st) l c kk)⟩
end
end Pu
namespace My
open PySem L2 Pu
def top (i:Nat):Stmt:=PySem.Challenge.pw_closehaul_k22_whole_never_both.main.body.getD i (.Pass ⟨0,0,0,0⟩)
def zbC:(("EVERY_WAY":Str) == ("__debug__":Str))=false:=by decide
def zgm:(("sorted":Str) == ("__debug__":Str))=false:=by decide
def zeV:(("step_of":Str) == ("__debug__":Str))=false:=by decide
def zeU:(("turn_by":Str) == ("__debug__":Str))=false:=by decide
def zf8:bootBuiltins "abs"=some (.builtin "abs"):=by rfl
def zl9:bootBuiltins "int"=some (.type "int"):=by rfl
def z3B:bootBuiltins "len"=some (.builtin "len"):=by rfl
def zl8:bootBuiltins "max"=some (.builtin "max"):=by rfl
def zl7:bootBuiltins "min"=some (.builtin "min"):=by rfl
def zgv:bootBuiltins "sorted"=some (.builtin "sorted"):=by rfl
def zg7:("sorted":Str)≠"__name__":=by decide
def zf7:bootBuiltins "sum"=some (.builtin "sum"):=by rfl
def z4t:bootBuiltins "tuple"=some (.type "tuple"):=by rfl
structure Txt (K:W.Frag)(mg:Str->Option Value):Prop where
 triv:True
 n_abs:mg "abs"=none
 n_int:mg "int"=none
 n_len:mg "len"=none
 n_list:mg "list"=none
 n_max:mg "max"=none
 n_min:mg "min"=none
 n_range:mg "range"=none
 n_reversed:mg "reversed"=none
 n_set:mg "set"=none
 n_sorted:mg "sorted"=none
 n_sum:mg "sum"=none
 n_tuple:mg "tuple"=none
 n_zip:mg "zip"=none
 g_EVERY_WAY:zle K mg "EVERY_WAY" z66
local macro_rules | `(tactic| rfl') => `(tactic| first | exact⟨.inl rfl,by decide,by decide⟩ | exact⟨.inr rfl,by decide,by decide⟩ | exact⟨rfl,rfl,rfl,by decide +kernel,rfl,by decide +kernel,by decide +kernel⟩)
local macro_rules | `(tactic| walk_at "c1") => `(tactic| exact λ_ _ _ _ _ _ us hl=>match us,hl with | [_],_=>rfl)
local macro_rules | `(tactic| walk_at "c2") => `(tactic| exact λ_ _ _ _ _ _ us hl=>match us,hl with | [_,_],_=>rfl)
local macro_rules | `(tactic| walk_at "c3") => `(tactic| exact λ_ _ _ _ _ _ us hl=>match us,hl with | [_,_,_],_=>rfl)
abbrev Cl (P:Program)(w:World)(K:W.Frag)(mg:Str->Option Value)(base:Heap)(n:Nat)(x:Str)(ps:List Str)(F:Fn):Prop:=Cal P w K mg base (CXe P w) n x ps (spP K mg F)
abbrev Fk (P:Program)(w:World)(K:W.Frag)(mg:Str->Option Value)(base:Heap)(n:Nat)(f:Addr)(fd:FuncData)(ps:List Str)(F:Fn):Prop:=FnOk P w K mg base (CXe P w) n f fd ps (spP K mg F)
abbrev Nd (l:List Str):Prop:=l.Nodup
abbrev z2B:Stmt:=top 40
def z8B:z0c ["script","k"] ["script","k"] (z01 z2B):=by rfl'
def z5j:Nm (z01 z2B) "script":=by rfl'
def z5i:Nm (z01 z2B) "k":=by rfl'
abbrev z2t:Stmt:=top 43
def z6n:z0c ["cell","far","wide"] ["cell","far"] (z01 z2t):=by rfl'
def z5V:Nm (z01 z2t) "cell":=by rfl'
def z4q:Nm (z01 z2t) "far":=by rfl'
def z36:Nm (z01 z2t) "wide":=by rfl'
abbrev z0B:Stmt:=top 47
def z11:z0c ["cells","far","pairs","at","size","rows"] ["cells","far"] (z01 z0B):=by rfl'
def z1h:Nm (z01 z0B) "cells":=by rfl'
def z2R:Nm (z01 z0B) "pairs":=by rfl'
def z0p:Nm (z01 z0B) "at":=by rfl'
def z2Q:Nm (z01 z0B) "size":=by rfl'
def z48:Nm (z01 z0B) "rows":=by rfl'
abbrev z3I:Stmt:=top 41
def z6V:z0c ["cell","k","prime","number"] ["cell","k"] (z01 z3I):=by rfl'
def zbw:Nm (z01 z3I) "cell":=by rfl'
def zbv:Nm (z01 z3I) "k":=by rfl'
def z3U:Nm (z01 z3I) "prime":=by rfl'
def z6b:Nm (z01 z3I) "number":=by rfl'
abbrev z1Y:Stmt:=top 42
def z6l:z0c ["cell","k","most","east"] ["cell","k","most"] (z01 z1Y):=by rfl'
def z5S:Nm (z01 z1Y) "cell":=by rfl'
def z5R:Nm (z01 z1Y) "k":=by rfl'
def z35:Nm (z01 z1Y) "most":=by rfl'
def z5Q:Nm (z01 z1Y) "east":=by rfl'
abbrev z40:Stmt:=top 44
def z9k:z0c ["number"] ["number"] (z01 z40):=by rfl'
def z8O:Nm (z01 z40) "number":=by rfl'
abbrev z1b:Stmt:=top 45
def z1m:z0c ["cells","most","first","step","way","rows","cell","heading","turn"] ["cells","most"] (z01 z1b):=by rfl'
def z46:Nm (z01 z1b) "cells":=by rfl'
def z7h:Nm (z01 z1b) "most":=by rfl'
def z45:Nm (z01 z1b) "first":=by rfl'
def z5c:Nm (z01 z1b) "step":=by rfl'
def z5b:Nm (z01 z1b) "way":=by rfl'
def z5a:Nm (z01 z1b) "rows":=by rfl'
def z59:Nm (z01 z1b) "cell":=by rfl'
def z44:Nm (z01 z1b) "heading":=by rfl'
def z58:Nm (z01 z1b) "turn":=by rfl'
abbrev z2A:Stmt:=top 46
def z8A:z0c ["wind"] ["wind"] (z01 z2A):=by rfl'
def z88:Nm (z01 z2A) "wind":=by rfl'
abbrev z14:Stmt:=top 48
def z10:z0c ["script","head","cells","most","pairs","at","size"] ["script"] (z01 z14):=by rfl'
def z4I:Nm (z01 z14) "script":=by rfl'
def z3w:Nm (z01 z14) "head":=by rfl'
def z0K:Nm (z01 z14) "cells":=by rfl'
def z4H:Nm (z01 z14) "most":=by rfl'
def z28:Nm (z01 z14) "pairs":=by rfl'
def z0Z:Nm (z01 z14) "at":=by rfl'
def z4G:Nm (z01 z14) "size":=by rfl'
abbrev z2r:Stmt:=top 49
def z61:z0c ["one","two","three","first","second"] ["one","two","three"] (z01 z2r):=by rfl'
def z47:Nm (z01 z2r) "one":=by rfl'
def z7j:Nm (z01 z2r) "two":=by rfl'
def z7i:Nm (z01 z2r) "three":=by rfl'
def z5e:Nm (z01 z2r) "first":=by rfl'
def z5d:Nm (z01 z2r) "second":=by rfl'
abbrev z1c:Stmt:=top 50
def z2V:z0c ["points","row","point"] ["points"] (z01 z1c):=by rfl'
def z6E:Nm (z01 z1c) "points":=by rfl'
def z0L:Nm (z01 z1c) "row":=by rfl'
def z2P:Nm (z01 z1c) "point":=by rfl'
abbrev z3J:Stmt:=top 51
def z7c:z0c ["points","rows"] ["points"] (z01 z3J):=by rfl'
def z9P:Nm (z01 z3J) "points":=by rfl'
def z2O:Nm (z01 z3J) "rows":=by rfl'
abbrev z3a:Stmt:=top 52
def z6o:z0c ["one","other"] ["one","other"] (z01 z3a):=by rfl'
def z5W:Nm (z01 z3a) "one":=by rfl'
def z4r:Nm (z01 z3a) "other":=by rfl'
abbrev z1y:Stmt:=top 54
def z5F:z0c ["east","north","bottom","part"] ["east","north","bottom"] (z01 z1y):=by rfl'
def z5h:Nm (z01 z1y) "east":=by rfl'
def z5g:Nm (z01 z1y) "north":=by rfl'
def z5f:Nm (z01 z1y) "bottom":=by rfl'
def z2N:Nm (z01 z1y) "part":=by rfl'
abbrev s_law_end:Stmt:=top 55
def z2W:z0c ["wind","shares","bottom","heading","share","east","north"] ["wind","shares"] (z01 s_law_end):=by rfl'
def z6c:Nm (z01 s_law_end) "shares":=by rfl'
def z4J:Nm (z01 s_law_end) "bottom":=by rfl'
def zbx:Nm (z01 s_law_end) "heading":=by rfl'
def z8b:Nm (z01 s_law_end) "share":=by rfl'
def z8a:Nm (z01 s_law_end) "east":=by rfl'
def z89:Nm (z01 s_law_end) "north":=by rfl'
abbrev z2s:Stmt:=top 53
def z6m:z0c ["top","bottom","part"] ["top","bottom"] (z01 z2s):=by rfl'
def z5U:Nm (z01 z2s) "top":=by rfl'
def z5T:Nm (z01 z2s) "bottom":=by rfl'
def z4p:Nm (z01 z2s) "part":=by rfl'
abbrev z0s:Stmt:=top 57
def z1H:z0c ["wind","cell","some","weights","rest","k"] ["wind","cell","some"] (z01 z0s):=by rfl'
def z4y:Nm (z01 z0s) "wind":=by rfl'
def z1t:Nm (z01 z0s) "cell":=by rfl'
def z30:Nm (z01 z0s) "some":=by rfl'
def z1s:Nm (z01 z0s) "weights":=by rfl'
def z27:Nm (z01 z0s) "rest":=by rfl'
def z26:Nm (z01 z0s) "k":=by rfl'
abbrev z0k:Stmt:=top 58
def z0i:z0c ["wind","cell","way","one","east","north","bottom","pair","far","beside","more"] ["wind","cell"] (z01 z0k):=by rfl'
def z0D:Nm (z01 z0k) "wind":=by rfl'
def z0f:Nm (z01 z0k) "cell":=by rfl'
def z0X:Nm (z01 z0k) "way":=by rfl'
def z0C:Nm (z01 z0k) "one":=by rfl'
def z3m:Nm (z01 z0k) "east":=by rfl'
def z3l:Nm (z01 z0k) "north":=by rfl'
def z0W:Nm (z01 z0k) "bottom":=by rfl'
def z4T:Nm (z01 z0k) "pair":=by rfl'
def z0O:Nm (z01 z0k) "far":=by rfl'
def z3k:Nm (z01 z0k) "beside":=by rfl'
def z0v:Nm (z01 z0k) "more":=by rfl'
abbrev z0H:Stmt:=top 59
def z1X:z0c ["corners","cell","found","k","one","two"] ["corners","cell"] (z01 z0H):=by rfl'
def z2k:Nm (z01 z0H) "corners":=by rfl'
def z3o:Nm (z01 z0H) "found":=by rfl'
def z3n:Nm (z01 z0H) "k":=by rfl'
def z1L:Nm (z01 z0H) "one":=by rfl'
def z1K:Nm (z01 z0H) "two":=by rfl'
abbrev s_turn_of:Stmt:=top 2
def zcD:z0c ["one","other"] ["one","other"] (z01 s_turn_of):=by rfl'
def z83:Nm (z01 s_turn_of) "one":=by rfl'
def z82:Nm (z01 s_turn_of) "other":=by rfl'
abbrev s_step_of:Stmt:=top 4
def zcF:z0c ["start","end"] ["start","end"] (z01 s_step_of):=by rfl'
def z86:Nm (z01 s_step_of) "start":=by rfl'
def z85:Nm (z01 s_step_of) "end":=by rfl'
abbrev s_turn_by:Stmt:=top 7
def zcE:z0c ["start","middle","end"] ["start","middle","end"] (z01 s_turn_by):=by rfl'
def zbu:Nm (z01 s_turn_by) "start":=by rfl'
def z84:Nm (z01 s_turn_by) "middle":=by rfl'
def zbt:Nm (z01 s_turn_by) "end":=by rfl'
abbrev s_chain_of:Stmt:=top 8
def z62:z0c ["spots","turn","kept","spot"] ["spots","turn"] (z01 s_chain_of):=by rfl'
def zaA:Nm (z01 s_chain_of) "spots":=by rfl'
def zaz:Nm (z01 s_chain_of) "turn":=by rfl'
def z20:Nm (z01 s_chain_of) "kept":=by rfl'
def z5k:Nm (z01 s_chain_of) "spot":=by rfl'
abbrev s_least_round:Stmt:=top 9
def z4h:z0c ["rising","turn","there","back"] ["rising","turn"] (z01 s_least_round):=by rfl'
def z2M:Nm (z01 s_least_round) "rising":=by rfl'
def z57:Nm (z01 s_least_round) "turn":=by rfl'
def z56:Nm (z01 s_least_round) "there":=by rfl'
def z55:Nm (z01 s_least_round) "back":=by rfl'
abbrev s_least_headings:Stmt:=top 10
def z6U:z0c ["wind"] ["wind"] (z01 s_least_headings):=by rfl'
def z6D:Nm (z01 s_least_headings) "wind":=by rfl'
abbrev s_right_of:Stmt:=top 5
def zb9:z0c ["step"] ["step"] (z01 s_right_of):=by rfl'
def z7g:Nm (z01 s_right_of) "step":=by rfl'
abbrev s_bearings_round:Stmt:=top 11
def z1q:z0c ["corners","step_between","found","number","corner","step"] ["corners","step_between"] (z01 s_bearings_round):=by rfl'
def z1j:Nm (z01 s_bearings_round) "corners":=by rfl'
def z6H:Nm (z01 s_bearings_round) "step_between":=by rfl'
def z1T:Nm (z01 s_bearings_round) "found":=by rfl'
def z2T:Nm (z01 s_bearings_round) "number":=by rfl'
def z1S:Nm (z01 s_bearings_round) "corner":=by rfl'
def z2S:Nm (z01 s_bearings_round) "step":=by rfl'
abbrev s_dot_of:Stmt:=top 3
def zdI:z0c ["one","other"] ["one","other"] (z01 s_dot_of):=by rfl'
def z9a:Nm (z01 s_dot_of) "one":=by rfl'
def z99:Nm (z01 s_dot_of) "other":=by rfl'
abbrev s_sides_of:Stmt:=top 12
def z7I:z0c ["wind","sides"] ["wind"] (z01 s_sides_of):=by rfl'
def zax:Nm (z01 s_sides_of) "wind":=by rfl'
def z7f:Nm (z01 s_sides_of) "sides":=by rfl'
abbrev z24:Stmt:=top 30
def z8z:z0c ["place","bearing","most"] ["place","bearing","most"] (z01 z24):=by rfl'
def z3T:Nm (z01 z24) "place":=by rfl'
def z54:Nm (z01 z24) "bearing":=by rfl'
def z87:Nm (z01 z24) "most":=by rfl'
abbrev z0R:Stmt:=top 31
def z2y:z0c ["headings","place","bearing","most"] ["headings","place"] (z01 z0R):=by rfl'
def z6e:Nm (z01 z0R) "headings":=by rfl'
def z6d:Nm (z01 z0R) "place":=by rfl'
def z2o:Nm (z01 z0R) "bearing":=by rfl'
def z3V:Nm (z01 z0R) "most":=by rfl'
abbrev s_way_to:Stmt:=top 32
def zdH:z0c ["vector","place"] ["vector","place"] (z01 s_way_to):=by rfl'
def z97:Nm (z01 s_way_to) "vector":=by rfl'
def z5t:Nm (z01 s_way_to) "place":=by rfl'
abbrev z1w:Stmt:=top 33
def z3s:z0c ["corners","place","step","whole","second"] ["corners","place"] (z01 z1w):=by rfl'
def z4o:Nm (z01 z1w) "corners":=by rfl'
def z5P:Nm (z01 z1w) "place":=by rfl'
def z34:Nm (z01 z1w) "step":=by rfl'
def z5O:Nm (z01 z1w) "whole":=by rfl'
def z4n:Nm (z01 z1w) "second":=by rfl'
abbrev z0m:Stmt:=top 34
def z0P:z0c ["corners","place","one","other","way","whole","second","third"] ["corners","place"] (z01 z0m):=by rfl'
def z1g:Nm (z01 z0m) "corners":=by rfl'
def z43:Nm (z01 z0m) "place":=by rfl'
def z2G:Nm (z01 z0m) "one":=by rfl'
def z2F:Nm (z01 z0m) "other":=by rfl'
def z2E:Nm (z01 z0m) "way":=by rfl'
def z42:Nm (z01 z0m) "whole":=by rfl'
def z2D:Nm (z01 z0m) "second":=by rfl'
def z2C:Nm (z01 z0m) "third":=by rfl'
abbrev z0Q:Stmt:=top 35
def z1f:z0c ["headings","place","number","corners"] ["headings","place"] (z01 z0Q):=by rfl'
def z1C:Nm (z01 z0Q) "headings":=by rfl'
def z67:Nm (z01 z0Q) "place":=by rfl'
def z16:Nm (z01 z0Q) "number":=by rfl'
def z1B:Nm (z01 z0Q) "corners":=by rfl'
abbrev z0N:Stmt:=top 18
def z12:z0c ["one","other","great","small","rest"] ["one","other"] (z01 z0N):=by rfl'
def z6G:Nm (z01 z0N) "one":=by rfl'
def z6F:Nm (z01 z0N) "other":=by rfl'
def z1R:Nm (z01 z0N) "great":=by rfl'
def z1i:Nm (z01 z0N) "small":=by rfl'
def z4a:Nm (z01 z0N) "rest":=by rfl'
abbrev s_lowest:Stmt:=top 19
def z7J:z0c ["top","bottom","divisor"] ["top","bottom"] (z01 s_lowest):=by rfl'
def z98:Nm (z01 s_lowest) "top":=by rfl'
def z5u:Nm (z01 s_lowest) "bottom":=by rfl'
def z4x:Nm (z01 s_lowest) "divisor":=by rfl'
abbrev z0F:Stmt:=top 36
def z2x:z0c ["wind","corners","parts","whole","shares"] ["wind","corners","parts"] (z01 z0F):=by rfl'
def z6a:Nm (z01 z0F) "corners":=by rfl'
def z3N:Nm (z01 z0F) "parts":=by rfl'
def z69:Nm (z01 z0F) "whole":=by rfl'
def z68:Nm (z01 z0F) "shares":=by rfl'
abbrev s_shares_to:Stmt:=top 37
def z1v:z0c ["wind","place","headings","bearing","corners","parts"] ["wind","place"] (z01 s_shares_to):=by rfl'
def z6C:Nm (z01 s_shares_to) "wind":=by rfl'
def z3v:Nm (z01 s_shares_to) "place":=by rfl'
def z25:Nm (z01 s_shares_to) "headings":=by rfl'
def z4F:Nm (z01 s_shares_to) "bearing":=by rfl'
def z2H:Nm (z01 s_shares_to) "corners":=by rfl'
def z3u:Nm (z01 s_shares_to) "parts":=by rfl'
abbrev s_is_share:Stmt:=top 26
def zba:z0c ["share"] ["share"] (z01 s_is_share):=by rfl'
def z49:Nm (z01 s_is_share) "share":=by rfl'
abbrev s_are_shares:Stmt:=top 27
def z2z:z0c ["wind","shares","ahead","heading","share"] ["wind","shares"] (z01 s_are_shares):=by rfl'
def z8Q:Nm (z01 s_are_shares) "wind":=by rfl'
def z8P:Nm (z01 s_are_shares) "shares":=by rfl'
def z4s:Nm (z01 s_are_shares) "ahead":=by rfl'
def z37:Nm (z01 s_are_shares) "heading":=by rfl'
def z5X:Nm (z01 s_are_shares) "share":=by rfl'
abbrev s_farthest:Stmt:=top 6
def zbb:z0c ["wind","bearing"] ["wind","bearing"] (z01 s_farthest):=by rfl'
def zay:Nm (z01 s_farthest) "wind":=by rfl'
abbrev s_added:Stmt:=top 20
def z5p:z0c ["one","other","shared","one_times","other_times","top","rest"] ["one","other"] (z01 s_added):=by rfl'
def z8g:Nm (z01 s_added) "one":=by rfl'
def z6J:Nm (z01 s_added) "other":=by rfl'
def z6I:Nm (z01 s_added) "shared":=by rfl'
def zaB:Nm (z01 s_added) "one_times":=by rfl'
def z8f:Nm (z01 s_added) "other_times":=by rfl'
def z8e:Nm (z01 s_added) "top":=by rfl'
def z8d:Nm (z01 s_added) "rest":=by rfl'
abbrev s_shares_sum:Stmt:=top 28
def z2w:z0c ["shares","total","heading","share"] ["shares"] (z01 s_shares_sum):=by rfl'
def z8N:Nm (z01 s_shares_sum) "shares":=by rfl'
def z32:Nm (z01 s_shares_sum) "total":=by rfl'
def z8M:Nm (z01 s_shares_sum) "heading":=by rfl'
def z5J:Nm (z01 s_shares_sum) "share":=by rfl'
abbrev s_place_added:Stmt:=top 23
def z1l:z0c ["one","other","shared","one_times","other_times","x","y","rest"] ["one","other"] (z01 s_place_added):=by rfl'
def z2L:Nm (z01 s_place_added) "one":=by rfl'
def z1Z:Nm (z01 s_place_added) "other":=by rfl'
def z2K:Nm (z01 s_place_added) "shared":=by rfl'
def z3S:Nm (z01 s_place_added) "one_times":=by rfl'
def z2J:Nm (z01 s_place_added) "other_times":=by rfl'
def z3R:Nm (z01 s_place_added) "x":=by rfl'
def z3Q:Nm (z01 s_place_added) "y":=by rfl'
def z2I:Nm (z01 s_place_added) "rest":=by rfl'
abbrev s_lowest_place:Stmt:=top 22
def z4Z:z0c ["x","y","bottom","divisor"] ["x","y","bottom"] (z01 s_lowest_place):=by rfl'
def z4S:Nm (z01 s_lowest_place) "x":=by rfl'
def z4R:Nm (z01 s_lowest_place) "y":=by rfl'
def z4Q:Nm (z01 s_lowest_place) "bottom":=by rfl'
def z2j:Nm (z01 s_lowest_place) "divisor":=by rfl'
abbrev s_place_times:Stmt:=top 24
def z8y:z0c ["place","fraction"] ["place","fraction"] (z01 s_place_times):=by rfl'
def z3P:Nm (z01 s_place_times) "place":=by rfl'
def z3O:Nm (z01 s_place_times) "fraction":=by rfl'
abbrev s_shares_end:Stmt:=top 29
def z23:z0c ["wind","shares","end","heading","share","vector"] ["wind","shares"] (z01 s_shares_end):=by rfl'
def z5N:Nm (z01 s_shares_end) "wind":=by rfl'
def z5M:Nm (z01 s_shares_end) "shares":=by rfl'
def z33:Nm (z01 s_shares_end) "end":=by rfl'
def z5L:Nm (z01 s_shares_end) "heading":=by rfl'
def z5K:Nm (z01 s_shares_end) "share":=by rfl'
def z4m:Nm (z01 s_shares_end) "vector":=by rfl'
abbrev z1n:Stmt:=top 38
def z4Y:z0c ["wind","place","answer","shares"] ["wind","place","answer"] (z01 z1n):=by rfl'
def z3j:Nm (z01 z1n) "wind":=by rfl'
def z4P:Nm (z01 z1n) "place":=by rfl'
def z1J:Nm (z01 z1n) "answer":=by rfl'
def z2i:Nm (z01 z1n) "shares":=by rfl'
abbrev z6W:Stmt:=top 60
def z5G:z0c ["script","wind","base","corners","turn","cell","place","bearing","more","shares"] ["script"] (z01 z6W):=by rfl'
def ziy:Nm (z01 z6W) "script":=by rfl'
def z4K:Nm (z01 z6W) "wind":=by rfl'
def zeG:Nm (z01 z6W) "base":=by rfl'
def zeF:Nm (z01 z6W) "corners":=by rfl'
def zeE:Nm (z01 z6W) "turn":=by rfl'
def z9Q:Nm (z01 z6W) "cell":=by rfl'
def z8c:Nm (z01 z6W) "place":=by rfl'
def zeD:Nm (z01 z6W) "bearing":=by rfl'
def zeC:Nm (z01 z6W) "more":=by rfl'
def zby:Nm (z01 z6W) "shares":=by rfl'
section
variable {P:Program}{w:World}{K:W.Frag}{mg:Str->Option Value}{base:Heap}{f:Addr}{fd:FuncData}(T:Txt K mg)
include T
theorem z8J (F:Fun K "_law_cell_at" "_law_cell_at" z2B f fd):Fk P w K mg base 1 f fd ["script","k"] z1F:=by
 exact fnM F z8B λcdv A outer s H E hr hu=>(z05 (z2h (z0z (zbp hu) lk2 (qx_v (vg 1 z5i)) (z1I z1V lkN (glg rfl) T.n_len z3B (z00 (qx_v (vg 0 z5j)) z03)) (z0n _)) (z07 (z0e (z08 (qx_v (vg 0 z5j)) (qx_v (vg 1 z5i)) (λ_ _=>rfl)))) z15)
   (z07 (z0e z02)))
theorem z9D (F:Fun K "_law_digits" "_law_digits" z2t f fd):Fk P w K mg base 1 f fd ["cell","far"] z0V:=by
 exact fnM F z6n λcdv A outer s H E hr hu=>(z05 (z09 (ag 2 z6n.nd z36 (z04 z0E lk2 (z04 z0j lk2 z02 (qx_v (vg 1 z4q))) z02)))
   (z07 (z0e (z0y (z00 (z04 z1x lk2 (z04 z0S lk2 (qx_v (vg 0 z5V)) (qx_v (vg 2 z36))) (qx_v (vg 1 z4q))) (z00 (z04 z1x lk2 (z04 z0S lk2 (z04 z0J lk2 (qx_v (vg 0 z5V)) (qx_v (vg 2 z36))) (qx_v (vg 2 z36))) (qx_v (vg 1 z4q))) z03))))))
theorem z71 (F:Fun K "_law_free_pairs" "_law_free_pairs" z0B f fd)(q0:Cl P w K mg base 1 "_law_digits" ["cell","far"] z0V):Fk P w K mg base 2 f fd ["cells","far"] z18:=by
 exact fnM F z11 λcdv A outer s H E hr hu=>(z05 (z51 (ag 2 z11.nd z2R (z3q z03)))
   (z05 (z09 (ag 3 z11.nd z0p z02))
   (z05 (z4B PassesOwn.never (z0z (zbp hu) lk2 (qx_v (vg 3 z0p)) (z1I z1V lkN (glg rfl) T.n_len z3B (z00 (qx_v (vg 0 z1h)) z03)) (z0n _)) (z05 (z09 (ag 4 z11.nd z2Q (z04 z0E lk2 z02 (z04 z0S lk2 (z08 (qx_v (vg 0 z1h)) (qx_v (vg 3 z0p)) (λ_ _=>rfl)) z02))))
   (z05 (z51 (ag 5 z11.nd z48 (zdU (zbe (qx_v (vg 0 z1h)) (z4i (z04 z0E lk2 (qx_v (vg 3 z0p)) z02)) (z4i (z04 z0E lk2 (z04 z0E lk2 (qx_v (vg 3 z0p)) z02) (qx_v (vg 4 z2Q))))) (z04 zej lk2 (QF.qx (z3q (z00 z02 z03))) (z4N zhe lkN (glg rfl) T.n_int zl9 (z00 (z7d (z3d hu) lk2 (z04 z0E lk2 (qx_v (vg 3 z0p)) z02) (z1I z1V lkN (glg rfl) T.n_len z3B (z00 (qx_v (vg 0 z1h)) z03)) (z0n _)) z03))))))
   (z05 (z6p (vg 2 z2R) (z00 (z0y (z00 (z4N z39 lkN (glg rfl) T.n_tuple z4t (z00 (QF.qx (z4j (tg:=(.nm 0)) (ct:=none) rfl (qi_x (qx_v (vg 5 z48))) rfl (z5E.ok (N':=["cell","far"]) (xn:=["cells","far","pairs","at","size","rows"]) (nt:=1) (js:=[1]) (osc:=z01 z0B) rfl rfl (by decide +kernel)) rfl (λC s2 H2 fp=>(z6q (i:=0) (show Nd ["cell","far"] from by decide) rfl rfl)) trivial (λC s2 H2 fp=>(z0d q0 hr (z00 (qx_v (qv 0)) (z00 (qx_v (qv 1)) z03)))))) z03)) (z00 (z04 z0J lk2 (z08 (qx_v (vg 0 z1h)) (qx_v (vg 3 z0p)) (λ_ _=>rfl)) z02) z03))) z03))
   (z07 (z09 (ag 3 z11.nd z0p (z04 z0E lk2 (z04 z0E lk2 (qx_v (vg 3 z0p)) z02) (qx_v (vg 4 z2Q))))))))))
   (z07 (z0e (qx_v (vg 2 z2R)))))))
theorem zcR (F:Fun K "_law_mix" "_law_mix" z3I f fd):Fk P w K mg base 1 f fd ["cell","k"] z06:=by
 exact fnM F z6V λcdv A outer s H E hr hu=>(z05 (z09 (ag 2 z6V.nd z3U z02))
   (z05 (z09 (ag 3 z6V.nd z6b (z04 z0S lk2 (z04 z0j lk2 (z04 z0E lk2 (z04 z0E lk2 (z04 z0S lk2 (qx_v (vg 0 zbw)) (qx_v (vg 2 z3U))) (z04 z0j lk2 z02 (qx_v (vg 1 zbv)))) z02) z02) (qx_v (vg 2 z3U)))))
   (z07 (z0e (z04 z0J lk2 (z04 z0S lk2 (z04 z0j lk2 (z04 z0S lk2 (z04 z0j lk2 (qx_v (vg 3 z6b)) (qx_v (vg 3 z6b))) (qx_v (vg 2 z3U))) z02) (qx_v (vg 2 z3U))) z02)))))
theorem z9B (F:Fun K "_law_vector" "_law_vector" z1Y f fd)(q1:Cl P w K mg base 1 "_law_mix" ["cell","k"] z06):Fk P w K mg base 2 f fd ["cell","k","most"] z0g:=by
 exact fnM F z6l λcdv A outer s H E hr hu=>(z05 (z09 (ag 3 z6l.nd z5Q (z04 z1x lk2 (z04 z0S lk2 (z0d q1 hr (z00 (qx_v (vg 0 z5S)) (z00 (qx_v (vg 1 z5R)) z03)) (glg rfl)) (z04 z0E lk2 (z04 z0j lk2 z02 (qx_v (vg 2 z35))) z02)) (qx_v (vg 2 z35)))))
   (z07 (z0e (z0y (z00 (qx_v (vg 3 z5Q)) (z00 (z04 z1x lk2 (z04 z0S lk2 (z0d q1 hr (z00 (qx_v (vg 0 z5S)) (z00 (z04 z0E lk2 (qx_v (vg 1 z5R)) z02) z03)) (glg rfl)) (z04 z0E lk2 (z04 z0j lk2 z02 (qx_v (vg 2 z35))) z02)) (qx_v (vg 2 z35))) z03))))))
theorem z9A (F:Fun K "_law_within" "_law_within" z40 f fd):Fk P w K mg base 1 f fd ["number"] z1k:=by
 exact fnM F z9k λcdv A outer s H E hr hu=>(z07 (z0e (z1I (ziE rfl) lkN (glg rfl) T.n_max zl8 (z00 (z7q z4O lk1 (z04 z2U lk2 z02 z02)) (z00 (z1I (ziD rfl) lkN (glg rfl) T.n_min zl7 (z00 (z04 z2U lk2 z02 z02) (z00 (qx_v (vg 0 z8O)) z03))) z03)))))
theorem zbj (F:Fun K "_law_wind" "_law_wind" z1b f fd)(q1:Cl P w K mg base 1 "_law_mix" ["cell","k"] z06)(q2:Cl P w K mg base 2 "_law_vector" ["cell","k","most"] z0g)(q3:Cl P w K mg base 1 "_law_within" ["number"] z1k):Fk P w K mg base 3 f fd ["cells","most"] z1N:=by
 exact fnM F z1m λcdv A outer s H E hr hu=>(z05 (z09 (ag 2 z1m.nd z45 (z0d q2 hr (z00 (z08 (qx_v (vg 0 z46)) z02 (λ_ _=>rfl)) (z00 z02 (z00 (qx_v (vg 1 z7h)) z03))) (glg rfl))))
   (z05 (z09 (ag 3 z1m.nd z5c (z0d q2 hr (z00 (z08 (qx_v (vg 0 z46)) z02 (λ_ _=>rfl)) (z00 z02 (z00 z02 z03))) (glg rfl))))
   (z05 (z09 (ag 4 z1m.nd z5b (z04 z0S lk2 (z0d q1 hr (z00 (z08 (qx_v (vg 0 z46)) z02 (λ_ _=>rfl)) (z00 z02 z03)) (glg rfl)) z02)))
   (z05 (z51 (ag 5 z1m.nd z5a (z3q z03)))
   (z05 (z52 (js:=[]) (g:=(.nm 6)) PassesOwn.never rfl (qi_x (qx_v (vg 0 z46))) (ng 6 z1m.nd z59) (z05 (z09 (ag 7 z1m.nd z44 (z0d q2 hr (z00 (qx_v (vg 6 z59)) (z00 z02 (z00 (qx_v (vg 1 z7h)) z03))) (glg rfl))))
   (z05 (z09 (ag 8 z1m.nd z58 (z04 z1x lk2 (z04 z0S lk2 (z0d q1 hr (z00 (qx_v (vg 6 z59)) (z00 z02 z03)) (glg rfl)) z02) z02)))
   (z05 (z2h (z0z (z3d hu) lk2 (qx_v (vg 4 z5b)) z02 (z0n _)) (z07 (z09 (ag 7 z1m.nd z44 (z0y (z00 (z0d q3 hr (z00 (z04 z0E lk2 (z08 (qx_v (vg 2 z45)) z02 (λ_ _=>rfl)) (z04 z0j lk2 (qx_v (vg 8 z58)) (z08 (qx_v (vg 3 z5c)) z02 (λ_ _=>rfl)))) z03) (glg rfl)) (z00 (z0d q3 hr (z00 (z04 z0E lk2 (z08 (qx_v (vg 2 z45)) z02 (λ_ _=>rfl)) (z04 z0j lk2 (qx_v (vg 8 z58)) (z08 (qx_v (vg 3 z5c)) z02 (λ_ _=>rfl)))) z03) (glg rfl)) z03)))))) z15)
   (z05 (z2h (z0z (z3d hu) lk2 (qx_v (vg 4 z5b)) z02 (z0n _)) (z07 (z09 (ag 7 z1m.nd z44 (qx_v (vg 2 z45))))) z15)
   (z07 (z6p (vg 5 z5a) (z00 (qx_v (vg 7 z44)) z03))))))))
   (z07 (z0e (z4N z39 lkN (glg rfl) T.n_tuple z4t (z00 (qx_v (vg 5 z5a)) z03)))))))))
theorem z8I (F:Fun K "_law_far_off" "_law_far_off" z2A f fd):Fk P w K mg base 1 f fd ["wind"] z1E:=by
 exact fnM F z8A λcdv A outer s H E hr hu=>(z07 (z0e (z4N z39 lkN (glg rfl) T.n_tuple z4t (z00 (QF.qx (z4j (tg:=(.nm 0)) (ct:=none) rfl (qi_x (qx_v (vg 0 z88))) rfl (z5E.ok (N':=["heading"]) (xn:=["wind"]) (nt:=1) (js:=[]) (osc:=z01 z2A) rfl rfl (by decide +kernel)) rfl (λC s2 H2 fp=>(z6q (i:=0) (show Nd ["heading"] from by decide) rfl rfl)) trivial (λC s2 H2 fp=>(z0y (z00 (z04 z0j lk2 (z04 z0j lk2 (z08 (qx_v (qv 0)) z02 (λ_ _=>rfl)) (z04 z2U lk2 z02 z02)) (z04 z2U lk2 z02 z02)) (z00 (z04 z0j lk2 (z04 z0j lk2 (z08 (qx_v (qv 0)) z02 (λ_ _=>rfl)) (z04 z2U lk2 z02 z02)) (z04 z2U lk2 z02 z02)) z03)))))) z03))))
theorem zal (F:Fun K "_law_pairs" "_law_pairs" z14 f fd)(q4:Cl P w K mg base 1 "_law_cell_at" ["script","k"] z1F)(q1:Cl P w K mg base 1 "_law_mix" ["cell","k"] z06)(q5:Cl P w K mg base 3 "_law_wind" ["cells","most"] z1N)(q6:Cl P w K mg base 1 "_law_far_off" ["wind"] z1E)(q7:Cl P w K mg base 2 "_law_free_pairs" ["cells","far"] z18):Fk P w K mg base 4 f fd ["script"] z13:=by
 exact fnM F z10 λcdv A outer s H E hr hu=>(z05 (z09 (ag 1 z10.nd z3w (z0d q4 hr (z00 (qx_v (vg 0 z4I)) (z00 z02 z03)) (glg rfl))))
   (z05 (z09 (ag 2 z10.nd z0K (z04 z0E lk2 (zbe (qx_v (vg 0 z4I)) (z4i z02) z64) (z04 zej lk2 (QF.qx (z3q (z00 z02 z03))) (z4N zhe lkN (glg rfl) T.n_int zl9 (z00 (z7d (zbp hu) lk2 (z1I z1V lkN (glg rfl) T.n_len z3B (z00 (qx_v (vg 0 z4I)) z03)) z02 (z0n _)) z03))))))
   (z05 (z2h (z0z (z3d hu) lk2 (z04 z0S lk2 (qx_v (vg 1 z3w)) z02) z02 (z0n _)) (z07 (z0e (z0d q7 hr (z00 (qx_v (vg 2 z0K)) (z00 (z08 (QF.qx (z3q (z00 z02 (z00 (z04 z2U lk2 z02 z02) (z00 (z04 z2U lk2 z02 z02) z03))))) (z04 z0S lk2 (z04 z0J lk2 (qx_v (vg 1 z3w)) z02) z02) (λ_ _=>rfl)) z03)) (glg rfl)))) z15)
   (z05 (z09 (ag 3 z10.nd z4H (z08 (QF.qx (z3q (z00 z02 (z00 z02 (z00 z02 (z00 z02 (z00 z02 (z00 (z04 z2U lk2 z02 z02) z03)))))))) (z04 z0S lk2 (z0d q1 hr (z00 (qx_v (vg 1 z3w)) (z00 z02 z03)) (glg rfl)) z02) (λ_ _=>rfl))))
   (z05 (z51 (ag 4 z10.nd z28 (z3q z03)))
   (z05 (z09 (ag 5 z10.nd z0Z z02))
   (z05 (z4B PassesOwn.never (z0z (zbp hu) lk2 (qx_v (vg 5 z0Z)) (z1I z1V lkN (glg rfl) T.n_len z3B (z00 (qx_v (vg 2 z0K)) z03)) (z0n _)) (z05 (z09 (ag 6 z10.nd z4G (z04 z0E lk2 z02 (z04 z0S lk2 (z0d q1 hr (z00 (z08 (qx_v (vg 2 z0K)) (qx_v (vg 5 z0Z)) (λ_ _=>rfl)) (z00 z02 z03)) (glg rfl)) (z08 (QF.qx (z3q (z00 z02 (z00 z02 (z00 z02 (z00 z02 z03)))))) (z04 z0S lk2 (z0d q1 hr (z00 (z08 (qx_v (vg 2 z0K)) (qx_v (vg 5 z0Z)) (λ_ _=>rfl)) (z00 z02 z03)) (glg rfl)) z02) (λ_ _=>rfl))))))
   (z05 (z6p (vg 4 z28) (z00 (z0y (z00 (z0d q5 hr (z00 (zbe (qx_v (vg 2 z0K)) (z4i (qx_v (vg 5 z0Z))) (z4i (z04 z0E lk2 (qx_v (vg 5 z0Z)) (qx_v (vg 6 z4G))))) (z00 (qx_v (vg 3 z4H)) z03)) (glg rfl)) (z00 (z08 (qx_v (vg 2 z0K)) (qx_v (vg 5 z0Z)) (λ_ _=>rfl)) z03))) z03))
   (z07 (z09 (ag 5 z10.nd z0Z (z04 z0E lk2 (qx_v (vg 5 z0Z)) (qx_v (vg 6 z4G)))))))))
   (z05 (z2h (z0z (z3d hu) lk2 (z04 z0S lk2 (z0d q1 hr (z00 (z08 (qx_v (vg 2 z0K)) z02 (λ_ _=>rfl)) (z00 z02 z03)) (glg rfl)) z02) z02 (z0n _)) (z07 (z51 (ag 4 z10.nd z28 (zdU (QF.qx (z3q (z00 (z0y (z00 (z0d q5 hr (z00 (qx_v (vg 2 z0K)) (z00 (qx_v (vg 3 z4H)) z03)) (glg rfl)) (z00 (z04 z0E lk2 (z08 (qx_v (vg 2 z0K)) z02 (λ_ _=>rfl)) z02) z03))) z03))) (qx_v (vg 4 z28)))))) z15)
   (z05 (z2h (z0z (z3d hu) lk2 (z04 z0S lk2 (z0d q1 hr (z00 (z08 (qx_v (vg 2 z0K)) z02 (λ_ _=>rfl)) (z00 z02 z03)) (glg rfl)) z02) z02 (z0n _)) (z07 (z51 (zbg (iy:=4) (tg:=(.nm 0)) (ct:=none) z10.nd rfl rfl rfl (qi_x (qx_v (vg 4 z28))) rfl (z5E.ok (N':=["pair"]) (xn:=["script","head","cells","most","pairs","at","size"]) (nt:=1) (js:=[]) (osc:=z01 z14) rfl rfl (by decide +kernel)) rfl (λC s2 H2 fp=>(z6q (i:=0) (show Nd ["pair"] from by decide) rfl rfl)) trivial (λC s2 H2 fp=>(z0y (z00 (z0d q6 hr (z00 (z08 (qx_v (qv 0)) z02 (λ_ _=>rfl)) z03)) (z00 (z08 (qx_v (qv 0)) z02 (λ_ _=>rfl)) z03))))))) z15)
   (z07 (z0e (qx_v (vg 4 z28)))))))))))))
theorem zbk (F:Fun K "_law_turn" "_law_turn" z2r f fd):Fk P w K mg base 1 f fd ["one","two","three"] z2m:=by
 exact fnM F z61 λcdv A outer s H E hr hu=>(z05 (z09 (ag 3 z61.nd z5e (z0y (z00 (z04 z1x lk2 (z08 (qx_v (vg 1 z7j)) z02 (λ_ _=>rfl)) (z08 (qx_v (vg 0 z47)) z02 (λ_ _=>rfl))) (z00 (z04 z1x lk2 (z08 (qx_v (vg 1 z7j)) z02 (λ_ _=>rfl)) (z08 (qx_v (vg 0 z47)) z02 (λ_ _=>rfl))) z03)))))
   (z05 (z09 (ag 4 z61.nd z5d (z0y (z00 (z04 z1x lk2 (z08 (qx_v (vg 2 z7i)) z02 (λ_ _=>rfl)) (z08 (qx_v (vg 0 z47)) z02 (λ_ _=>rfl))) (z00 (z04 z1x lk2 (z08 (qx_v (vg 2 z7i)) z02 (λ_ _=>rfl)) (z08 (qx_v (vg 0 z47)) z02 (λ_ _=>rfl))) z03)))))
   (z07 (z0e (z04 z1x lk2 (z04 z0j lk2 (z08 (qx_v (vg 3 z5e)) z02 (λ_ _=>rfl)) (z08 (qx_v (vg 4 z5d)) z02 (λ_ _=>rfl))) (z04 z0j lk2 (z08 (qx_v (vg 3 z5e)) z02 (λ_ _=>rfl)) (z08 (qx_v (vg 4 z5d)) z02 (λ_ _=>rfl))))))))
theorem z70 (F:Fun K "_law_half_round" "_law_half_round" z1c f fd)(q8:Cl P w K mg base 1 "_law_turn" ["one","two","three"] z2m):Fk P w K mg base 2 f fd ["points"] z0x:=by
 exact fnM F z2V λcdv A outer s H E hr hu=>(z05 (z51 (ag 1 z2V.nd z0L (z3q z03)))
   (z05 (z52 (js:=[]) (g:=(.nm 2)) PassesOwn.never rfl (qi_x (qx_v (vg 0 z6E))) (ng 2 z2V.nd z2P) (z05 (z4B PassesOwn.never (QW.pt (zdR (z0z (zao hu) lk2 (z1I z1V lkN (glg rfl) T.n_len z3B (z00 (qx_v (vg 1 z0L)) z03)) z02 (z0n _)) (zbW (z0z (zih hu) lk2 (z0d q8 hr (z00 (z08 (qx_v (vg 1 z0L)) (z7q z4O lk1 z02) (λ_ _=>rfl)) (z00 (z08 (qx_v (vg 1 z0L)) (z7q z4O lk1 z02) (λ_ _=>rfl)) (z00 (qx_v (vg 2 z2P)) z03))) (glg rfl)) z02 (z0n _))))) (z07 (zgO (vg 1 z0L))))
   (z07 (z6p (vg 1 z0L) (z00 (qx_v (vg 2 z2P)) z03)))))
   (z07 (z0e (zbe (qx_v (vg 1 z0L)) z64 (z4i (z7q z4O lk1 z02)))))))
theorem zam (F:Fun K "_law_least" "_law_least" z3J f fd)(q9:Cl P w K mg base 2 "_law_half_round" ["points"] z0x):Fk P w K mg base 3 f fd ["points"] z2b:=by
 exact fnM F z7c λcdv A outer s H E hr hu=>(z05 (z09 (ag 1 z7c.nd z2O (QF.qx (z92 hu rfl (glg rfl) T.n_sorted (glg rfl) T.n_set (z00 (qx_v (vg 0 z9P)) z03)))))
   (z05 (z2h (z0z (z3d hu) lk2 (z1I z1V lkN (glg rfl) T.n_len z3B (z00 (qx_v (vg 1 z2O)) z03)) z02 (z0n _)) (z07 (z0e (z4N z39 lkN (glg rfl) T.n_tuple z4t (z00 (qx_v (vg 1 z2O)) z03)))) z15)
   (z07 (z0e (z4N z39 lkN (glg rfl) T.n_tuple z4t (z00 (z04 z0E lk2 (z0d q9 hr (z00 (qx_v (vg 1 z2O)) z03) (glg rfl)) (z0d q9 hr (z00 (zjw (qx_v (vg 1 z2O)) z64 z64 (z7q z4O lk1 z02)) z03) (glg rfl))) z03))))))
theorem z9E (F:Fun K "_law_common" "_law_common" z3a f fd):Fk P w K mg base 1 f fd ["one","other"] z0M:=by
 exact fnM F z6o λcdv A outer s H E hr hu=>(z05 (z4B PassesOwn.never (z0z (zig hu) lk2 (qx_v (vg 1 z4r)) z02 (z0n _)) (z07 (zhF (i:=0) (j:=1) rfl z6o.nd rfl rfl (by decide) rfl rfl (z00 (qx_v (vg 1 z4r)) (z00 (z04 z0S lk2 (qx_v (vg 0 z5W)) (qx_v (vg 1 z4r))) z03)) rfl)))
   (z07 (z0e (qx_v (vg 0 z5W)))))
theorem z8H (F:Fun K "_law_reduced" "_law_reduced" z1y f fd)(qa:Cl P w K mg base 1 "_law_common" ["one","other"] z0M):Fk P w K mg base 2 f fd ["east","north","bottom"] z0l:=by
 exact fnM F z5F λcdv A outer s H E hr hu=>(z05 (z09 (ag 3 z5F.nd z2N (z0d qa hr (z00 (z0d qa hr (z00 (z1I zaM lkN (glg rfl) T.n_abs zf8 (z00 (qx_v (vg 0 z5h)) z03)) (z00 (z1I zaM lkN (glg rfl) T.n_abs zf8 (z00 (qx_v (vg 1 z5g)) z03)) z03)) (glg rfl)) (z00 (qx_v (vg 2 z5f)) z03)) (glg rfl))))
   (z07 (z0e (z0y (z00 (z04 z0J lk2 (qx_v (vg 0 z5h)) (qx_v (vg 3 z2N))) (z00 (z04 z0J lk2 (qx_v (vg 1 z5g)) (qx_v (vg 3 z2N))) (z00 (z04 z0J lk2 (qx_v (vg 2 z5f)) (qx_v (vg 3 z2N))) z03)))))))
theorem zcS (F:Fun K "_law_end" "_law_end" s_law_end f fd)(qb:Cl P w K mg base 2 "_law_reduced" ["east","north","bottom"] z0l):Fk P w K mg base 3 f fd ["wind","shares"] z0T:=by
 exact fnM F z2W λcdv A outer s H E hr hu=>(z05 (z09 (ag 2 z2W.nd z4J z02))
   (z05 (z52 (js:=[]) (g:=(.tp [3,4])) PassesOwn.never rfl (qi_x (qx_v (vg 1 z6c))) (z5H rfl (z0I (ng 3 z2W.nd zbx) (z0I (ng 4 z2W.nd z8b) z3K))) (z07 (z09 (ag 2 z2W.nd z4J (z04 z0j lk2 (qx_v (vg 2 z4J)) (z08 (qx_v (vg 4 z8b)) z02 (λ_ _=>rfl)))))))
   (z05 (z09 (ag 5 z2W.nd z8a (z1I (zct rfl) lkN (glg rfl) T.n_sum zf7 (z00 (QF.qx (z4j (tg:=(.tp [0,1])) (ct:=none) rfl (qi_x (qx_v (vg 1 z6c))) rfl (z5E.ok (N':=["heading","share","bottom","wind"]) (xn:=["wind","shares","bottom","heading","share","east","north"]) (nt:=2) (js:=[2,0]) (osc:=z01 s_law_end) rfl rfl (by decide +kernel)) rfl (λC s2 H2 fp=>(z5H rfl (z0I (z9q (i:=0) (show Nd ["heading","share","bottom","wind"] from by decide) rfl rfl) (z0I (z9q (i:=1) (show Nd ["heading","share","bottom","wind"] from by decide) rfl rfl) z3K)))) trivial (λC s2 H2 fp=>(z04 z0j lk2 (z04 z0j lk2 (z08 (z08 (qx_v (qv 3)) (qx_v (qv 0)) (λ_ _=>rfl)) z02 (λ_ _=>rfl)) (z08 (qx_v (qv 1)) z02 (λ_ _=>rfl))) (z04 z0J lk2 (qx_v (qv 2)) (z08 (qx_v (qv 1)) z02 (λ_ _=>rfl))))))) z03))))
   (z05 (z09 (ag 6 z2W.nd z89 (z1I (zct rfl) lkN (glg rfl) T.n_sum zf7 (z00 (QF.qx (z4j (tg:=(.tp [0,1])) (ct:=none) rfl (qi_x (qx_v (vg 1 z6c))) rfl (z5E.ok (N':=["heading","share","bottom","wind"]) (xn:=["wind","shares","bottom","heading","share","east","north"]) (nt:=2) (js:=[2,0]) (osc:=z01 s_law_end) rfl rfl (by decide +kernel)) rfl (λC s2 H2 fp=>(z5H rfl (z0I (z9q (i:=0) (show Nd ["heading","share","bottom","wind"] from by decide) rfl rfl) (z0I (z9q (i:=1) (show Nd ["heading","share","bottom","wind"] from by decide) rfl rfl) z3K)))) trivial (λC s2 H2 fp=>(z04 z0j lk2 (z04 z0j lk2 (z08 (z08 (qx_v (qv 3)) (qx_v (qv 0)) (λ_ _=>rfl)) z02 (λ_ _=>rfl)) (z08 (qx_v (qv 1)) z02 (λ_ _=>rfl))) (z04 z0J lk2 (qx_v (qv 2)) (z08 (qx_v (qv 1)) z02 (λ_ _=>rfl))))))) z03))))
   (z07 (z0e (z0d qb hr (z00 (qx_v (vg 5 z8a)) (z00 (qx_v (vg 6 z89)) (z00 (qx_v (vg 2 z4J)) z03))) (glg rfl))))))))
theorem z9C (F:Fun K "_law_lowest" "_law_lowest" z2s f fd)(qa:Cl P w K mg base 1 "_law_common" ["one","other"] z0M):Fk P w K mg base 2 f fd ["top","bottom"] z1U:=by
 exact fnM F z6m λcdv A outer s H E hr hu=>(z05 (z09 (ag 2 z6m.nd z4p (z0d qa hr (z00 (z1I zaM lkN (glg rfl) T.n_abs zf8 (z00 (qx_v (vg 0 z5U)) z03)) (z00 (qx_v (vg 1 z5T)) z03)) (glg rfl))))
   (z07 (z0e (z0y (z00 (z04 z0J lk2 (qx_v (vg 0 z5U)) (qx_v (vg 2 z4p))) (z00 (z04 z0J lk2 (qx_v (vg 1 z5T)) (qx_v (vg 2 z4p))) z03))))))
theorem z7r (F:Fun K "_law_shares_by" "_law_shares_by" z0s f fd)(q1:Cl P w K mg base 1 "_law_mix" ["cell","k"] z06)(qc:Cl P w K mg base 2 "_law_lowest" ["top","bottom"] z1U):Fk P w K mg base 3 f fd ["wind","cell","some"] z0t:=by
 exact fnM F z1H λcdv A outer s H E hr hu=>(z05 (z51 (ag 3 z1H.nd z1s (z4j (tg:=(.nm 0)) (ct:=none) rfl (qi_x (qx_v (vg 0 z4y))) rfl (z5E.ok (N':=["heading"]) (xn:=["wind","cell","some","weights","rest","k"]) (nt:=1) (js:=[]) (osc:=z01 z0s) rfl rfl (by decide +kernel)) rfl (λC s2 H2 fp=>(z6q (i:=0) (show Nd ["heading"] from by decide) rfl rfl)) trivial (λC s2 H2 fp=>z02))))
   (z05 (z09 (ag 4 z1H.nd z27 (z04 z0J lk2 (qx_v (vg 1 z1t)) z02)))
   (z05 (z52 (js:=[]) (g:=(.nm 5)) PassesOwn.never rfl (qi_x (qx_v (vg 2 z30))) (ng 5 z1H.nd z26) (z05 (zdQ (vg 3 z1s) (qx_v (vg 5 z26)) (z04 z0S lk2 (z0d q1 hr (z00 (qx_v (vg 1 z1t)) (z00 (z04 z0E lk2 z02 (qx_v (vg 5 z26))) z03)) (glg rfl)) (z08 (QF.qx (z3q (z00 z02 (z00 z02 (z00 (z04 z2U lk2 z02 z02) z03))))) (z04 z0S lk2 (z0d q1 hr (z00 (qx_v (vg 1 z1t)) (z00 z02 z03)) (glg rfl)) z02) (λ_ _=>rfl))) (λhe hg=>zbX he hg))
   (z07 (z2h (z0z (z3d hu) lk2 (z04 z0S lk2 (qx_v (vg 1 z1t)) z02) z02 (z0n _)) (z05 (zdQ (vg 3 z1s) (qx_v (vg 5 z26)) (z04 z0S lk2 (qx_v (vg 4 z27)) (z04 z2U lk2 z02 z02)) (λhe hg=>zbX he hg))
   (z07 (z09 (ag 4 z1H.nd z27 (z04 z0J lk2 (qx_v (vg 4 z27)) (z04 z2U lk2 z02 z02)))))) z15))))
   (z05 (z2h (z0z (z3d hu) lk2 (z1I (zct rfl) lkN (glg rfl) T.n_sum zf7 (z00 (qx_v (vg 3 z1s)) z03)) z02 (z0n _)) (z07 (zdQ (vg 3 z1s) (z08 (qx_v (vg 2 z30)) (z04 z0S lk2 (z0d q1 hr (z00 (qx_v (vg 1 z1t)) (z00 z02 z03)) (glg rfl)) (z1I z1V lkN (glg rfl) T.n_len z3B (z00 (qx_v (vg 2 z30)) z03))) (λ_ _=>rfl)) z02 (λhe hg=>zbX he hg))) z15)
   (z07 (z0e (z4N z39 lkN (glg rfl) T.n_tuple z4t (z00 (QF.qx (z4j (tg:=(.nm 0)) (ct:=(some _)) rfl (z91 (glg rfl) T.n_range (z00 (z1I z1V lkN (glg rfl) T.n_len z3B (z00 (qx_v (vg 0 z4y)) z03)) z03)) rfl (z5E.ok (N':=["k","weights"]) (xn:=["wind","cell","some","weights","rest","k"]) (nt:=1) (js:=[3]) (osc:=z01 z0s) rfl rfl (by decide +kernel)) rfl (λC s2 H2 fp=>(z6q (i:=0) (show Nd ["k","weights"] from by decide) rfl rfl)) (λC s2 H2 fp=>(z0z (zao hu) lk2 (z08 (qx_v (qv 1)) (qx_v (qv 0)) (λ_ _=>rfl)) z02 (z0n _))) (λC s2 H2 fp=>(z0y (z00 (qx_v (qv 0)) (z00 (z0d qc hr (z00 (z08 (qx_v (qv 1)) (qx_v (qv 0)) (λ_ _=>rfl)) (z00 (z1I (zct rfl) lkN (by rfl) T.n_sum zf7 (z00 (qx_v (qv 1)) z03)) z03))) z03)))))) z03))))))))
theorem z7R (F:Fun K "_law_place_by" "_law_place_by" z0k f fd)(q1:Cl P w K mg base 1 "_law_mix" ["cell","k"] z06)(q2:Cl P w K mg base 2 "_law_vector" ["cell","k","most"] z0g)(q0:Cl P w K mg base 1 "_law_digits" ["cell","far"] z0V)(qb:Cl P w K mg base 2 "_law_reduced" ["east","north","bottom"] z0l)(qd:Cl P w K mg base 3 "_law_end" ["wind","shares"] z0T)(qe:Cl P w K mg base 3 "_law_shares_by" ["wind","cell","some"] z0t):Fk P w K mg base 4 f fd ["wind","cell"] z1o:=by
 exact fnM F z0i λcdv A outer s H E hr hu=>(z05 (z09 (ag 2 z0i.nd z0X (z04 z0S lk2 (z0d q1 hr (z00 (qx_v (vg 1 z0f)) (z00 z02 z03)) (glg rfl)) z02)))
   (z05 (z09 (ag 3 z0i.nd z0C (z08 (qx_v (vg 0 z0D)) (z04 z0S lk2 (z0d q1 hr (z00 (qx_v (vg 1 z0f)) (z00 z02 z03)) (glg rfl)) (z1I z1V lkN (glg rfl) T.n_len z3B (z00 (qx_v (vg 0 z0D)) z03))) (λ_ _=>rfl))))
   (z05 (zjv (js:=[]) (is:=[4,5,6]) (zbX (z0d qd hr (z00 (qx_v (vg 0 z0D)) (z00 (z0d qe hr (z00 (qx_v (vg 0 z0D)) (z00 (qx_v (vg 1 z0f)) (z00 (QF.qx (z5I rfl (glg rfl) T.n_list (glg rfl) T.n_range (z00 (z1I z1V lkN (glg rfl) T.n_len z3B (z00 (qx_v (vg 0 z0D)) z03)) z03))) z03))) (glg rfl)) z03)) (glg rfl)) (zjF rfl (z0I (ng 4 z0i.nd z3m) (z0I (ng 5 z0i.nd z3l) (z0I (ng 6 z0i.nd z0W) z3K))))))
   (z05 (z2h (z0z (z3d hu) lk2 (qx_v (vg 2 z0X)) z02 (z0n _)) (z05 (z09 (ag 7 z0i.nd z4T (QF.qx (z3q (z00 (z04 z0S lk2 (z0d q1 hr (z00 (qx_v (vg 1 z0f)) (z00 z02 z03)) (glg rfl)) (z1I z1V lkN (glg rfl) T.n_len z3B (z00 (qx_v (vg 0 z0D)) z03))) (z00 (z04 z0S lk2 (z0d q1 hr (z00 (qx_v (vg 1 z0f)) (z00 z02 z03)) (glg rfl)) (z1I z1V lkN (glg rfl) T.n_len z3B (z00 (qx_v (vg 0 z0D)) z03))) z03))))))
   (z07 (z0e (z0d qd hr (z00 (qx_v (vg 0 z0D)) (z00 (z0d qe hr (z00 (qx_v (vg 0 z0D)) (z00 (qx_v (vg 1 z0f)) (z00 (qx_v (vg 7 z4T)) z03))) (glg rfl)) z03)) (glg rfl))))) z15)
   (z05 (z2h (z0z (z3d hu) lk2 (qx_v (vg 2 z0X)) z02 (z0n _)) (z07 (z0e (z0y (z00 (z08 (qx_v (vg 3 z0C)) z02 (λ_ _=>rfl)) (z00 (z08 (qx_v (vg 3 z0C)) z02 (λ_ _=>rfl)) (z00 z02 z03)))))) z15)
   (z05 (z2h (z0z (z3d hu) lk2 (qx_v (vg 2 z0X)) z02 (z0n _)) (z05 (z09 (ag 8 z0i.nd z0O (z08 (QF.qx (z3q (z00 z02 (z00 z02 (z00 (z04 z2U lk2 z02 z02) z03))))) (z04 z0S lk2 (z0d q1 hr (z00 (qx_v (vg 1 z0f)) (z00 z02 z03)) (glg rfl)) z02) (λ_ _=>rfl))))
   (z05 (z09 (ag 9 z0i.nd z3k (z0y (z00 (z04 z1x lk2 (z04 z0j lk2 (z08 (qx_v (vg 3 z0C)) z02 (λ_ _=>rfl)) (qx_v (vg 6 z0W))) (qx_v (vg 4 z3m))) (z00 (z04 z1x lk2 (z04 z0j lk2 (z08 (qx_v (vg 3 z0C)) z02 (λ_ _=>rfl)) (qx_v (vg 6 z0W))) (qx_v (vg 5 z3l))) z03)))))
   (z07 (z0e (z0d qb hr (z00 (z04 z0E lk2 (z04 z0j lk2 (z04 z0j lk2 (z08 (qx_v (vg 3 z0C)) z02 (λ_ _=>rfl)) (qx_v (vg 6 z0W))) (qx_v (vg 8 z0O))) (z08 (qx_v (vg 9 z3k)) z02 (λ_ _=>rfl))) (z00 (z04 z0E lk2 (z04 z0j lk2 (z04 z0j lk2 (z08 (qx_v (vg 3 z0C)) z02 (λ_ _=>rfl)) (qx_v (vg 6 z0W))) (qx_v (vg 8 z0O))) (z08 (qx_v (vg 9 z3k)) z02 (λ_ _=>rfl))) (z00 (z04 z0j lk2 (qx_v (vg 6 z0W)) (qx_v (vg 8 z0O))) z03))) (glg rfl)))))) z15)
   (z05 (z2h (z0z (z3d hu) lk2 (qx_v (vg 2 z0X)) z02 (z0n _)) (z05 (z09 (ag 10 z0i.nd z0v (z0d q2 hr (z00 (qx_v (vg 1 z0f)) (z00 z02 (z00 z02 z03))) (glg rfl))))
   (z05 (z09 (ag 8 z0i.nd z0O (z04 z0E lk2 z02 (z04 z0S lk2 (z0d q1 hr (z00 (qx_v (vg 1 z0f)) (z00 z02 z03)) (glg rfl)) z02))))
   (z07 (z0e (z0d qb hr (z00 (z04 z0E lk2 (z04 z0j lk2 (z08 (qx_v (vg 3 z0C)) z02 (λ_ _=>rfl)) (qx_v (vg 8 z0O))) (z08 (qx_v (vg 10 z0v)) z02 (λ_ _=>rfl))) (z00 (z04 z0E lk2 (z04 z0j lk2 (z08 (qx_v (vg 3 z0C)) z02 (λ_ _=>rfl)) (qx_v (vg 8 z0O))) (z08 (qx_v (vg 10 z0v)) z02 (λ_ _=>rfl))) (z00 (qx_v (vg 8 z0O)) z03))) (glg rfl)))))) z15)
   (z05 (z2h (z0z (z3d hu) lk2 (qx_v (vg 2 z0X)) z02 (z0n _)) (z05 (z09 (ag 10 z0i.nd z0v (z0d q0 hr (z00 (qx_v (vg 1 z0f)) (z00 (z04 z2U lk2 z02 z02) z03)) (glg rfl))))
   (z07 (z0e (z0d qb hr (z00 (z08 (qx_v (vg 10 z0v)) z02 (λ_ _=>rfl)) (z00 (z08 (qx_v (vg 10 z0v)) z02 (λ_ _=>rfl)) (z00 (z04 z0E lk2 z02 (z04 z0S lk2 (z04 z0J lk2 (z04 z0J lk2 (qx_v (vg 1 z0f)) (z04 z0E lk2 (z04 z0j lk2 z02 (z04 z2U lk2 z02 z02)) z02)) (z04 z0E lk2 (z04 z0j lk2 z02 (z04 z2U lk2 z02 z02)) z02)) (z04 z2U lk2 z02 z02))) z03))) (glg rfl))))) z15)
   (z05 (z2h (z0z (z3d hu) lk2 (qx_v (vg 2 z0X)) z02 (z0n _)) (z05 (z09 (ag 10 z0i.nd z0v (z0d q2 hr (z00 (qx_v (vg 1 z0f)) (z00 z02 (z00 z02 z03))) (glg rfl))))
   (z07 (z0e (z0d qb hr (z00 (z08 (qx_v (vg 10 z0v)) z02 (λ_ _=>rfl)) (z00 (z08 (qx_v (vg 10 z0v)) z02 (λ_ _=>rfl)) (z00 (z04 z0E lk2 z02 (z04 z0S lk2 (z0d q1 hr (z00 (qx_v (vg 1 z0f)) (z00 z02 z03)) (glg rfl)) z02)) z03))) (glg rfl))))) z15)
   (z07 (z0e (z0y (z00 (qx_v (vg 4 z3m)) (z00 (qx_v (vg 5 z3l)) (z00 (qx_v (vg 6 z0W)) z03)))))))))))))))
theorem z7S (F:Fun K "_law_bearings" "_law_bearings" z0H f fd)(q2:Cl P w K mg base 2 "_law_vector" ["cell","k","most"] z0g):Fk P w K mg base 3 f fd ["corners","cell"] z1p:=by
 exact fnM F z1X λcdv A outer s H E hr hu=>(z05 (z51 (zbg (iy:=2) (tg:=(.nm 0)) (ct:=none) z1X.nd rfl rfl rfl (z91 (glg rfl) T.n_range (z00 z02 z03)) rfl (z5E.ok (N':=["k","cell"]) (xn:=["corners","cell","found","k","one","two"]) (nt:=1) (js:=[1]) (osc:=z01 z0H) rfl rfl (by decide +kernel)) rfl (λC s2 H2 fp=>(z6q (i:=0) (show Nd ["k","cell"] from by decide) rfl rfl)) trivial (λC s2 H2 fp=>(z0d q2 hr (z00 (qx_v (qv 1)) (z00 (z04 z0E lk2 z02 (z04 z0j lk2 z02 (qx_v (qv 0)))) (z00 (z08 (QF.qx (z3q (z00 z02 (z00 z02 (z00 (z04 z2U lk2 z02 z02) z03))))) (z04 z0S lk2 (qx_v (qv 0)) z02) (λ_ _=>rfl)) z03)))))))
   (z05 (z7u (g:=(.nm 3)) PassesOwn.never rfl (glg rfl) T.n_range (z00 (z1I z1V lkN (glg rfl) T.n_len z3B (z00 (qx_v (vg 0 z2k)) z03)) z03) (ng 3 z1X.nd z3n) (z05 (z09 (ag 4 z1X.nd z1L (z08 (qx_v (vg 0 z2k)) (qx_v (vg 3 z3n)) (λ_ _=>rfl))))
   (z05 (z09 (ag 5 z1X.nd z1K (z08 (qx_v (vg 0 z2k)) (z04 z0S lk2 (z04 z0E lk2 (qx_v (vg 3 z3n)) z02) (z1I z1V lkN (glg rfl) T.n_len z3B (z00 (qx_v (vg 0 z2k)) z03))) (λ_ _=>rfl))))
   (z05 (z6p (vg 2 z3o) (z00 (z0y (z00 (z04 z1x lk2 (z08 (qx_v (vg 5 z1K)) z02 (λ_ _=>rfl)) (z08 (qx_v (vg 4 z1L)) z02 (λ_ _=>rfl))) (z00 (z04 z1x lk2 (z08 (qx_v (vg 4 z1L)) z02 (λ_ _=>rfl)) (z08 (qx_v (vg 5 z1K)) z02 (λ_ _=>rfl))) z03))) z03))
   (z07 (z6p (vg 2 z3o) (z00 (z0y (z00 (z04 z1x lk2 (z08 (qx_v (vg 5 z1K)) z02 (λ_ _=>rfl)) (z08 (qx_v (vg 4 z1L)) z02 (λ_ _=>rfl))) (z00 (z04 z1x lk2 (z08 (qx_v (vg 5 z1K)) z02 (λ_ _=>rfl)) (z08 (qx_v (vg 4 z1L)) z02 (λ_ _=>rfl))) z03))) z03)))))))
   (z07 (z0e (QF.qx (z4j (tg:=(.nm 0)) (ct:=(some _)) rfl (qi_x (qx_v (vg 2 z3o))) rfl (z5E.ok (N':=["bearing"]) (xn:=["corners","cell","found","k","one","two"]) (nt:=1) (js:=[]) (osc:=z01 z0H) rfl rfl (by decide +kernel)) rfl (λC s2 H2 fp=>(z6q (i:=0) (show Nd ["bearing"] from by decide) rfl rfl)) (λC s2 H2 fp=>(z0z (zig hu) lk2 (qx_v (qv 0)) (z0y (z00 z02 (z00 z02 z03))) (z0n _))) (λC s2 H2 fp=>(qx_v (qv 0)))))))))
theorem zcO (F:Fun K "turn_of" "turn_of" s_turn_of f fd):Fk P w K mg base 1 f fd ["one","other"] z3f:=by
 exact fnM F zcD λcdv A outer s H E hr hu=>(z07 (z0e (z04 z1x lk2 (z04 z0j lk2 (z08 (qx_v (vg 0 z83)) z02 (λ_ _=>rfl)) (z08 (qx_v (vg 1 z82)) z02 (λ_ _=>rfl))) (z04 z0j lk2 (z08 (qx_v (vg 0 z83)) z02 (λ_ _=>rfl)) (z08 (qx_v (vg 1 z82)) z02 (λ_ _=>rfl))))))
theorem zcQ (F:Fun K "step_of" "step_of" s_step_of f fd):Fk P w K mg base 1 f fd ["start","end"] z1M:=by
 exact fnM F zcF λcdv A outer s H E hr hu=>(z07 (z0e (z0y (z00 (z04 z1x lk2 (z08 (qx_v (vg 1 z85)) z02 (λ_ _=>rfl)) (z08 (qx_v (vg 0 z86)) z02 (λ_ _=>rfl))) (z00 (z04 z1x lk2 (z08 (qx_v (vg 1 z85)) z02 (λ_ _=>rfl)) (z08 (qx_v (vg 0 z86)) z02 (λ_ _=>rfl))) z03)))))
theorem zcP (F:Fun K "turn_by" "turn_by" s_turn_by f fd)(qf:Cl P w K mg base 1 "turn_of" ["one","other"] z3f)(qg:Cl P w K mg base 1 "step_of" ["start","end"] z1M):Fk P w K mg base 2 f fd ["start","middle","end"] z6M:=by
 exact fnM F zcE λcdv A outer s H E hr hu=>(z07 (z0e (z0d qf hr (z00 (z0d qg hr (z00 (qx_v (vg 0 zbu)) (z00 (qx_v (vg 1 z84)) z03)) (glg rfl)) (z00 (z0d qg hr (z00 (qx_v (vg 1 z84)) (z00 (qx_v (vg 2 zbt)) z03)) (glg rfl)) z03)) (glg rfl))))
theorem zbn (F:Fun K "chain_of" "chain_of" s_chain_of f fd)(tb:FTab P w K mg base (CXe P w) 2 zeN):Fk P w K mg base 3 f fd ["spots","turn"] z4z:=by
 exact fnM F z62 λcdv A outer s H E hr hu=>(z05 (z51 (ag 2 z62.nd z20 (z3q z03)))
   (z05 (z52 (js:=[]) (g:=(.nm 3)) PassesOwn.never rfl (qi_x (qx_v (vg 0 zaA))) (ng 3 z62.nd z5k) (z05 (z4B PassesOwn.never (QW.pt (zdR (z0z (zao hu) lk2 (z1I z1V lkN (glg rfl) T.n_len z3B (z00 (qx_v (vg 2 z20)) z03)) z02 (z0n _)) (zbW (z0z (zih hu) lk2 (zbU tb (hr.mono (by decide)) zea (vg 1 zaz) (z00 (z08 (qx_v (vg 2 z20)) (z7q z4O lk1 z02) (λ_ _=>rfl)) (z00 (z08 (qx_v (vg 2 z20)) (z7q z4O lk1 z02) (λ_ _=>rfl)) (z00 (qx_v (vg 3 z5k)) z03)))) z02 (z0n _))))) (z07 (zgO (vg 2 z20))))
   (z07 (z6p (vg 2 z20) (z00 (qx_v (vg 3 z5k)) z03)))))
   (z07 (z0e (qx_v (vg 2 z20))))))
theorem z8G (F:Fun K "least_round" "least_round" s_least_round f fd)(qh:Cl P w K mg base 3 "chain_of" ["spots","turn"] z4z):Fk P w K mg base 4 f fd ["rising","turn"] z3z:=by
 exact fnM F z4h λcdv A outer s H E hr hu=>(z05 (z2h (z0z (zbp hu) lk2 (z1I z1V lkN (glg rfl) T.n_len z3B (z00 (qx_v (vg 0 z2M)) z03)) z02 (z0n _)) (z07 (z0e (z4N z39 lkN (glg rfl) T.n_tuple z4t (z00 (qx_v (vg 0 z2M)) z03)))) z15)
   (z05 (z09 (ag 2 z4h.nd z56 (z0d qh hr (z00 (qx_v (vg 0 z2M)) (z00 (qx_v (vg 1 z57)) z03)) (glg rfl))))
   (z05 (z09 (ag 3 z4h.nd z55 (z0d qh hr (z00 (QF.qx (z6X rfl (glg rfl) T.n_list (glg rfl) T.n_reversed (z00 (qx_v (vg 0 z2M)) z03))) (z00 (qx_v (vg 1 z57)) z03)) (glg rfl))))
   (z07 (z0e (z4N z39 lkN (glg rfl) T.n_tuple z4t (z00 (z04 z0E lk2 (zbe (qx_v (vg 2 z56)) z64 (z4i (z7q z4O lk1 z02))) (zbe (qx_v (vg 3 z55)) z64 (z4i (z7q z4O lk1 z02)))) z03)))))))
theorem z6Z (F:Fun K "least_headings" "least_headings" s_least_headings f fd)(qi:Cl P w K mg base 2 "turn_by" ["start","middle","end"] z6M)(qj:Cl P w K mg base 4 "least_round" ["rising","turn"] z3z):Fk P w K mg base 5 f fd ["wind"] z1e:=by
 exact fnM F z6U λcdv A outer s H E hr hu=>(z07 (z0e (z0d qj hr (z00 (QF.qx (z92 hu rfl (glg rfl) T.n_sorted (glg rfl) T.n_set (z00 (qx_v (vg 0 z6D)) z03))) (z00 (zgR (n:=0) rfl (glg rfl) qi zeU) z03)) (glg rfl))))
theorem zbi (F:Fun K "right_of" "right_of" s_right_of f fd):Fk P w K mg base 1 f fd ["step"] z5x:=by
 exact fnM F zb9 λcdv A outer s H E hr hu=>(z07 (z0e (z0y (z00 (z08 (qx_v (vg 0 z7g)) z02 (λ_ _=>rfl)) (z00 (z7q z4O lk1 (z08 (qx_v (vg 0 z7g)) z02 (λ_ _=>rfl))) z03)))))
theorem z73 (F:Fun K "bearings_round" "bearings_round" s_bearings_round f fd)(qk:Cl P w K mg base 1 "right_of" ["step"] z5x)(tb:FTab P w K mg base (CXe P w) 2 zeN):Fk P w K mg base 3 f fd ["corners","step_between"] z2n:=by
 exact fnM F z1q λcdv A outer s H E hr hu=>(z05 (z2h (z0z (z3d hu) lk2 (z1I z1V lkN (glg rfl) T.n_len z3B (z00 (qx_v (vg 0 z1j)) z03)) z02 (z0n _)) (z07 (z0e (QF.qx (z4j (tg:=(.nm 0)) (ct:=none) rfl (qi_x (zlz (glg rfl) T.g_EVERY_WAY zbC)) rfl (z5E.ok (N':=["bearing","corners"]) (xn:=["corners","step_between","found","number","corner","step"]) (nt:=1) (js:=[0]) (osc:=z01 s_bearings_round) rfl rfl (by decide +kernel)) rfl (λC s2 H2 fp=>(z6q (i:=0) (show Nd ["bearing","corners"] from by decide) rfl rfl)) trivial (λC s2 H2 fp=>(z0y (z00 (qx_v (qv 0)) (z00 (z08 (qx_v (qv 1)) z02 (λ_ _=>rfl)) z03)))))))) z15)
   (z05 (z51 (ag 2 z1q.nd z1T (z3q z03)))
   (z05 (z7u (g:=(.nm 3)) PassesOwn.never rfl (glg rfl) T.n_range (z00 (z1I z1V lkN (glg rfl) T.n_len z3B (z00 (qx_v (vg 0 z1j)) z03)) z03) (ng 3 z1q.nd z2T) (z05 (z09 (ag 4 z1q.nd z1S (z08 (qx_v (vg 0 z1j)) (qx_v (vg 3 z2T)) (λ_ _=>rfl))))
   (z05 (z09 (ag 5 z1q.nd z2S (zbU tb (hr.mono (by decide)) zea (vg 1 z6H) (z00 (z08 (qx_v (vg 0 z1j)) (z04 z1x lk2 (qx_v (vg 3 z2T)) z02) (λ_ _=>rfl)) (z00 (qx_v (vg 4 z1S)) z03)))))
   (z05 (z6p (vg 2 z1T) (z00 (z0y (z00 (z0d qk hr (z00 (qx_v (vg 5 z2S)) z03) (glg rfl)) (z00 (qx_v (vg 4 z1S)) z03))) z03))
   (z07 (z2h (z0z (z3d hu) lk2 (z1I z1V lkN (glg rfl) T.n_len z3B (z00 (qx_v (vg 0 z1j)) z03)) z02 (z0n _)) (z07 (z6p (vg 2 z1T) (z00 (z0y (z00 (qx_v (vg 5 z2S)) (z00 (qx_v (vg 4 z1S)) z03))) z03))) z15))))))
   (z07 (z0e (qx_v (vg 2 z1T)))))))
theorem zeh (F:Fun K "dot_of" "dot_of" s_dot_of f fd):Fk P w K mg base 1 f fd ["one","other"] z3A:=by
 exact fnM F zdI λcdv A outer s H E hr hu=>(z07 (z0e (z04 z0E lk2 (z04 z0j lk2 (z08 (qx_v (vg 0 z9a)) z02 (λ_ _=>rfl)) (z08 (qx_v (vg 1 z99)) z02 (λ_ _=>rfl))) (z04 z0j lk2 (z08 (qx_v (vg 0 z9a)) z02 (λ_ _=>rfl)) (z08 (qx_v (vg 1 z99)) z02 (λ_ _=>rfl))))))
theorem zbh (F:Fun K "sides_of" "sides_of" s_sides_of f fd)(ql:Cl P w K mg base 1 "dot_of" ["one","other"] z3A)(qg:Cl P w K mg base 1 "step_of" ["start","end"] z1M)(qm:Cl P w K mg base 5 "least_headings" ["wind"] z1e)(qn:Cl P w K mg base 3 "bearings_round" ["corners","step_between"] z2n):Fk P w K mg base 6 f fd ["wind"] z5w:=by
 exact fnM F z7I λcdv A outer s H E hr hu=>(z05 (z09 (ag 1 z7I.nd z7f (z0d qn hr (z00 (z0d qm hr (z00 (qx_v (vg 0 zax)) z03) (glg rfl)) (z00 (zgR (n:=2) rfl (glg rfl) qg zeV) z03)) (glg rfl))))
   (z07 (z0e (z4N z39 lkN (glg rfl) T.n_tuple z4t (z00 (QF.qx (z4j (tg:=(.tp [0,1])) (ct:=none) rfl (qi_x (qx_v (vg 1 z7f))) rfl (z5E.ok (N':=["bearing","heading"]) (xn:=["wind","sides"]) (nt:=2) (js:=[]) (osc:=z01 s_sides_of) rfl rfl (by decide +kernel)) rfl (λC s2 H2 fp=>(z5H rfl (z0I (z9q (i:=0) (show Nd ["bearing","heading"] from by decide) rfl rfl) (z0I (z9q (i:=1) (show Nd ["bearing","heading"] from by decide) rfl rfl) z3K)))) trivial (λC s2 H2 fp=>(z0y (z00 (qx_v (qv 0)) (z00 (z0d ql hr (z00 (qx_v (qv 0)) (z00 (qx_v (qv 1)) z03))) z03)))))) z03)))))
theorem z8F (F:Fun K "lies_beyond" "lies_beyond" z24 f fd):Fk P w K mg base 1 f fd ["place","bearing","most"] z2a:=by
 exact fnM F z8z λcdv A outer s H E hr hu=>(z07 (z0e (z7d (zao hu) lk2 (z04 z0E lk2 (z04 z0j lk2 (z08 (qx_v (vg 1 z54)) z02 (λ_ _=>rfl)) (z08 (qx_v (vg 0 z3T)) z02 (λ_ _=>rfl))) (z04 z0j lk2 (z08 (qx_v (vg 1 z54)) z02 (λ_ _=>rfl)) (z08 (qx_v (vg 0 z3T)) z02 (λ_ _=>rfl)))) (z04 z0j lk2 (qx_v (vg 2 z87)) (z08 (qx_v (vg 0 z3T)) z02 (λ_ _=>rfl))) (z0n _))))
theorem z6w (F:Fun K "barring_bearing" "barring_bearing" z0R f fd)(qo:Cl P w K mg base 6 "sides_of" ["wind"] z5w)(qp:Cl P w K mg base 1 "lies_beyond" ["place","bearing","most"] z2a):Fk P w K mg base 7 f fd ["headings","place"] z2c:=by
 exact fnM F z2y λcdv A outer s H E hr hu=>(z05 (z52 (js:=[]) (g:=(.tp [2,3])) PassesOwn.never rfl (qi_x (z0d qo hr (z00 (qx_v (vg 0 z6e)) z03) (glg rfl))) (z5H rfl (z0I (ng 2 z2y.nd z2o) (z0I (ng 3 z2y.nd z3V) z3K))) (z07 (z2h (zbf (z0d qp hr (z00 (qx_v (vg 1 z6d)) (z00 (qx_v (vg 2 z2o)) (z00 (qx_v (vg 3 z3V)) z03))) (glg rfl))) (z07 (z0e (qx_v (vg 2 z2o)))) z15)))
   (z07 (z0e zgQ)))
theorem zef (F:Fun K "way_to" "way_to" s_way_to f fd):Fk P w K mg base 1 f fd ["vector","place"] z5v:=by
 exact fnM F zdH λcdv A outer s H E hr hu=>(z07 (z0e (z0y (z00 (z04 z1x lk2 (z08 (qx_v (vg 1 z5t)) z02 (λ_ _=>rfl)) (z04 z0j lk2 (z08 (qx_v (vg 0 z97)) z02 (λ_ _=>rfl)) (z08 (qx_v (vg 1 z5t)) z02 (λ_ _=>rfl)))) (z00 (z04 z1x lk2 (z08 (qx_v (vg 1 z5t)) z02 (λ_ _=>rfl)) (z04 z0j lk2 (z08 (qx_v (vg 0 z97)) z02 (λ_ _=>rfl)) (z08 (qx_v (vg 1 z5t)) z02 (λ_ _=>rfl)))) z03)))))
theorem z9z (F:Fun K "line_parts" "line_parts" z1w f fd)(ql:Cl P w K mg base 1 "dot_of" ["one","other"] z3A)(qg:Cl P w K mg base 1 "step_of" ["start","end"] z1M)(qq:Cl P w K mg base 1 "way_to" ["vector","place"] z5v):Fk P w K mg base 2 f fd ["corners","place"] z4e:=by
 exact fnM F z3s λcdv A outer s H E hr hu=>(z05 (z09 (ag 2 z3s.nd z34 (z0d qg hr (z00 (z08 (qx_v (vg 0 z4o)) z02 (λ_ _=>rfl)) (z00 (z08 (qx_v (vg 0 z4o)) z02 (λ_ _=>rfl)) z03)) (glg rfl))))
   (z05 (z09 (ag 3 z3s.nd z5O (z04 z0j lk2 (z0d ql hr (z00 (qx_v (vg 2 z34)) (z00 (qx_v (vg 2 z34)) z03)) (glg rfl)) (z08 (qx_v (vg 1 z5P)) z02 (λ_ _=>rfl)))))
   (z05 (z09 (ag 4 z3s.nd z4n (z0d ql hr (z00 (z0d qq hr (z00 (z08 (qx_v (vg 0 z4o)) z02 (λ_ _=>rfl)) (z00 (qx_v (vg 1 z5P)) z03)) (glg rfl)) (z00 (qx_v (vg 2 z34)) z03)) (glg rfl))))
   (z07 (z0e (z0y (z00 (z04 z1x lk2 (qx_v (vg 3 z5O)) (qx_v (vg 4 z4n))) (z00 (qx_v (vg 4 z4n)) z03))))))))
theorem z6Y (F:Fun K "triangle_parts" "triangle_parts" z0m f fd)(qf:Cl P w K mg base 1 "turn_of" ["one","other"] z3f)(qg:Cl P w K mg base 1 "step_of" ["start","end"] z1M)(qq:Cl P w K mg base 1 "way_to" ["vector","place"] z5v):Fk P w K mg base 2 f fd ["corners","place"] z1d:=by
 exact fnM F z0P λcdv A outer s H E hr hu=>(z05 (z09 (ag 2 z0P.nd z2G (z0d qg hr (z00 (z08 (qx_v (vg 0 z1g)) z02 (λ_ _=>rfl)) (z00 (z08 (qx_v (vg 0 z1g)) z02 (λ_ _=>rfl)) z03)) (glg rfl))))
   (z05 (z09 (ag 3 z0P.nd z2F (z0d qg hr (z00 (z08 (qx_v (vg 0 z1g)) z02 (λ_ _=>rfl)) (z00 (z08 (qx_v (vg 0 z1g)) z02 (λ_ _=>rfl)) z03)) (glg rfl))))
   (z05 (z09 (ag 4 z0P.nd z2E (z0d qq hr (z00 (z08 (qx_v (vg 0 z1g)) z02 (λ_ _=>rfl)) (z00 (qx_v (vg 1 z43)) z03)) (glg rfl))))
   (z05 (z09 (ag 5 z0P.nd z42 (z04 z0j lk2 (z0d qf hr (z00 (qx_v (vg 2 z2G)) (z00 (qx_v (vg 3 z2F)) z03)) (glg rfl)) (z08 (qx_v (vg 1 z43)) z02 (λ_ _=>rfl)))))
   (z05 (z09 (ag 6 z0P.nd z2D (z0d qf hr (z00 (qx_v (vg 4 z2E)) (z00 (qx_v (vg 3 z2F)) z03)) (glg rfl))))
   (z05 (z09 (ag 7 z0P.nd z2C (z0d qf hr (z00 (qx_v (vg 2 z2G)) (z00 (qx_v (vg 4 z2E)) z03)) (glg rfl))))
   (z07 (z0e (z0y (z00 (z04 z1x lk2 (z04 z1x lk2 (qx_v (vg 5 z42)) (qx_v (vg 6 z2D))) (qx_v (vg 7 z2C))) (z00 (qx_v (vg 6 z2D)) (z00 (qx_v (vg 7 z2C)) z03))))))))))))
theorem z6u (F:Fun K "triangle_around" "triangle_around" z0Q f fd)(qr:Cl P w K mg base 2 "triangle_parts" ["corners","place"] z1d):Fk P w K mg base 3 f fd ["headings","place"] z29:=by
 exact fnM F z1f λcdv A outer s H E hr hu=>(z05 (z09 (ag 2 z1f.nd z16 z02))
   (z05 (z09 (ag 3 z1f.nd z1B (zbe (qx_v (vg 0 z1C)) z64 (z4i z02))))
   (z05 (z4B PassesOwn.never (z0z (zbp hu) lk2 (z1I (ziC rfl) lkN (glg rfl) T.n_min zl7 (z00 (z0d qr hr (z00 (qx_v (vg 3 z1B)) (z00 (qx_v (vg 1 z67)) z03)) (glg rfl)) z03)) z02 (z0n _)) (z05 (z09 (ag 2 z1f.nd z16 (z04 z0E lk2 (qx_v (vg 2 z16)) z02)))
   (z07 (z09 (ag 3 z1f.nd z1B (z0y (z00 (z08 (qx_v (vg 0 z1C)) z02 (λ_ _=>rfl)) (z00 (z08 (qx_v (vg 0 z1C)) (z04 z1x lk2 (qx_v (vg 2 z16)) z02) (λ_ _=>rfl)) (z00 (z08 (qx_v (vg 0 z1C)) (qx_v (vg 2 z16)) (λ_ _=>rfl)) z03)))))))))
   (z07 (z0e (qx_v (vg 3 z1B)))))))
theorem z72 (F:Fun K "common_divisor" "common_divisor" z0N f fd):Fk P w K mg base 1 f fd ["one","other"] z0b:=by
 exact fnM F z12 λcdv A outer s H E hr hu=>(z05 (z09 (ag 2 z12.nd z1R (z1I zaM lkN (glg rfl) T.n_abs zf8 (z00 (qx_v (vg 0 z6G)) z03))))
   (z05 (z09 (ag 3 z12.nd z1i (z1I zaM lkN (glg rfl) T.n_abs zf8 (z00 (qx_v (vg 1 z6F)) z03))))
   (z05 (z4B PassesOwn.never (z0z (zig hu) lk2 (qx_v (vg 3 z1i)) z02 (z0n _)) (z05 (z09 (ag 4 z12.nd z4a (z04 z0S lk2 (qx_v (vg 2 z1R)) (qx_v (vg 3 z1i)))))
   (z05 (z09 (ag 2 z12.nd z1R (qx_v (vg 3 z1i))))
   (z07 (z09 (ag 3 z12.nd z1i (qx_v (vg 4 z4a))))))))
   (z07 (z0e (qx_v (vg 2 z1R)))))))
theorem zeg (F:Fun K "lowest" "lowest" s_lowest f fd)(qs:Cl P w K mg base 1 "common_divisor" ["one","other"] z0b):Fk P w K mg base 2 f fd ["top","bottom"] z7y:=by
 exact fnM F z7J λcdv A outer s H E hr hu=>(z05 (z2h (z0z (z3d hu) lk2 (qx_v (vg 1 z5u)) z02 (z0n _)) (z07 zbT) z15)
   (z05 (z09 (ag 2 z7J.nd z4x (z0d qs hr (z00 (qx_v (vg 1 z5u)) (z00 (qx_v (vg 0 z98)) z03)) (glg rfl))))
   (z05 (z2h (z0z (zbp hu) lk2 (qx_v (vg 1 z5u)) z02 (z0n _)) (z07 (z09 (ag 2 z7J.nd z4x (z7q z4O lk1 (qx_v (vg 2 z4x)))))) z15)
   (z07 (z0e (z0y (z00 (z04 z0J lk2 (qx_v (vg 0 z98)) (qx_v (vg 2 z4x))) (z00 (z04 z0J lk2 (qx_v (vg 1 z5u)) (qx_v (vg 2 z4x))) z03))))))))
theorem z6v (F:Fun K "shares_of_parts" "shares_of_parts" z0F f fd)(qt:Cl P w K mg base 2 "lowest" ["top","bottom"] z7y):Fk P w K mg base 3 f fd ["wind","corners","parts"] z1u:=by
 exact fnM F z2x λcdv A outer s H E hr hu=>(z05 (z09 (ag 3 z2x.nd z69 (z1I (ziB rfl) lkN (glg rfl) T.n_sum zf7 (z00 (qx_v (vg 2 z3N)) z03))))
   (z05 (z09 (QS.sh (zbg (iy:=4) (tg:=(.tp [0,1])) (ct:=(some _)) z2x.nd rfl rfl rfl (zfG (glg rfl) T.n_zip (z00 (qx_v (vg 1 z6a)) (z00 (qx_v (vg 2 z3N)) z03))) rfl (z5E.ok (N':=["corner","part","whole","wind"]) (xn:=["wind","corners","parts","whole","shares"]) (nt:=2) (js:=[3,0]) (osc:=z01 z0F) rfl rfl (by decide +kernel)) rfl (λC s2 H2 fp=>(z5H rfl (z0I (z9q (i:=0) (show Nd ["corner","part","whole","wind"] from by decide) rfl rfl) (z0I (z9q (i:=1) (show Nd ["corner","part","whole","wind"] from by decide) rfl rfl) z3K)))) (λC s2 H2 fp=>(z0z (zao hu) lk2 (qx_v (qv 1)) z02 (z0n _))) (λC s2 H2 fp=>(z0y (z00 (zcJ hu (qx_v (qv 3)) (z00 (qx_v (qv 0)) z03)) (z00 (z0d qt hr (z00 (qx_v (qv 1)) (z00 (qx_v (qv 2)) z03))) z03)))))))
   (z07 (z0e (z4N z39 lkN (glg rfl) T.n_tuple z4t (z00 (QF.qx (zlC zgo (glg rfl) T.n_sorted zgv (z00 (qx_v (vg 4 z68)) z03) zg7 zgm)) z03))))))
theorem zak (F:Fun K "shares_to" "shares_to" s_shares_to f fd)(qm:Cl P w K mg base 5 "least_headings" ["wind"] z1e)(qu:Cl P w K mg base 7 "barring_bearing" ["headings","place"] z2c)(qw:Cl P w K mg base 2 "line_parts" ["corners","place"] z4e)(qr:Cl P w K mg base 2 "triangle_parts" ["corners","place"] z1d)(qy:Cl P w K mg base 3 "triangle_around" ["headings","place"] z29)(qz:Cl P w K mg base 3 "shares_of_parts" ["wind","corners","parts"] z1u):Fk P w K mg base 8 f fd ["wind","place"] z4L:=by
 exact fnM F z1v λcdv A outer s H E hr hu=>(z05 (z09 (ag 2 z1v.nd z25 (z0d qm hr (z00 (qx_v (vg 0 z6C)) z03) (glg rfl))))
   (z05 (z09 (ag 3 z1v.nd z4F (z0d qu hr (z00 (qx_v (vg 2 z25)) (z00 (qx_v (vg 1 z3v)) z03)) (glg rfl))))
   (z05 (z2h (z0z zg2 lk2 (qx_v (vg 3 z4F)) zgQ (z0n _)) (z07 (z0e (z0y (z00 z7L (z00 (qx_v (vg 3 z4F)) z03))))) z15)
   (z05 (z09 (ag 4 z1v.nd z2H (qx_v (vg 2 z25))))
   (z05 (z09 (ag 5 z1v.nd z3u (z0y (z00 z02 z03))))
   (z05 (z2h (z0z (z3d hu) lk2 (z1I z1V lkN (glg rfl) T.n_len z3B (z00 (qx_v (vg 2 z25)) z03)) z02 (z0n _)) (z07 (z09 (ag 5 z1v.nd z3u (z0d qw hr (z00 (qx_v (vg 4 z2H)) (z00 (qx_v (vg 1 z3v)) z03)) (glg rfl))))) z15)
   (z05 (z2h (z0z (zao hu) lk2 (z1I z1V lkN (glg rfl) T.n_len z3B (z00 (qx_v (vg 2 z25)) z03)) z02 (z0n _)) (z05 (z09 (ag 4 z1v.nd z2H (z0d qy hr (z00 (qx_v (vg 2 z25)) (z00 (qx_v (vg 1 z3v)) z03)) (glg rfl))))
   (z07 (z09 (ag 5 z1v.nd z3u (z0d qr hr (z00 (qx_v (vg 4 z2H)) (z00 (qx_v (vg 1 z3v)) z03)) (glg rfl)))))) z15)
   (z07 (z0e (z0y (z00 z7L (z00 (z0d qz hr (z00 (qx_v (vg 0 z6C)) (z00 (qx_v (vg 4 z2H)) (z00 (qx_v (vg 5 z3u)) z03))) (glg rfl)) z03))))))))))))
theorem zbl (F:Fun K "is_share" "is_share" s_is_share f fd)(qs:Cl P w K mg base 1 "common_divisor" ["one","other"] z0b):Fk P w K mg base 2 f fd ["share"] z5y:=by
 exact fnM F zba λcdv A outer s H E hr hu=>(z07 (z0e (zbV (z7d (zao hu) lk2 (z08 (qx_v (vg 0 z49)) z02 (λ_ _=>rfl)) z02 (z0n _)) (zbV (z7d (zao hu) lk2 (z08 (qx_v (vg 0 z49)) z02 (λ_ _=>rfl)) z02 (z0n _)) (zgP (z7d (z3d hu) lk2 (z0d qs hr (z00 (z08 (qx_v (vg 0 z49)) z02 (λ_ _=>rfl)) (z00 (z08 (qx_v (vg 0 z49)) z02 (λ_ _=>rfl)) z03)) (glg rfl)) z02 (z0n _)))))))
theorem z9F (F:Fun K "are_shares" "are_shares" s_are_shares f fd)(q0:Cl P w K mg base 2 "is_share" ["share"] z5y):Fk P w K mg base 3 f fd ["wind","shares"] z2u:=by
 exact fnM F z2z λcdv A outer s H E hr hu=>(z05 (z09 (ag 2 z2z.nd z4s (z7q z4O lk1 z02)))
   (z05 (z52 (js:=[]) (g:=(.tp [3,4])) PassesOwn.never rfl (qi_x (qx_v (vg 1 z8P))) (z5H rfl (z0I (ng 3 z2z.nd z37) (z0I (ng 4 z2z.nd z5X) z3K))) (z05 (z2h (QW.pt (zgS (z0z (zih hu) lk2 (qx_v (vg 3 z37)) (qx_v (vg 2 z4s)) (z0n _)) (zgS (z0z zlW lk2 (qx_v (vg 3 z37)) (z1I z1V lkN (glg rfl) T.n_len z3B (z00 (qx_v (vg 0 z8Q)) z03)) (z0n _)) (zhH (zdS (zbf (z0d q0 hr (z00 (qx_v (vg 4 z5X)) z03) (glg rfl)))))))) (z07 (z0e z9p)) z15)
   (z07 (z09 (ag 2 z2z.nd z4s (qx_v (vg 3 z37)))))))
   (z07 (z0e z9p))))
theorem zbm (F:Fun K "farthest" "farthest" s_farthest f fd)(ql:Cl P w K mg base 1 "dot_of" ["one","other"] z3A):Fk P w K mg base 2 f fd ["wind","bearing"] z5z:=by
 exact fnM F zbb λcdv A outer s H E hr hu=>(z07 (z0e (z1I (ziF rfl) lkN (glg rfl) T.n_max zl8 (z00 (QF.qx (z4j (tg:=(.nm 0)) (ct:=none) rfl (qi_x (qx_v (vg 0 zay))) rfl (z5E.ok (N':=["heading","bearing"]) (xn:=["wind","bearing"]) (nt:=1) (js:=[1]) (osc:=z01 s_farthest) rfl rfl (by decide +kernel)) rfl (λC s2 H2 fp=>(z6q (i:=0) (show Nd ["heading","bearing"] from by decide) rfl rfl)) trivial (λC s2 H2 fp=>(z0d ql hr (z00 (qx_v (qv 0)) (z00 (qx_v (qv 1)) z03)))))) z03))))
theorem zg0 (F:Fun K "added" "added" s_added f fd)(qs:Cl P w K mg base 1 "common_divisor" ["one","other"] z0b):Fk P w K mg base 2 f fd ["one","other"] z9T:=by
 exact fnM F z5p λcdv A outer s H E hr hu=>(z05 (z09 (ag 2 z5p.nd z6I (z0d qs hr (z00 (z08 (qx_v (vg 0 z8g)) z02 (λ_ _=>rfl)) (z00 (z08 (qx_v (vg 1 z6J)) z02 (λ_ _=>rfl)) z03)) (glg rfl))))
   (z05 (z09 (ag 3 z5p.nd zaB (z04 z0J lk2 (z08 (qx_v (vg 1 z6J)) z02 (λ_ _=>rfl)) (qx_v (vg 2 z6I)))))
   (z05 (z09 (ag 4 z5p.nd z8f (z04 z0J lk2 (z08 (qx_v (vg 0 z8g)) z02 (λ_ _=>rfl)) (qx_v (vg 2 z6I)))))
   (z05 (z09 (ag 5 z5p.nd z8e (z04 z0E lk2 (z04 z0j lk2 (z08 (qx_v (vg 0 z8g)) z02 (λ_ _=>rfl)) (qx_v (vg 3 zaB))) (z04 z0j lk2 (z08 (qx_v (vg 1 z6J)) z02 (λ_ _=>rfl)) (qx_v (vg 4 z8f))))))
   (z05 (z09 (ag 6 z5p.nd z8d (z0d qs hr (z00 (qx_v (vg 2 z6I)) (z00 (qx_v (vg 5 z8e)) z03)) (glg rfl))))
   (z07 (z0e (z0y (z00 (z04 z0J lk2 (qx_v (vg 5 z8e)) (qx_v (vg 6 z8d))) (z00 (z04 z0j lk2 (qx_v (vg 4 z8f)) (z04 z0J lk2 (z08 (qx_v (vg 1 z6J)) z02 (λ_ _=>rfl)) (qx_v (vg 6 z8d)))) z03))))))))))
theorem z9x (F:Fun K "shares_sum" "shares_sum" s_shares_sum f fd)(q1:Cl P w K mg base 2 "added" ["one","other"] z9T):Fk P w K mg base 3 f fd ["shares"] z4c:=by
 exact fnM F z2w λcdv A outer s H E hr hu=>(z05 (z09 (ag 1 z2w.nd z32 (z0y (z00 z02 (z00 z02 z03)))))
   (z05 (z52 (js:=[]) (g:=(.tp [2,3])) PassesOwn.never rfl (qi_x (qx_v (vg 0 z8N))) (z5H rfl (z0I (ng 2 z2w.nd z8M) (z0I (ng 3 z2w.nd z5J) z3K))) (z07 (z09 (ag 1 z2w.nd z32 (z0d q1 hr (z00 (qx_v (vg 1 z32)) (z00 (qx_v (vg 3 z5J)) z03)) (glg rfl))))))
   (z07 (z0e (qx_v (vg 1 z32))))))
theorem z8E (F:Fun K "place_added" "place_added" s_place_added f fd)(qs:Cl P w K mg base 1 "common_divisor" ["one","other"] z0b):Fk P w K mg base 2 f fd ["one","other"] z3y:=by
 exact fnM F z1l λcdv A outer s H E hr hu=>(z05 (z09 (ag 2 z1l.nd z2K (z0d qs hr (z00 (z08 (qx_v (vg 0 z2L)) z02 (λ_ _=>rfl)) (z00 (z08 (qx_v (vg 1 z1Z)) z02 (λ_ _=>rfl)) z03)) (glg rfl))))
   (z05 (z09 (ag 3 z1l.nd z3S (z04 z0J lk2 (z08 (qx_v (vg 1 z1Z)) z02 (λ_ _=>rfl)) (qx_v (vg 2 z2K)))))
   (z05 (z09 (ag 4 z1l.nd z2J (z04 z0J lk2 (z08 (qx_v (vg 0 z2L)) z02 (λ_ _=>rfl)) (qx_v (vg 2 z2K)))))
   (z05 (z09 (ag 5 z1l.nd z3R (z04 z0E lk2 (z04 z0j lk2 (z08 (qx_v (vg 0 z2L)) z02 (λ_ _=>rfl)) (qx_v (vg 3 z3S))) (z04 z0j lk2 (z08 (qx_v (vg 1 z1Z)) z02 (λ_ _=>rfl)) (qx_v (vg 4 z2J))))))
   (z05 (z09 (ag 6 z1l.nd z3Q (z04 z0E lk2 (z04 z0j lk2 (z08 (qx_v (vg 0 z2L)) z02 (λ_ _=>rfl)) (qx_v (vg 3 z3S))) (z04 z0j lk2 (z08 (qx_v (vg 1 z1Z)) z02 (λ_ _=>rfl)) (qx_v (vg 4 z2J))))))
   (z05 (z09 (ag 7 z1l.nd z2I (z0d qs hr (z00 (z0d qs hr (z00 (qx_v (vg 2 z2K)) (z00 (qx_v (vg 5 z3R)) z03)) (glg rfl)) (z00 (qx_v (vg 6 z3Q)) z03)) (glg rfl))))
   (z07 (z0e (z0y (z00 (z04 z0J lk2 (qx_v (vg 5 z3R)) (qx_v (vg 7 z2I))) (z00 (z04 z0J lk2 (qx_v (vg 6 z3Q)) (qx_v (vg 7 z2I))) (z00 (z04 z0j lk2 (qx_v (vg 4 z2J)) (z04 z0J lk2 (z08 (qx_v (vg 1 z1Z)) z02 (λ_ _=>rfl)) (qx_v (vg 7 z2I)))) z03))))))))))))
theorem z7Q (F:Fun K "lowest_place" "lowest_place" s_lowest_place f fd)(qs:Cl P w K mg base 1 "common_divisor" ["one","other"] z0b):Fk P w K mg base 2 f fd ["x","y","bottom"] z38:=by
 exact fnM F z4Z λcdv A outer s H E hr hu=>(z05 (z09 (ag 3 z4Z.nd z2j (z0d qs hr (z00 (z0d qs hr (z00 (qx_v (vg 2 z4Q)) (z00 (qx_v (vg 0 z4S)) z03)) (glg rfl)) (z00 (qx_v (vg 1 z4R)) z03)) (glg rfl))))
   (z07 (z0e (z0y (z00 (z04 z0J lk2 (qx_v (vg 0 z4S)) (qx_v (vg 3 z2j))) (z00 (z04 z0J lk2 (qx_v (vg 1 z4R)) (qx_v (vg 3 z2j))) (z00 (z04 z0J lk2 (qx_v (vg 2 z4Q)) (qx_v (vg 3 z2j))) z03)))))))
theorem z8D (F:Fun K "place_times" "place_times" s_place_times f fd)(q2:Cl P w K mg base 2 "lowest_place" ["x","y","bottom"] z38):Fk P w K mg base 3 f fd ["place","fraction"] z3x:=by
 exact fnM F z8y λcdv A outer s H E hr hu=>(z07 (z0e (z0d q2 hr (z00 (z04 z0j lk2 (z08 (qx_v (vg 0 z3P)) z02 (λ_ _=>rfl)) (z08 (qx_v (vg 1 z3O)) z02 (λ_ _=>rfl))) (z00 (z04 z0j lk2 (z08 (qx_v (vg 0 z3P)) z02 (λ_ _=>rfl)) (z08 (qx_v (vg 1 z3O)) z02 (λ_ _=>rfl))) (z00 (z04 z0j lk2 (z08 (qx_v (vg 0 z3P)) z02 (λ_ _=>rfl)) (z08 (qx_v (vg 1 z3O)) z02 (λ_ _=>rfl))) z03))) (glg rfl))))
theorem z9y (F:Fun K "shares_end" "shares_end" s_shares_end f fd)(q3:Cl P w K mg base 2 "place_added" ["one","other"] z3y)(q4:Cl P w K mg base 3 "place_times" ["place","fraction"] z3x)(q5:Cl P w K mg base 3 "are_shares" ["wind","shares"] z2u):Fk P w K mg base 4 f fd ["wind","shares"] z4d:=by
 exact fnM F z23 λcdv A outer s H E hr hu=>(z05 (z2h (zdS (zbf (z0d q5 hr (z00 (qx_v (vg 0 z5N)) (z00 (qx_v (vg 1 z5M)) z03)) (glg rfl)))) (z07 zbT) z15)
   (z05 (z09 (ag 2 z23.nd z33 (z0y (z00 z02 (z00 z02 (z00 z02 z03))))))
   (z05 (z52 (js:=[]) (g:=(.tp [3,4])) PassesOwn.never rfl (qi_x (qx_v (vg 1 z5M))) (z5H rfl (z0I (ng 3 z23.nd z5L) (z0I (ng 4 z23.nd z5K) z3K))) (z05 (z09 (ag 5 z23.nd z4m (z08 (qx_v (vg 0 z5N)) (qx_v (vg 3 z5L)) (λ_ _=>rfl))))
   (z07 (z09 (ag 2 z23.nd z33 (z0d q3 hr (z00 (qx_v (vg 2 z33)) (z00 (z0d q4 hr (z00 (z0y (z00 (z08 (qx_v (vg 5 z4m)) z02 (λ_ _=>rfl)) (z00 (z08 (qx_v (vg 5 z4m)) z02 (λ_ _=>rfl)) (z00 z02 z03)))) (z00 (qx_v (vg 4 z5K)) z03)) (glg rfl)) z03)) (glg rfl)))))))
   (z07 (z0e (qx_v (vg 2 z33)))))))
theorem z7P (F:Fun K "shares_stand" "shares_stand" z1n f fd)(q6:Cl P w K mg base 2 "farthest" ["wind","bearing"] z5z)(q5:Cl P w K mg base 3 "are_shares" ["wind","shares"] z2u)(q7:Cl P w K mg base 3 "shares_sum" ["shares"] z4c)(q8:Cl P w K mg base 4 "shares_end" ["wind","shares"] z4d)(qp:Cl P w K mg base 1 "lies_beyond" ["place","bearing","most"] z2a):Fk P w K mg base 5 f fd ["wind","place","answer"] z1O:=by
 exact fnM F z4Y λcdv A outer s H E hr hu=>(z05 (z2h (z0z (z3d hu) lk2 (z08 (qx_v (vg 2 z1J)) z02 (λ_ _=>rfl)) z7L (z0n _)) (z05 (z09 (ag 3 z4Y.nd z2i (z08 (qx_v (vg 2 z1J)) z02 (λ_ _=>rfl))))
   (z07 (z0e (zbV (z0d q5 hr (z00 (qx_v (vg 0 z3j)) (z00 (qx_v (vg 3 z2i)) z03)) (glg rfl)) (zbV (z7d (z3d hu) lk2 (z0d q7 hr (z00 (qx_v (vg 3 z2i)) z03) (glg rfl)) (z0y (z00 z02 (z00 z02 z03))) (z0n _)) (zgP (z7d (z3d hu) lk2 (z0d q8 hr (z00 (qx_v (vg 0 z3j)) (z00 (qx_v (vg 3 z2i)) z03)) (glg rfl)) (qx_v (vg 1 z4P)) (z0n _)))))))) z15)
   (z05 (z2h (z0z (z3d hu) lk2 (z08 (qx_v (vg 2 z1J)) z02 (λ_ _=>rfl)) z7L (z0n _)) (z07 (z0e (z0d qp hr (z00 (qx_v (vg 1 z4P)) (z00 (z08 (qx_v (vg 2 z1J)) z02 (λ_ _=>rfl)) (z00 (z0d q6 hr (z00 (qx_v (vg 0 z3j)) (z00 (z08 (qx_v (vg 2 z1J)) z02 (λ_ _=>rfl)) z03)) (glg rfl)) z03))) (glg rfl)))) z15)
   (z07 (z0e z9p))))
theorem zkp (F:Fun K "law" "law" z6W f fd)(q9:Cl P w K mg base 8 "shares_to" ["wind","place"] z4L)(qA:Cl P w K mg base 5 "shares_stand" ["wind","place","answer"] z1O)(qB:Cl P w K mg base 4 "_law_pairs" ["script"] z13)(qC:Cl P w K mg base 3 "_law_least" ["points"] z2b)(qd:Cl P w K mg base 3 "_law_end" ["wind","shares"] z0T)(qe:Cl P w K mg base 3 "_law_shares_by" ["wind","cell","some"] z0t)(qD:Cl P w K mg base 4 "_law_place_by" ["wind","cell"] z1o)(qE:Cl P w K mg base 3 "_law_bearings" ["corners","cell"] z1p):Fk P w K mg base 9 f fd ["script"] z8l:=by
 exact fnM F z5G λcdv A outer s H E hr hu=>(z05 (z52 (js:=[]) (g:=(.tp [1,2])) PassesOwn.never rfl (qi_x (z0d qB hr (z00 (qx_v (vg 0 ziy)) z03) (glg rfl))) (z5H rfl (z0I (ng 1 z5G.nd z4K) (z0I (ng 2 z5G.nd zeG) z3K))) (z05 (z09 (ag 3 z5G.nd zeF (z0d qC hr (z00 (qx_v (vg 1 z4K)) z03) (glg rfl))))
   (z07 (z7u (g:=(.nm 4)) PassesOwn.never rfl (glg rfl) T.n_range (z00 z02 z03) (ng 4 z5G.nd zeE) (z05 (z09 (ag 5 z5G.nd z9Q (z04 z0E lk2 (qx_v (vg 2 zeG)) (z04 z0j lk2 z02 (qx_v (vg 4 zeE))))))
   (z05 (z09 (ag 6 z5G.nd z8c (z0d qD hr (z00 (qx_v (vg 1 z4K)) (z00 (qx_v (vg 5 z9Q)) z03)) (glg rfl))))
   (z07 (z2h (z0z (z3d hu) lk2 (z08 (z0d q9 hr (z00 (qx_v (vg 1 z4K)) (z00 (qx_v (vg 6 z8c)) z03)) (glg rfl)) z02 (λ_ _=>rfl)) z7L (z0n _)) (z07 (z52 (js:=[]) (g:=(.nm 7)) PassesOwn.never rfl (qi_x (z0d qE hr (z00 (qx_v (vg 3 zeF)) (z00 (qx_v (vg 5 z9Q)) z03)) (glg rfl))) (ng 7 z5G.nd zeD) (z07 (z2h (z0z zan lk2 (z0d qA hr (z00 (qx_v (vg 1 z4K)) (z00 (qx_v (vg 6 z8c)) (z00 (z0y (z00 z7L (z00 (qx_v (vg 7 zeD)) z03))) z03))) (glg rfl)) z9p (z0n _)) (z07 (z0e z9p)) z15)))) (z07 (z7u (g:=(.nm 8)) PassesOwn.never rfl (glg rfl) T.n_range (z00 z02 z03) (ng 8 z5G.nd zeC) (z05 (z09 (ag 9 z5G.nd zby (z0d qe hr (z00 (qx_v (vg 1 z4K)) (z00 (z04 z0E lk2 (qx_v (vg 5 z9Q)) (qx_v (vg 8 zeC))) (z00 (QF.qx (z5I rfl (glg rfl) T.n_list (glg rfl) T.n_range (z00 (z1I z1V lkN (glg rfl) T.n_len z3B (z00 (qx_v (vg 1 z4K)) z03)) z03))) z03))) (glg rfl))))
   (z05 (z2h (z0z (z3d hu) lk2 (z0d qd hr (z00 (qx_v (vg 1 z4K)) (z00 (qx_v (vg 9 zby)) z03)) (glg rfl)) (qx_v (vg 6 z8c)) (z0n _)) (z07 (z0e z9p)) z15)
   (z07 (z2h (z0z zan lk2 (z0d qA hr (z00 (qx_v (vg 1 z4K)) (z00 (qx_v (vg 6 z8c)) (z00 (z0y (z00 z7L (z00 (qx_v (vg 9 zby)) z03))) z03))) (glg rfl)) z9p (z0n _)) (z07 (z0e z9p)) z15))))))))))))))
   (z07 (z0e z9p)))
end
def zla {l:PySem.W.OpenLaw}{w:World}{K:W.Frag}{h:Heap}{mg:Str->Option Value}{fa f0 f1 f2 f3 f4 f5 f6 f7 f8 f9 f10 f11 f12 f13 f14 f15 f16 f17 f18 f19 f20 f21 f22 f23 f24 f25 f26 f27 f28 f29 f30 f31 f32 f33 f34 f35 f36 f37 f38 f39 f40 f41 f42 f43 f44 f45 f46 f47 f48 f49:Addr}(X:K.In h)(G:h.Ns mainGlobals mg)(hfa:mg "law"=some (.ref fa))
  (d0:Std K "_law_cell_at" z2B f0)
  (d1:Std K "_law_digits" z2t f1)
  (d2:Std K "_law_free_pairs" z0B f2)
  (d3:Std K "_law_mix" z3I f3)
  (d4:Std K "_law_vector" z1Y f4)
  (d5:Std K "_law_within" z40 f5)
  (d6:Std K "_law_wind" z1b f6)
  (d7:Std K "_law_far_off" z2A f7)
  (d8:Std K "_law_pairs" z14 f8)
  (d9:Std K "_law_turn" z2r f9)
  (d10:Std K "_law_half_round" z1c f10)
  (d11:Std K "_law_least" z3J f11)
  (d12:Std K "_law_common" z3a f12)
  (d13:Std K "_law_reduced" z1y f13)
  (d14:Std K "_law_end" s_law_end f14)
  (d15:Std K "_law_lowest" z2s f15)
  (d16:Std K "_law_shares_by" z0s f16)
  (d17:Std K "_law_place_by" z0k f17)
  (d18:Std K "_law_bearings" z0H f18)
  (d19:Std K "turn_of" s_turn_of f19)
  (d20:Std K "step_of" s_step_of f20)
  (d21:Std K "turn_by" s_turn_by f21)
  (d22:Std K "chain_of" s_chain_of f22)
  (d23:Std K "least_round" s_least_round f23)
  (d24:Std K "least_headings" s_least_headings f24)
  (d25:Std K "right_of" s_right_of f25)
  (d26:Std K "bearings_round" s_bearings_round f26)
  (d27:Std K "dot_of" s_dot_of f27)
  (d28:Std K "sides_of" s_sides_of f28)
  (d29:Std K "lies_beyond" z24 f29)
  (d30:Std K "barring_bearing" z0R f30)
  (d31:Std K "way_to" s_way_to f31)
  (d32:Std K "line_parts" z1w f32)
  (d33:Std K "triangle_parts" z0m f33)
  (d34:Std K "triangle_around" z0Q f34)
  (d35:Std K "common_divisor" z0N f35)
  (d36:Std K "lowest" s_lowest f36)
  (d37:Std K "shares_of_parts" z0F f37)
  (d38:Std K "shares_to" s_shares_to f38)
  (d39:Std K "is_share" s_is_share f39)
  (d40:Std K "are_shares" s_are_shares f40)
  (d41:Std K "farthest" s_farthest f41)
  (d42:Std K "added" s_added f42)
  (d43:Std K "shares_sum" s_shares_sum f43)
  (d44:Std K "place_added" s_place_added f44)
  (d45:Std K "lowest_place" s_lowest_place f45)
  (d46:Std K "place_times" s_place_times f46)
  (d47:Std K "shares_end" s_shares_end f47)
  (d48:Std K "shares_stand" z1n f48)
  (d49:Std K "law" z6W f49)
  (z_abs:PySem.W.nsIn K mainGlobals "abs"=some none)
  (z_int:PySem.W.nsIn K mainGlobals "int"=some none)
  (z_len:PySem.W.nsIn K mainGlobals "len"=some none)
  (z_list:PySem.W.nsIn K mainGlobals "list"=some none)
  (z_max:PySem.W.nsIn K mainGlobals "max"=some none)
  (z_min:PySem.W.nsIn K mainGlobals "min"=some none)
  (z_range:PySem.W.nsIn K mainGlobals "range"=some none)
  (z_reversed:PySem.W.nsIn K mainGlobals "reversed"=some none)
  (z_set:PySem.W.nsIn K mainGlobals "set"=some none)
  (z_sorted:PySem.W.nsIn K mainGlobals "sorted"=some none)
  (z_sum:PySem.W.nsIn K mainGlobals "sum"=some none)
  (z_tuple:PySem.W.nsIn K mainGlobals "tuple"=some none)
  (z_zip:PySem.W.nsIn K mainGlobals "zip"=some none)
  (z_fnturn_among:PySem.W.nsIn K mainGlobals "turn_among"=some none)
  (z_fnstep_among:PySem.W.nsIn K mainGlobals "step_among"=some none)
  (z_fn:PySem.W.nsIn K mainGlobals ""=some none)
  {ya_EVERY_WAY:Addr}(y_EVERY_WAY:PySem.W.nsIn K mainGlobals "EVERY_WAY"=some (some (.ref ya_EVERY_WAY))) (yy_EVERY_WAY:zav K z66 (.ref ya_EVERY_WAY)=true)
  : ∃fd:FuncData,(∀(s:Shared) (v:Value),BindsTo s fd ⟨[v],[]⟩ [("script",v)])/\∀base:Heap,K.In base->base.Ns mainGlobals mg->FnOk l.prog w K mg base (CXe l.prog w) 9 fa fd ["script"] (spL K):=by
 have T:Txt K mg:=⟨trivial,PySem.W.mg_none_of X G z_abs,PySem.W.mg_none_of X G z_int,PySem.W.mg_none_of X G z_len,PySem.W.mg_none_of X G z_list,PySem.W.mg_none_of X G z_max,PySem.W.mg_none_of X G z_min,PySem.W.mg_none_of X G z_range,PySem.W.mg_none_of X G z_reversed,PySem.W.mg_none_of X G z_set,PySem.W.mg_none_of X G z_sorted,PySem.W.mg_none_of X G z_sum,PySem.W.mg_none_of X G z_tuple,PySem.W.mg_none_of X G z_zip,⟨_,PySem.W.mg_of X G y_EVERY_WAY,yy_EVERY_WAY⟩⟩
 refine ziY X G d49 hfa (λ_ _ _ _ _ _ s v =>.of_eq rfl) λbase kb nb fd F =>?_;have qF:Cl l.prog w K mg base _ _ _ _:=z0q X G d0 (by walk_at "c2") λ_ F=>z8J T F;have qG:Cl l.prog w K mg base _ _ _ _:=z0q X G d1 (by walk_at "c2") λ_ F=>z9D T F;have qH:Cl l.prog w K mg base _ _ _ _:=z0q X G d2 (by walk_at "c2") λ_ F=>z71 T F qG;have qI:Cl l.prog w K mg base _ _ _ _:=z0q X G d3 (by walk_at "c2") λ_ F=>zcR T F;have qJ:Cl l.prog w K mg base _ _ _ _:=z0q X G d4 (by walk_at "c3") λ_ F=>z9B T F qI;have qK:Cl l.prog w K mg base _ _ _ _:=z0q X G d5 (by walk_at "c1") λ_ F=>z9A T F;have qL:Cl l.prog w K mg base _ _ _ _:=z0q X G d6 (by walk_at "c2") λ_ F=>zbj T F qI qJ qK;have qM:Cl l.prog w K mg base _ _ _ _:=z0q X G d7 (by walk_at "c1") λ_ F=>z8I T F;have qN:Cl l.prog w K mg base _ _ _ _:=z0q X G d8 (by walk_at "c1") λ_ F=>zal T F qF qI qL qM qH;have qO:Cl l.prog w K mg base _ _ _ _:=z0q X G d9 (by walk_at "c3") λ_ F=>zbk T F;have qP:Cl l.prog w K mg base _ _ _ _:=z0q X G d10 (by walk_at "c1") λ_ F=>z70 T F qO;have qQ:Cl l.prog w K mg base _ _ _ _:=z0q X G d11 (by walk_at "c1") λ_ F=>zam T F qP;have qR:Cl l.prog w K mg base _ _ _ _:=z0q X G d12 (by walk_at "c2") λ_ F=>z9E T F;have qS:Cl l.prog w K mg base _ _ _ _:=z0q X G d13 (by walk_at "c3") λ_ F=>z8H T F qR;have qT:Cl l.prog w K mg base _ _ _ _:=z0q X G d14 (by walk_at "c2") λ_ F=>zcS T F qS;have qU:Cl l.prog w K mg base _ _ _ _:=z0q X G d15 (by walk_at "c2") λ_ F=>z9C T F qR;have qV:Cl l.prog w K mg base _ _ _ _:=z0q X G d16 (by walk_at "c3") λ_ F=>z7r T F qI qU;have qW:Cl l.prog w K mg base _ _ _ _:=z0q X G d17 (by walk_at "c2") λ_ F=>z7R T F qI qJ qG qS qT qV;have qX:Cl l.prog w K mg base _ _ _ _:=z0q X G d18 (by walk_at "c2") λ_ F=>z7S T F qJ;have qY:Cl l.prog w K mg base _ _ _ _:=z0q X G d19 (by walk_at "c2") λ_ F=>zcO T F;have qZ:Cl l.prog w K mg base _ _ _ _:=z0q X G d20 (by walk_at "c2") λ_ F=>zcQ T F;have y0:Cl l.prog w K mg base _ _ _ _:=z0q X G d21 (by walk_at "c3") λ_ F=>zcP T F qY qZ;have FT:FTab l.prog w K mg base (CXe l.prog w) 2 zeN:=FTab.mk (PySem.W.mg_none_of X G z_fn) λn hn f e=>by
  match n,hn with
  | 0,_=>exact y0.tab (by decide) f e
  | 1,_=>rw[show z8k 1="turn_among" from rfl,PySem.W.mg_none_of X G z_fnturn_among] at e; cases e
  | 2,_=>exact qZ.tab (by decide) f e
  | 3,_=>rw[show z8k 3="step_among" from rfl,PySem.W.mg_none_of X G z_fnstep_among] at e; cases e
 have y1:Cl l.prog w K mg base _ _ _ _:=z0q X G d22 (by walk_at "c2") λ_ F=>zbn T F FT;have y2:Cl l.prog w K mg base _ _ _ _:=z0q X G d23 (by walk_at "c2") λ_ F=>z8G T F y1;have y3:Cl l.prog w K mg base _ _ _ _:=z0q X G d24 (by walk_at "c1") λ_ F=>z6Z T F y0 y2;have y4:Cl l.prog w K mg base _ _ _ _:=z0q X G d25 (by walk_at "c1") λ_ F=>zbi T F;have y5:Cl l.prog w K mg base _ _ _ _:=z0q X G d26 (by walk_at "c2") λ_ F=>z73 T F y4 FT;have y6:Cl l.prog w K mg base _ _ _ _:=z0q X G d27 (by walk_at "c2") λ_ F=>zeh T F;have y7:Cl l.prog w K mg base _ _ _ _:=z0q X G d28 (by walk_at "c1") λ_ F=>zbh T F y6 qZ y3 y5;have y8:Cl l.prog w K mg base _ _ _ _:=z0q X G d29 (by walk_at "c3") λ_ F=>z8F T F;have y9:Cl l.prog w K mg base _ _ _ _:=z0q X G d30 (by walk_at "c2") λ_ F=>z6w T F y7 y8;have ya:Cl l.prog w K mg base _ _ _ _:=z0q X G d31 (by walk_at "c2") λ_ F=>zef T F;have yb:Cl l.prog w K mg base _ _ _ _:=z0q X G d32 (by walk_at "c2") λ_ F=>z9z T F y6 qZ ya;have yc:Cl l.prog w K mg base _ _ _ _:=z0q X G d33 (by walk_at "c2") λ_ F=>z6Y T F qY qZ ya;have yd:Cl l.prog w K mg base _ _ _ _:=z0q X G d34 (by walk_at "c2") λ_ F=>z6u T F yc;have ye:Cl l.prog w K mg base _ _ _ _:=z0q X G d35 (by walk_at "c2") λ_ F=>z72 T F;have yf:Cl l.prog w K mg base _ _ _ _:=z0q X G d36 (by walk_at "c2") λ_ F=>zeg T F ye;have yg:Cl l.prog w K mg base _ _ _ _:=z0q X G d37 (by walk_at "c3") λ_ F=>z6v T F yf;have yh:Cl l.prog w K mg base _ _ _ _:=z0q X G d38 (by walk_at "c2") λ_ F=>zak T F y3 y9 yb yc yd yg;have yi:Cl l.prog w K mg base _ _ _ _:=z0q X G d39 (by walk_at "c1") λ_ F=>zbl T F ye;have yj:Cl l.prog w K mg base _ _ _ _:=z0q X G d40 (by walk_at "c2") λ_ F=>z9F T F yi;have yk:Cl l.prog w K mg base _ _ _ _:=z0q X G d41 (by walk_at "c2") λ_ F=>zbm T F y6;have yl:Cl l.prog w K mg base _ _ _ _:=z0q X G d42 (by walk_at "c2") λ_ F=>zg0 T F ye;have ym:Cl l.prog w K mg base _ _ _ _:=z0q X G d43 (by walk_at "c1") λ_ F=>z9x T F yl;have yn:Cl l.prog w K mg base _ _ _ _:=z0q X G d44 (by walk_at "c2") λ_ F=>z8E T F ye;have yo:Cl l.prog w K mg base _ _ _ _:=z0q X G d45 (by walk_at "c3") λ_ F=>z7Q T F ye;have yp:Cl l.prog w K mg base _ _ _ _:=z0q X G d46 (by walk_at "c2") λ_ F=>z8D T F yo;have yq:Cl l.prog w K mg base _ _ _ _:=z0q X G d47 (by walk_at "c2") λ_ F=>z9y T F yn yp yj;have yr:Cl l.prog w K mg base _ _ _ _:=z0q X G d48 (by walk_at "c3") λ_ F=>z7P T F yk yj ym yq y8;exact zkO zir (zkp T F yh yr qN qQ qT qV qW qX)
def walk {l:PySem.W.OpenLaw}{q:Program}{loose:List Str}{XP:(Str->Option Value)->Heap->Prop}{YP:World->Heap->Prop}{d:DefRec}{K:Params->W.Frag}(hn:l.most=some 63)(hdf:d.params.defaults=[])
  (hY:∀(w:World) (h:Heap),YP w h->(K w.params).In h)
  (F:∀(w:World) (mg:Str->Option Value) (fa:Addr) (h:Heap),(K w.params).In h->h.Ns mainGlobals mg->mg d.name=some (.ref fa)->
   ∃fd:FuncData,(∀(s:Shared) (u:Value),BindsTo s fd ⟨[u],[]⟩ [("script",u)])/\∀base:Heap,(K w.params).In base->base.Ns mainGlobals mg->FnOk l.prog w (K w.params) mg base (CXe l.prog w) 9 fa fd ["script"] (spL (K w.params))):
  PySem.W.WalkO q loose XP YP l.row.toRowW d [] (λf vs=>PySem.call f vs):=
 L2.zhg (n:=63) (k:=9) (x:="script") (CX:=λw=>(CXe l.prog w)) (sp:=λw=>spL (K w.params)) hn (by decide) hdf ⟨rfl,by decide,by decide⟩ hY F (λ_ _ a ns hl _ hS=>⟨a,ns,rfl,hS,hl,λ_=>rfl⟩) λ_ _ _ _ _ ⟨_,_,_,_,_,_,_,_,_,z⟩=>z
end My
open PySem PySem.W PyProof.Rows
local macro_rules | `(tactic| walk_at "ks") => `(tactic| (refine' Pu.Std.mk ?a ?l ?c ?k; (case a=>k_is); (case l=>k_is); (case c=>k_is); (case k=>k_is)))
set_option maxRecDepth 100000 in
set_option maxHeartbeats 0 in
theorem PySem.Challenge.cw_closehaul_k22_whole_never_both_holds : PySem.Challenge.rw_closehaul_k22_whole_never_both.Holds := by
 w_on; o_law; k_head; (case hw=>w_witness2)
 k_fill
 refine My.walk (l:=PySem.Challenge.rw_closehaul_k22_whole_never_both) rfl rfl (λw h Y=>PySem.W.kIn_of Y) ?F
 case F=>
  intro w mg fa h KX G hmg;refine' My.zla KX G hmg ?d0 ?d1 ?d2 ?d3 ?d4 ?d5 ?d6 ?d7 ?d8 ?d9 ?d10 ?d11 ?d12 ?d13 ?d14 ?d15 ?d16 ?d17 ?d18 ?d19 ?d20 ?d21 ?d22 ?d23 ?d24 ?d25 ?d26 ?d27 ?d28 ?d29 ?d30 ?d31 ?d32 ?d33 ?d34 ?d35 ?d36 ?d37 ?d38 ?d39 ?d40 ?d41 ?d42 ?d43 ?d44 ?d45 ?d46 ?d47 ?d48 ?d49 ?z_abs ?z_int ?z_len ?z_list ?z_max ?z_min ?z_range ?z_reversed ?z_set ?z_sorted ?z_sum ?z_tuple ?z_zip ?z_fnturn_among ?z_fnstep_among ?z_fn ?y_EVERY_WAY ?yy_EVERY_WAY
  (case d0=>walk_at "ks")
  (case d1=>walk_at "ks")
  (case d2=>walk_at "ks")
  (case d3=>walk_at "ks")
  (case d4=>walk_at "ks")
  (case d5=>walk_at "ks")
  (case d6=>walk_at "ks")
  (case d7=>walk_at "ks")
  (case d8=>walk_at "ks")
  (case d9=>walk_at "ks")
  (case d10=>walk_at "ks")
  (case d11=>walk_at "ks")
  (case d12=>walk_at "ks")
  (case d13=>walk_at "ks")
  (case d14=>walk_at "ks")
  (case d15=>walk_at "ks")
  (case d16=>walk_at "ks")
  (case d17=>walk_at "ks")
  (case d18=>walk_at "ks")
  (case d19=>walk_at "ks")
  (case d20=>walk_at "ks")
  (case d21=>walk_at "ks")
  (case d22=>walk_at "ks")
  (case d23=>walk_at "ks")
  (case d24=>walk_at "ks")
  (case d25=>walk_at "ks")
  (case d26=>walk_at "ks")
  (case d27=>walk_at "ks")
  (case d28=>walk_at "ks")
  (case d29=>walk_at "ks")
  (case d30=>walk_at "ks")
  (case d31=>walk_at "ks")
  (case d32=>walk_at "ks")
  (case d33=>walk_at "ks")
  (case d34=>walk_at "ks")
  (case d35=>walk_at "ks")
  (case d36=>walk_at "ks")
  (case d37=>walk_at "ks")
  (case d38=>walk_at "ks")
  (case d39=>walk_at "ks")
  (case d40=>walk_at "ks")
  (case d41=>walk_at "ks")
  (case d42=>walk_at "ks")
  (case d43=>walk_at "ks")
  (case d44=>walk_at "ks")
  (case d45=>walk_at "ks")
  (case d46=>walk_at "ks")
  (case d47=>walk_at "ks")
  (case d48=>walk_at "ks")
  (case d49=>walk_at "ks")
  (case z_abs=>k_is)
  (case z_int=>k_is)
  (case z_len=>k_is)
  (case z_list=>k_is)
  (case z_max=>k_is)
  (case z_min=>k_is)
  (case z_range=>k_is)
  (case z_reversed=>k_is)
  (case z_set=>k_is)
  (case z_sorted=>k_is)
  (case z_sum=>k_is)
  (case z_tuple=>k_is)
  (case z_zip=>k_is)
  (case z_fnturn_among=>k_is)
  (case z_fnstep_among=>k_is)
  (case z_fn=>k_is)
  (case y_EVERY_WAY=>k_is)
  (case yy_EVERY_WAY=>kernel_rfl)
