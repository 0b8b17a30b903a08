import PyProof.Rows.All
import Wide.All
import OpenK.AllK
import Wide.FinOn
import Lean
import PyProof.EqAt
import PyProof.EqKinds
import PyProof.TupleCall
import PyProof.Rows.SortRuns
import KE.KRevIter
import PyProof.SetRoads
import PyProof.ListNew
import PyProof.Rows.ListMulPlace
import PyProof.ZipIter
import PyProof.Rows.ZipGen
import PySem.Challenge.RW_closehaul_k28_short_courses
namespace PySem.W.Fast
def tw16736561278446231043:=0
def tw12856569841671869437:=0
def tw179547650227932161:=0
def tw2014790118477262168:=0
def tw1286890852415176904:=0
def tw15601518145602767511:=0
def tw14918291708172352934:=0
def tw190581916246188182:=0
def tw1962711996086962551:=0
def tw16464815442226119593:=0
def tw4239113242785461046:=0
def tw8708713128929844193:=0
def tw7228943969690356727:=0
def tw11031546742588541739:=0
def tw9041440771818026921:=0
def tw7216733956864725398:=0
def tw16481371529206516132:=0
def tw9560647174012228121:=0
def tw10898146568601213297:=0
def tw12837333986305162011:=0
def tw10659753163826534904:=0
def tw18360121902153888771:=0
def tw14600402562203627526:=0
def tw3096780830360196689:=0
def tw7213554666427689450:=0
def tw7482393640485956690:=0
def tw1965793268036407449:=0
def tw13697869481137003557:=0
def tw10311078294243882088:=0
def tw9280656125947772537:=0
def tw10099221039905584509:=0
def tw7057786459127831424:=0
def tw14853388238278758756:=0
def tw1372972480984136384:=0
def tw12997976187045889038:=0
def tw8476660294591098811:=0
def tw556193504292259586:=0
def tw4213950327320998681:=0
def tw138830331213212625:=0
def tw8698188251388845593:=0
def tw17826761963614763387:=0
def tw2057235998259730774:=0
def tw9084253785709045727:=0
def tw7563681464491018633:=0
def tw2367848530680316666:=0
def tw1721651094664735305:=0
def tw1137516608198094314:=0
def tw11051702961344521031:=0
def tw14167818107563551345:=0
def tw17778348015491834465:=0
def tw1108503894882233447:=0
def tw16442201591294481015:=0
def tw12280441445208988926:=0
def tw11974709336168594407:=0
def tw4103138869747313007:=0
def tw4792334288181820449:=0
def tw9067350808717315502:=0
def tw11442954373472249360:=0
def tw12265285952899337495:=0
def tw5033566905352290122:=0
def tw10964476334940554418:=0
def tw2768668475246641466:=0
def tw11617196978023992685:=0
def tw3664388046677303965:=0
def tw8419566838487778684:=0
def tw457362967300668480:=0
def tw72597106743326618:=0
def tw13067478127321196922:=0
def tw11471325484513596918:=0
def tw9160002222510968609:=0
def tw8729311003936989557:=0
def tw2001420932524671822:=0
def tw16767060122582432374:=0
def tw8454297184702056595:=0
def tw17830193848268609512:=0
def tw6977440244809644577:=0
def tw8874695053139019595:=0
def tw17541769124797837256:=0
def tw8147796304088317848:=0
def tw196141454314298017:=0
def tw3450089815554309212:=0
def tw10700984501771990027:=0
def tw10617397442473490486:=0
def tw11514943969143044901:=0
def tw625609063785210215:=0
def tw10032861360742038540:=0
def tw16091003027198348859:=0
def tw9900845892240591740:=0
def tw17758622132152445162:=0
def tw5258597676545864706:=0
def tw9701680615467831330:=0
def tw6955701629486788301:=0
def tw17085216155567558098:=0
def tw6241342539874330012:=0
def tw13566616749041379432:=0
def tw3102489159861980416:=0
def tw6700849783608952291:=0
def tw1944645341325557457:=0
def tw3254055797648334913:=0
def tw15470556099398366357:=0
def tw8484668515972831149:=0
def tw9417845817450984891:=0
def tw17039694188343543194:=0
def tw11810644745775379516:=0
def tw6615313722396035539:=0
def tw16025132336928518999:=0
def tw5893367602362389764:=0
def tw3727007953508207115:=0
def tw700787235093120297:=0
def tw4607289584641253814:=0
def tw16953866298375129334:=0
def tw16264913309422307817:=0
def tw13671423112353055981:=0
def tw14783641308732950984:=0
def tw1689414920645475597:=0
def tw18051785343093415394:=0
def tw10222908297884605430:=0
def tw12366037929798632347:=0
def tw8803138006317673876:=0
def tw1780481306161320204:=0
def tw4827483643298341668:=0
def tw7685326451579290573:=0
def tw5458006258093224712:=0
def tw11597125087501153208:=0
def tw6674997803029773289:=0
def tw18086345730681322184:=0
def tw14442348446384838054:=0
def tw15803128613146128728:=0
def tw15998812837501271959:=0
def tw16525866495842302518:=0
def tw16139243011549465537:=0
def tw16230440123976677820:=0
def tw10945184224864877082:=0
def tw17643931303141821083:=0
def tw5466184321965722695:=0
def tw5288717937850936456:=0
def tw6613414879029916080:=0
def tw16101570278917840892:=0
def tw17006191116873878200:=0
def tw6674233848161546992:=0
def tw16682310392108950713:=0
def tw578851077594780704:=0
def tw2053408915423085544:=0
def tw9248489240921649596:=0
def tw6838547691629253155:=0
def tw634668654879812401:=0
def tw5102750381551404174:=0
def tw4938275964059042700:=0
def tw17730224113040564000:=0
def tw11361539792381109566:=0
def tw3880393829758383817:=0
def tw15868571649055870939:=0
def tw6525489253838147759:=0
def tw5510405686489306161:=0
def tw10356717639289512946:=0
def tw12788747434243386975:=0
def tw5036206476341285529:=0
def tw14271508710127877756:=0
def tw4437455980918198406:=0
def tw16171885321085860330:=0
def tw13299765322518771214:=0
def tw6400675756947004412:=0
def tw9083208058182489263:=0
def tw16018796969486654707:=0
def tw2501883016706103443:=0
def tw5615356518832939846:=0
def tw5448633616186442088:=0
def tw17786310049358532609:=0
def tw14498719656267838920:=0
def tw15078494668089818776:=0
def tw10708054776152192634:=0
def tw599858581728736762:=0
def tw10402670510009286630:=0
def tw4776286573570065582:=0
def tw16652425113824564681:=0
def tw5551929508043545220:=0
def tw507184231540966858:=0
def tw1498999002103759027:=0
def tw11192361863515852519:=0
def tw7675729338180322906:=0
def tw4987781016322642797:=0
def tw10244454753413722714:=0
def tw8242260033336143949:=0
def tw2624723078155497157:=0
def tw10941296601905402416:=0
def tw13869170643770352834:=0
def tw11778528141034244502:=0
def tw16074459930064828880:=0
def tw14950826859693668653:=0
def tw12324848624537163646:=0
def tw16814988458075219301:=0
def tw14458900824814159012:=0
def tw6998673454563360807:=0
def tw6519722209006539774:=0
def tw5797122415068634389:=0
def tw364492042649903144:=0
def tw2251240653971750137:=0
def tw16292483934730860174:=0
def tw15167395140851785552:=0
def tw12529029963197411283:=0
def tw1100147968439456319:=0
def tw5612157160277808445:=0
def tw14202773134363484406:=0
def tw5586928301158001174:=0
def tw259500208421433455:=0
def tw180354870274349122:=0
def tw14237150733002350077:=0
def tw18409113096929043975:=0
def tw3074872011189002396:=0
def tw18078119750545309299:=0
def tw6034553507361989058:=0
def tw3994732784525108305:=0
def tw3125438358537929899:=0
def tw17905297653631056467:=0
def tw17381665351464750769:=0
def tw14240820239207176504:=0
def tw10132965082134497503:=0
def tw8764487955290539441:=0
def tw3322431699620413167:=0
def tw18432917434416684288:=0
def tw15354867873711392904:=0
def tw14746311625679487671:=0
def tw12603050409366380614:=0
def tw12358686570258681725:=0
def tw4420405275429535733:=0
def tw9091289154544869937:=0
def tw7124475739684401536:=0
def tw7038571617836447696:=0
def tw6656152447910752853:=0
def tw1630629563898411398:=0
def tw10690476523972401790:=0
def tw9557327918704309529:=0
def tw947976404223592421:=0
def tw8516058897691692091:=0
def tw7232070082261162843:=0
def tw5048295952398152432:=0
def tw3657987330890442719:=0
def tw17035943867740630955:=0
def tw9979148435850902607:=0
def tw8937952904074571638:=0
def tw8828818297815879651:=0
def tw8746363803745430395:=0
def tw8625386838447914295:=0
def tw8370787133154196240:=0
def tw8230629364148187412:=0
def tw8216959564668319205:=0
def tw8105556538380018029:=0
def tw8058011953877791356:=0
def tw7752592151775918126:=0
def tw723156172720918423:=0
def tw7089458695369008868:=0
def tw648767361535024191:=0
def tw6461906607277018214:=0
def tw5752287770496744815:=0
def tw5718492901569960669:=0
def tw536281820275792285:=0
def tw5293922641728242139:=0
def tw4916470057997245360:=0
def tw4757798180573368881:=0
def tw4406906418795374117:=0
def tw4004611431022219096:=0
def tw342202920872762964:=0
def tw3064445148539733857:=0
def tw2964223632616282780:=0
def tw2654333430327107899:=0
def tw2624095978080141757:=0
def tw2512547803551224974:=0
def tw2416413702520672399:=0
def tw2294760219845599918:=0
def tw2083971095381174454:=0
def tw17972444718180602221:=0
def tw17768648715847754096:=0
def tw17621735726729033897:=0
def tw17218961161561693034:=0
def tw17201296888882097566:=0
def tw17105369196119276073:=0
def tw16987015454100129054:=0
def tw16945235236771515930:=0
def tw16902164303544312264:=0
def tw16345540375227015496:=0
def tw16203963619358530184:=0
def tw15912382632285211260:=0
def tw15747097735574571936:=0
def tw15523277557186019684:=0
def tw15354428958230206361:=0
def tw15197519911870847613:=0
def tw15096866153293741660:=0
def tw14648215116793204406:=0
def tw14591811711032311842:=0
def tw14471622105197899784:=0
def tw14431687145925833081:=0
def tw14416697754024300668:=0
def tw14291426272726976465:=0
def tw14271658419401256294:=0
def tw1412420522377437485:=0
def tw14047153408250817883:=0
def tw14004673640395020352:=0
def tw1385766132777046895:=0
def tw13751324647288799345:=0
def tw13586681827174227957:=0
def tw13217054148498461708:=0
def tw13047623373807521929:=0
def tw12884125235285894262:=0
def tw12570155406063931055:=0
def tw12510885679649853965:=0
def tw12310724108770264809:=0
def tw11879055999436260471:=0
def tw11155889371331862690:=0
def tw11098218488732473696:=0
def tw10993505355290063297:=0
def tw10932612129434989334:=0
def tw10680572083599223235:=0
def tw10361691980536409305:=0
end PySem.W.Fast
set_option Elab.async false
set_option linter.all false
set_option maxRecDepth 100000
namespace L2
open PySem PySem.Spec PyProof.Rows
noncomputable abbrev Key:=Sum Int Str
noncomputable def zim:Key->Value->Bool
 | .inl k,v=>Value.isInt k v
 | .inr x,v=>Value.isStrOf x v
noncomputable def keyH (w:World):Key->Int
 | .inl k=>hashInt k
 | .inr x=>hashStr w x
theorem z1I:∀ {k:Key}{v:Value},zim k v=true->(∃ i t,k=Sum.inl i/\v=Value.int i t)\/(∃ x t,k=Sum.inr x/\v=Value.str x t)
 | .inl i,v,h=>by
  obtain⟨t,e⟩:=Value.isInt_shape (k:=i) (v:=v) h
  exact .inl ⟨i,t,rfl,e⟩
 | .inr x,v,h=>by
  obtain⟨t,e⟩:=Value.isStrOf_shape (x:=x) (v:=v) h
  exact .inr ⟨x,t,rfl,e⟩
theorem zil (a b:Int):decide ((Sum.inl a:Key)=Sum.inl b)=(a == b):=by
 by_cases e:a=b
 ·subst e; simp
 ·have h:¬ (Sum.inl a:Key)=Sum.inl b:=fun q=>e (Sum.inl.inj q)
  rw[decide_eq_false h]
  exact(beq_eq_false_iff_ne.mpr e).symm
theorem zii (a b:Str):decide ((Sum.inr a:Key)=Sum.inr b)=decide (a=b):=by
 by_cases e:a=b
 ·subst e; simp
 ·have h:¬ (Sum.inr a:Key)=Sum.inr b:=fun q=>e (Sum.inr.inj q)
  rw[decide_eq_false h,decide_eq_false e]
theorem zik (a:Int)(b:Str):decide ((Sum.inl a:Key)=Sum.inr b)=false:=decide_eq_false (fun q=>nomatch q)
theorem zij (a:Str)(b:Int):decide ((Sum.inr a:Key)=Sum.inl b)=false:=decide_eq_false (fun q=>nomatch q)
noncomputable def zcW (prog:Program)(w:World):PySem.KeyKind prog w Key where
 is:=zim
 hash:=keyH w
 inj:=fun v a b ha hb=>by
  rcases z1I ha with ⟨i,t,rfl,rfl⟩ | ⟨x,t,rfl,rfl⟩
  ·rcases z1I hb with ⟨j,u,rfl,e⟩ | ⟨y,u,rfl,e⟩
   ·injection e with e1 _; rw[e1]
   ·exact nomatch e
  ·rcases z1I hb with ⟨j,u,rfl,e⟩ | ⟨y,u,rfl,e⟩
   ·exact nomatch e
   ·injection e with e1 _; rw[e1]
 byValue:=fun k v h=>by
  rcases z1I h with ⟨i,t,rfl,rfl⟩ | ⟨x,t,rfl,rfl⟩ <;> rfl
 pyHash:=fun hv h=>by
  rcases z1I hv with ⟨i,t,rfl,rfl⟩ | ⟨x,t,rfl,rfl⟩
  ·exact wpAny_pyHash_int h
  ·exact wpAny_pyHash_str h
 eqBool:=fun hu hv h=>by
  rcases z1I hu with ⟨i,t,rfl,rfl⟩ | ⟨x,t,rfl,rfl⟩
  ·rcases z1I hv with ⟨j,u,rfl,rfl⟩ | ⟨y,u,rfl,rfl⟩
   ·rw[zil] at h; exact wpAny_eqBool_int h
   ·rw[zik] at h; exact SeqAt.EqAt.int_str i t y u _ _ _ _ h
  ·rcases z1I hv with ⟨j,u,rfl,rfl⟩ | ⟨y,u,rfl,rfl⟩
   ·rw[zij] at h; exact SeqAt.EqAt.str_int x t j u _ _ _ _ h
   ·rw[zii] at h; exact wpAny_eqBool_str h
 «strs»:=fun k x t v h=>by
  rcases z1I h with ⟨i,u,rfl,e⟩ | ⟨y,u,rfl,e⟩
  ·exact nomatch e
  ·injection e with e1 _
   subst e1
   cases v <;> rfl
end L2
namespace L2
open PySem PySem.Spec PyProof.Rows
inductive V where
 | non | bl (b:Bool) | int (i:Int) | str (x:Str) | byt (b:Array UInt8) | flt (b:UInt64) | ref (a:Addr) | ty (n:String)
 deriving DecidableEq
noncomputable def RelV:V->Value->Prop
 | .non,u=>u=Value.none
 | .bl b,u=>u=Value.bool b
 | .int i,u=>∃ t,u=Value.int i t
 | .str x,u=>∃ t,u=Value.str x t
 | .byt b,u=>∃ t,u=Value.bytes b t
 | .flt b,u=>∃ t,u=Value.float b t
 | .ref a,u=>u=Value.ref a
 | .ty n,u=>u=Value.type n
noncomputable abbrev Vals:List V->List Value->Prop:=Paired RelV
theorem Vals.length {xs:List V}{us:List Value}(r:Vals xs us):xs.length=us.length:=Paired.length r
theorem Vals.get:∀ {xs:List V}{us:List Value}{i:Nat}{x:V},Vals xs us->xs[i]? = some x->∃ u,us[i]? = some u/\RelV x u
 | _,_,_,_,.nil,e=>by simp at e
 | _,_,0,_,.cons r _,e=>by simp at e; subst e; exact⟨_,rfl,r⟩
 | _,_,i+1,x,.cons _ t,e=>by
  obtain⟨u,h1,h2⟩:=Vals.get (i:=i) (x:=x) t (by simpa using e)
  exact⟨u,by simpa using h1,h2⟩
theorem Vals.set {x:V}{u:Value}(r:RelV x u):∀ {xs:List V}{us:List Value}(i:Nat),Vals xs us->Vals (xs.set i x) (us.set i u)
 | _,_,_,.nil =>.nil
 | _,_,0,.cons _ t =>.cons r t
 | _,_,i+1,.cons q t =>.cons q (Vals.set r i t)
theorem Vals.append:∀ {xs ys:List V}{us ws:List Value},Vals xs us->Vals ys ws->Vals (xs++ys) (us++ws)
 | _,_,_,_,.nil,s=>s
 | _,_,_,_,.cons r t,s =>.cons r (Vals.append t s)
theorem Vals.take:∀ {xs:List V}{us:List Value}(n:Nat),Vals xs us->Vals (xs.take n) (us.take n)
 | _,_,0,_ =>.nil
 | _,_,_+1,.nil =>.nil
 | _,_,n+1,.cons r t =>.cons r (Vals.take n t)
theorem Vals.drop:∀ {xs:List V}{us:List Value}(n:Nat),Vals xs us->Vals (xs.drop n) (us.drop n)
 | _,_,0,r=>r
 | _,_,_+1,.nil =>.nil
 | _,_,n+1,.cons _ t=>Vals.drop n t
noncomputable def RelO:Option V->Option Value->Prop
 | some v,some u=>RelV v u
 | none,none=>True
 | _,_=>False
noncomputable def KV {κ:Type}:List (κ × V)->List (κ × Value)->Prop:=Paired fun(p:κ × V) (q:κ × Value)=>p.1=q.1/\RelV p.2 q.2
noncomputable def kV:Key->V
 | .inl i =>.int i
 | .inr x =>.str x
inductive HO where
 | lst (xs:List V)
 | tup (xs:List V)
 | dK (kvs:List (Key × V)) | dT (kvs:List (List Key × V))
 | set (S:Int->Bool) (n:Nat)
 | ins (C dx:Addr) (fs:List (Str × V))
 | own (x:Addr)
 | xd (fs:List (Str × V))
 | met (f x:Addr)
 | rng (lo hi:Int)
 | frz (o:Obj) (u:HO)
 | tbl (ps:Array Value)
 | ext (φ:Heap->Prop)
noncomputable abbrev Hp:=Addr->Option HO
noncomputable def upd (H:Hp)(a:Addr)(o:HO):Hp:=fun b=>if b=a then some o else H b
theorem z0U {H:Hp}{a:Addr}{o:HO}:upd H a o a=some o:=by unfold upd; rw[if_pos rfl]
theorem z0q {H:Hp}{a b:Addr}{o:HO}(h:b≠a):upd H a o b=H b:=by unfold upd; rw[if_neg h]
theorem z0R {H:Hp}{a b:Addr}{o:HO}(h:H a=some o)(h':H b=none):a≠b:=by
 intro e; subst e; rw[h] at h'; cases h'
section
variable (P:Program)(w:World)
noncomputable def z2S (H:Hp)(h:Heap)(a:Addr):HO->Prop
 | .lst xs=>xs.length<=sizeLine/\∃ (its:List Value) (n:Nat),Vals xs its/\h.get? a=some { cls :=.type "list",data :=.seq its.toArray n }
 | .tup xs=>xs.length<=sizeLine/\∃ its:List Value,Vals xs its/\IsTup h a its.toArray
 | .dK kvs=>kvs.length<=sizeLine/\(a == sysModules)=false/\∃ vs,KV kvs vs/\h.DictOf (zcW P w) a vs
 | .dT kvs=>kvs.length<=sizeLine/\(a == sysModules)=false/\∃ xs:List (List Key × Addr × Value),
   Paired (fun(p:List Key × V) (q:List Key × Addr × Value)=>p.1=q.1/\H q.2.1=some (.tup (p.1.map kV))/\RelV p.2 q.2.2) kvs xs/\
   ∃ o es ep,h.get? a=some o/\o.ExactDict/\o.data = .dict es ep/\es.toList=xs.map (entryOfKey (tupleKind (zcW P w)))/\(xs.map (·.1)).Nodup
 | .set S n=>h.SetOf (intKind P w) a S n
 | .ins C dx fs=>H dx=some (.own a)/\fs.length<=1000/\dx≠a/\h.get? a=some (PySem.W.instObj C dx)/\
   ∃ mA,h.Ns1 dx mA/\(∀ f,RelO (fs.lookup f) (mA f))/\PySem.Within mA (fs.map (·.1))
 | .own _=>∃ o,h.get? a=some o
 | .xd fs=>∃ mA,h.Ns1 a mA/\∀ f,RelO (fs.lookup f) (mA f)
 | .rng lo hi=>∃ t u v,h.get? a=some { cls :=.type "range",data :=.fields #[.int lo t,.int hi u,.int 1 v] }
 | .frz o u=>h.get? a=some o/\z2S H h a u
 | .tbl ps=>h.get? a=some { cls :=.none,data :=.fields ps }
 | .met f x=>h.get? a=some (PySem.W.methodObj (.ref f) (.ref x))
 | .ext φ=>φ h/\(∃ o,h.get? a=some o)/\∀ h1 h2:Heap,φ h1->(∀ o,h1.get? a=some o->h2.get? a=some o)->φ h2
noncomputable def HOk (H:Hp)(h:Heap):Prop:=∀ a o,H a=some o->z2S P w H h a o
end
section
variable {P:Program}{w:World}{H H':Hp}{h h':Heap}{a:Addr}{o:HO}
theorem z2S.lt (x:z2S P w H h a o):a < h.objs.size:=by
 cases o with
 | lst xs=>obtain⟨_,_,_,_,e⟩:=x; exact Heap.lt_size e
 | tup xs=>obtain⟨_,_,_,p⟩:=x; exact p.lt
 | dK kvs=>obtain⟨_,_,_,_,o,_,_,e,_⟩:=x; exact Heap.lt_size e
 | dT kvs=>obtain⟨_,_,_,_,o,_,_,e,_⟩:=x; exact Heap.lt_size e
 | set S n=>obtain⟨o,_,_,_,e,_⟩:=x; exact Heap.lt_size e
 | ins C dx fs=>obtain⟨_,_,_,e,_⟩:=x; exact Heap.lt_size e
 | own y=>obtain⟨_,e⟩:=x; exact Heap.lt_size e
 | xd fs=>obtain⟨_,⟨_,_,_,e,_⟩,_⟩:=x; exact Heap.lt_size e
 | rng lo hi=>obtain⟨_,_,_,e⟩:=x; exact Heap.lt_size e
 | frz ob u=>obtain⟨e,_⟩:=x; exact Heap.lt_size e
 | tbl ps=>exact Heap.lt_size (show h.get? a=some _ from x)
 | met f y=>exact Heap.lt_size (show h.get? a=some _ from x)
 | ext φ=>obtain⟨_,⟨_,e⟩,_⟩:=x; exact Heap.lt_size e
theorem Paired.mapP {α β:Type}{F G:α->β->Prop}:∀ {l₁:List α} {l₂:List β},Paired F l₁ l₂->(∀ a b,F a b->G a b)->Paired G l₁ l₂
 | _,_,.nil,_ =>.nil
 | _,_,.cons r t,f =>.cons (f _ _ r) (Paired.mapP t f)
theorem z2S.stay (x:z2S P w H h a o)(k:∀ b u,(b=a\/H b=some (.own a))->h.get? b=some u->h'.get? b=some u)
  (ho:∀ b,H b=some (.own a)->H' b=some (.own a)) (ht:∀ b xs,H b=some (.tup xs)->H' b=some (.tup xs)):z2S P w H' h' a o:=by
 induction o with
 | lst xs=>obtain⟨z,its,n,r,e⟩:=x; exact⟨z,its,n,r,k _ _ (.inl rfl) e⟩
 | tup xs=>obtain⟨z,its,r,ob,e,c⟩:=x; exact⟨z,its,r,ob,k _ _ (.inl rfl) e,c⟩
 | dK kvs=>obtain⟨z,y,vs,r,ob,es,ep,e,c⟩:=x; exact⟨z,y,vs,r,ob,es,ep,k _ _ (.inl rfl) e,c⟩
 | dT kvs=>
  obtain⟨z,y,xs,r,ob,es,ep,e,c⟩:=x
  exact⟨z,y,xs,Paired.mapP r fun p q z=>⟨z.1,ht _ _ z.2.1,z.2.2⟩,ob,es,ep,k _ _ (.inl rfl) e,c⟩
 | set S n=>obtain⟨ob,es,ep,t,e,c⟩:=x; exact⟨ob,es,ep,t,k _ _ (.inl rfl) e,c⟩
 | ins C dx fs=>
  obtain⟨d,z,ne,e,mA,⟨od,es,ep,e2,c⟩,r⟩:=x
  exact⟨ho _ d,z,ne,k _ _ (.inl rfl) e,mA,⟨od,es,ep,k _ _ (.inr d) e2,c⟩,r⟩
 | own y=>obtain⟨ob,e⟩:=x; exact⟨ob,k _ _ (.inl rfl) e⟩
 | xd fs=>obtain⟨mA,⟨od,es,ep,e,c⟩,r⟩:=x; exact⟨mA,⟨od,es,ep,k _ _ (.inl rfl) e,c⟩,r⟩
 | rng lo hi=>obtain⟨t,u,v,e⟩:=x; exact⟨t,u,v,k _ _ (.inl rfl) e⟩
 | frz ob u ih=>obtain⟨e,q⟩:=x; exact⟨k _ _ (.inl rfl) e,ih q⟩
 | tbl ps=>
  have e:h.get? a=some { cls :=.none,data :=.fields ps }:=x
  show h'.get? a=some { cls :=.none,data :=.fields ps }
  exact k a _ (.inl rfl) e
 | met f y=>
  have e:h.get? a=some (PySem.W.methodObj (.ref f) (.ref y)):=x
  show h'.get? a=some (PySem.W.methodObj (.ref f) (.ref y))
  exact k a _ (.inl rfl) e
 | ext φ=>obtain⟨p,⟨o,e⟩,st⟩:=x; exact⟨st _ _ p fun o q=>k _ _ (.inl rfl) q,⟨o,k _ _ (.inl rfl) e⟩,st⟩
theorem HOk.lt (x:HOk P w H h)(e:H a=some o):a < h.objs.size:=(x a o e).lt
theorem HOk.fresh (x:HOk P w H h)(e:h.objs.size<=a):H a=none:=by
 cases q:H a with
 | none=>rfl
 | some u=>exact absurd (Nat.lt_of_lt_of_le (x.lt q) e) (Nat.lt_irrefl _)
theorem HOk.kept (x:HOk P w H h)(k:∀ b u,h.get? b=some u->h'.get? b=some u):HOk P w H h':=fun a o e=>
 (x a o e).stay (fun b u _ q=>k b u q) (fun _ q=>q) fun _ _ q=>q
theorem HOk.laid (x:HOk P w H h)(k:∀ b u,h.get? b=some u->h'.get? b=some u)(hp:h.objs.size<=a)(new:z2S P w (upd H a o) h' a o):HOk P w (upd H a o) h':=fun b u e=>by
 have hn:=x.fresh hp
 by_cases hb:b=a
 ·subst hb; rw[z0U] at e; cases e; exact new
 ·rw[z0q hb] at e
  exact(x b u e).stay (fun c v _ q=>k c v q) (fun c q=>by rw[z0q (z0R q hn)]; exact q) fun c xs q=>by rw[z0q (z0R q hn)]; exact q
end
noncomputable def Rd (H:Hp)(a:Addr)(u:HO):Prop:=H a=some u\/∃ o,H a=some (.frz o u)
theorem Rd.ok {P:Program}{w:World}{H:Hp}{h:Heap}{a:Addr}{u:HO}(r:Rd H a u)(x:HOk P w H h):z2S P w H h a u:=by
 rcases r with r | ⟨o,r⟩
 ·exact x a u r
 ·obtain⟨_,q⟩:=x a _ r
  exact q
noncomputable def Mut:Option HO->Prop
 | some (.lst _)=>True
 | some (.dK _)=>True
 | some (.dT _)=>True
 | some (.set _ _)=>True
 | some (.ins _ _ _)=>True
 | some (.ext _)=>True
 | _=>False
section
variable {P:Program}{w:World}{H:Hp}{h h':Heap}{x e:Addr}{o':HO}
theorem HOk.write (ok:HOk P w H h)(mu:Mut (H x))(he:e=x\/H e=some (.own x))(k:∀ b u,b≠e->h.get? b=some u->h'.get? b=some u)(heo:∃ u,h'.get? e=some u)
  (new:z2S P w (upd H x o') h' x o'):HOk P w (upd H x o') h':=fun b u q=>by
 have nown:∀ c y,H c=some (.own y)->c≠x:=fun c y r z=>by subst z; rw[r] at mu; exact mu
 have ntup:∀ c xs,H c=some (.tup xs)->c≠x:=fun c xs r z=>by subst z; rw[r] at mu; exact mu
 by_cases hb:b=x
 ·subst hb; rw[z0U] at q; cases q; exact new
 ·rw[z0q hb] at q
  by_cases hbe:b=e
  ·have q':H b=some (.own x):=by
    rcases he with z | z
    ·exact absurd (hbe.trans z) hb
    ·rw[hbe]; exact z
   rw[q] at q'; cases q'
   obtain⟨v,hv⟩:=heo
   exact⟨v,by rw[hbe]; exact hv⟩
  ·refine(ok b u q).stay (fun c v hc r=>k c v ?_ r) (fun c r=>by rw[z0q (nown c b r)]; exact r) fun c xs r=>by rw[z0q (ntup c xs r)]; exact r
   rcases hc with rfl | hc
   ·exact hbe
   ·rintro rfl
    rcases he with z | z
    ·exact nown c b hc z
    ·rw[hc] at z; cases z; exact hb rfl
end
structure Un (fs ex:List Addr)(H H':Hp)(h h':Heap):Prop where
 keep:∀ b o,h.get? b=some o->H b=none->b ∉ fs->b ∉ ex->h'.get? b=some o
 slot:∀ b o,h.get? b=some o->H b=none->b∈fs->b ∉ ex->∃ sl,h'.get? b=some { o with slots:=sl }
 free:∀ b o,h.get? b=some o->H b=none->b ∉ ex->H' b=none
 there:∀ b o,h.get? b=some o->b ∉ ex->∃ o',h'.get? b=some o'
 tups:∀ b xs,H b=some (.tup xs)->H' b=some (.tup xs)
 frzs:∀ b o u,H b=some (.frz o u)->H' b=some (.frz o u)
 tbls:∀ b ps,H b=some (.tbl ps)->∃ more,H' b=some (.tbl (ps++more))
section
variable {fs fs' ex ex':List Addr}{H H1 H2:Hp}{h h1 h2 h':Heap}{a x e:Addr}{o:HO}
theorem Un.any (u:Un fs ex H H1 h h1){b:Addr}{ob:Obj}(q:h.get? b=some ob)(n:H b=none)(hx:b ∉ ex):∃ sl,h1.get? b=some { ob with slots:=sl }:=by
 by_cases hb:b∈fs
 ·exact u.slot b ob q n hb hx
 ·exact⟨ob.slots,u.keep b ob q n hb hx⟩
theorem Un.kept (k:∀ b u,h.get? b=some u->h'.get? b=some u):Un fs ex H H h h':=
 ⟨fun b ob q _ _ _=>k b ob q,fun b ob q _ _ _=>⟨ob.slots,k b ob q⟩,fun _ _ _ n _=>n,fun b ob q _=>⟨ob,k b ob q⟩,fun _ _ q=>q,fun _ _ _ q=>q,fun _ ps q=>⟨#[],by rw[q]; simp⟩⟩
theorem Un.refl:Un fs ex H H h h:=Un.kept fun _ _ q=>q
theorem Un.laid (k:∀ b u,h.get? b=some u->h'.get? b=some u)(hp:h.objs.size<=a)(hn:H a=none):Un fs ex H (upd H a o) h h' where
 keep:=fun b u q _ _ _=>k b u q
 slot:=fun b u q _ _ _=>⟨u.slots,k b u q⟩
 free:=fun b u q n _=>by rw[z0q (Nat.ne_of_lt (Nat.lt_of_lt_of_le (Heap.lt_size q) hp))]; exact n
 there:=fun b u q _=>⟨u,k b u q⟩
 tups:=fun b xs q=>by rw[z0q (z0R q hn)]; exact q
 frzs:=fun b u xs q=>by rw[z0q (z0R q hn)]; exact q
 tbls:=fun b ps q=>⟨#[],by rw[z0q (z0R q hn),q]; simp⟩
theorem Un.write (mu:Mut (H x))(he:e=x\/H e=some (.own x))(k:∀ b u,b≠e->h.get? b=some u->h'.get? b=some u)(heo:∃ u,h'.get? e=some u):Un fs ex H (upd H x o) h h':=by
 have hx:∀ b,H b=none->b≠x:=fun b n z=>by subst z; rw[n] at mu; exact mu
 have hb:∀ b,H b=none->b≠e:=fun b n z=>by
  subst z
  rcases he with r | r
  ·exact hx b n r
  ·rw[n] at r; cases r
 have hm:∀ b u,H b=some u->¬ Mut (some u)->b≠x:=fun b u q nm z=>by subst z; rw[q] at mu; exact nm mu
 refine⟨fun b u q n _ _=>k b u (hb b n) q,fun b u q n _ _=>⟨u.slots,k b u (hb b n) q⟩,fun b u q n _=>by rw[z0q (hx b n)]; exact n,fun b u q _ => ?_,
  fun b xs q=>by rw[z0q (hm b _ q fun z=>z)]; exact q,fun b u xs q=>by rw[z0q (hm b _ q fun z=>z)]; exact q,fun b ps q=>⟨#[],by rw[z0q (hm b _ q fun z=>z),q]; simp⟩⟩
 by_cases hbe:b=e
 ·subst hbe; exact heo
 ·exact⟨u,k b u hbe q⟩
end
noncomputable def trk (h:Heap)(H:Hp):List Addr:=(List.range h.objs.size).filter fun a=>(H a).isSome
noncomputable def hidT (h:Heap)(H:Hp):Heap:=PySem.W.hideAll h (trk h H)
theorem zd5 (h:Heap)(H:Hp):(hidT h H).objs.size=h.objs.size:=PySem.W.hideAll_size _ _
theorem zep {h:Heap}{H:Hp}{b:Addr}{o:Obj}(e:h.get? b=some o)(n:H b=none):(hidT h H).get? b=some o:=
 PySem.W.hideAll_get _ e fun hm=>by
  have q:(H b).isSome=true:=(List.mem_filter.mp hm).2
  rw[n] at q; simp at q
theorem zg5 {h:Heap}{H:Hp}{b:Addr}{o:Obj}(e:(hidT h H).get? b=some o):h.get? b=some o/\H b=none:=by
 have e':h.get? b=some o:=PySem.W.of_hideAll (trk h H) e
 refine⟨e',?_⟩
 cases q:H b with
 | none=>rfl
 | some x=>
  have hm:b∈trk h H:=List.mem_filter.mpr ⟨List.mem_range.mpr (Heap.lt_size e'),by simp[q]⟩
  have z:(hidT h H).get? b=none:=PySem.W.hideAll_none (trk h H) hm
  rw[z] at e; cases e
noncomputable def zgr (g h:Heap)(L:Addr):List (Addr × Obj):=(List.range h.objs.size).filterMap fun a=>if a=L\/(g.get? a).isSome=true then none else (h.get? a).map fun o=>(a,o)
noncomputable def rest (g h:Heap)(L d:Addr):List (Addr × Obj):=(zgr g h L).filter fun p=>decide (p.1≠d)
end L2
namespace L2
open PySem PySem.Spec PyProof.Rows
structure Mod (K:W.Frag)(mg:Str->Option Value)(base:Heap):Prop where
 kin:K.In base
 glob:base.Ns mainGlobals mg
 blt:∃ mb,base.Ns builtinsNs mb/\∀ x:Str,x≠"__name__"->mb x=bootBuiltins x
 nolimit:base.NoLimit
structure Cx where
 prog:Program
 w:World
 K:W.Frag
 mg:Str->Option Value
 base:Heap
 A:Around
 N:List Str
 s₀:Shared
 H₀:Hp
 env:Env
 outer:List Env
 stack:List Env
 ex:List Addr
 fn:Str->Bool
 calm:Bool
 pn:List (Addr × Obj)
 xe:Value->Shared->Prop
noncomputable def frs (l:List Env):List Addr:=l.filterMap (·.frame)
noncomputable abbrev Cx.fs (X:Cx):List Addr:=frs X.outer
noncomputable def Vis (sc:Scope)(x:Str):Prop:=sc.names.lookup x=some .local\/sc.names.lookup x=some .cell\/sc.names.lookup x=some .free
noncomputable def Loc (sc:Scope)(x:Str):Prop:=sc.names.lookup x=some .local\/sc.names.lookup x=some .cell
noncomputable def Look (env:Env)(h:Heap)(m:Str->Option Value)(x:Str)(u:Value):Prop:=
 (env.kindOf x=some .local/\m x=some u)\/((env.kindOf x=some .cell\/env.kindOf x=some .free)/\∃ c,env.cells.lookup x=some c/\h.IsCell c (some u))
structure Cx.Ok (X:Cx):Prop where
 mod:Mod X.K X.mg X.base
 kind:X.env.scope.kind = .function
 glob:X.env.globals=mainGlobals
 blt:X.env.builtins=builtinsNs
 above:X.s₀.heap.objs.size<=X.env.locals
 inj:∀ x y c,X.env.cells.lookup x=some c->X.env.cells.lookup y=some c->x=y
 has:∀ x,(X.env.kindOf x=some .cell\/X.env.kindOf x=some .free)->∃ c,X.env.cells.lookup x=some c
 cab:∀ x c,X.fn x=true->X.env.cells.lookup x=some c->X.s₀.heap.objs.size<=c
 hd:X.calm=true->X.A.handled=none
 frames:X.A.frames=some X.stack
 stk:X.stack=X.outer\/(X.stack=X.env::X.outer/\X.env.frame=some X.env.locals)
 exf:∀ b∈X.ex,b≠X.env.locals/\∀ x c,X.env.cells.lookup x=some c->c≠b
 bs:∀ b o,X.base.get? b=some o->X.s₀.heap.get? b=some o/\X.H₀ b=none
 bsz:X.base.objs.size<=X.s₀.heap.objs.size
 noex:∀ b o,X.base.get? b=some o->b ∉ X.ex
 exfs:∀ b∈X.ex,b ∉ X.fs
 funs:X.s₀.heap.FunFrames X.base X.outer
 frf:∀ b∈X.fs,X.H₀ b=none
structure Inv (X:Cx)(pins:List (Addr × Obj))(σ:List (Option V))(H:Hp)(s:Shared):Prop where
 ok:X.Ok
 os:s.os=X.s₀.os
 bare:AllBare s.gens
 base:Un X.fs X.ex X.H₀ H X.s₀.heap s.heap
 loc:∃ m,s.heap.Ns X.env.locals m/\∀ (i:Nat) (x:Str) (v:V),X.N[i]? = some x->σ[i]? = some (some v)->Vis X.env.scope x->∃ u,RelV v u/\Look X.env s.heap m x u
 cell:∀ x c,X.env.cells.lookup x=some c->∃ v,s.heap.IsCell c v
 free:H X.env.locals=none
 freeC:∀ x c,X.env.cells.lookup x=some c->H c=none
 pin:∀ p∈X.pn++pins,s.heap.get? p.1=some p.2/\H p.1=none/\p.1≠X.env.locals/\p.1 ∉ X.fs/\∀ v,p.2.data ≠ .cell v
 hok:HOk X.prog X.w H s.heap
 len:σ.length=X.N.length
section
variable {X:Cx}{pins:List (Addr × Obj)}{σ:List (Option V)}{H H':Hp}{s:Shared}{h':Heap}
theorem Cx.Ok.nofr (ok:X.Ok){b:Addr}{o:Obj}(e:X.base.get? b=some o):b ∉ X.fs:=fun hb=>by
 have:=(ok.funs.mem hb).1
 rw[e] at this; cases this
theorem Inv.bs (I:Inv X pins σ H s):∀ b o,X.base.get? b=some o->s.heap.get? b=some o/\H b=none:=fun b o e=>
 ⟨I.base.keep b o (I.ok.bs b o e).1 (I.ok.bs b o e).2 (I.ok.nofr e) (I.ok.noex b o e),I.base.free b o (I.ok.bs b o e).1 (I.ok.bs b o e).2 (I.ok.noex b o e)⟩
theorem Inv.bk (I:Inv X pins σ H s):∀ b o,X.base.get? b=some o->s.heap.get? b=some o:=fun b o e=>(I.bs b o e).1
theorem Inv.mod (I:Inv X pins σ H s):Mod X.K X.mg X.base:=I.ok.mod
theorem Inv.kIn (I:Inv X pins σ H s):X.K.In s.heap:=I.ok.mod.kin.keeps I.bk
theorem Inv.lt (I:Inv X pins σ H s):X.env.locals < s.heap.objs.size:=let ⟨_,hn,_⟩:=I.loc; hn.lt
theorem Inv.sz (I:Inv X pins σ H s):X.s₀.heap.objs.size<=s.heap.objs.size:=Nat.le_trans I.ok.above (Nat.le_of_lt I.lt)
theorem Inv.nofs (I:Inv X pins σ H s){a:Addr}(h:s.heap.objs.size<=a):a ∉ X.fs:=fun hb=>by
 obtain⟨_,o,ho,_⟩:=I.ok.funs.mem hb
 exact absurd (Nat.lt_of_lt_of_le (Heap.lt_size ho) (Nat.le_trans I.sz h)) (Nat.lt_irrefl _)
theorem Inv.cne (I:Inv X pins σ H s):∀ x c,X.env.cells.lookup x=some c->c≠X.env.locals:=fun x c e z=>by
 obtain⟨v,o,ho,hd⟩:=I.cell x c e
 obtain⟨m,⟨o',es,ep,ho',hd',_⟩,_⟩:=I.loc
 rw[z,ho'] at ho; cases ho; rw[hd'] at hd; cases hd
theorem Inv.funs (I:Inv X pins σ H s):s.heap.FunFrames X.base X.outer:=by
 have all:∀ (l:List Env),(∀ b∈frs l,b∈X.fs)->X.s₀.heap.FunFrames X.base l->s.heap.FunFrames X.base l:=by
  intro l
  induction l with
  | nil=>intro _ _; trivial
  | cons env r ih=>
   intro hs hl
   obtain⟨hk,⟨L,o,hf,hn,ho,hd⟩,hr⟩:=hl
   have hL:L∈X.fs:=hs L (by unfold frs; rw[List.filterMap_cons,hf]; exact List.mem_cons_self)
   obtain⟨sl,e⟩:=I.base.slot L o ho (I.ok.frf L hL) hL fun z=>I.ok.exfs L z hL
   exact⟨hk,⟨L,_,hf,hn,e,hd⟩,ih (fun b hb=>hs b (by unfold frs; rw[List.filterMap_cons,hf]; exact List.mem_cons_of_mem _ hb)) hr⟩
 exact all X.outer (fun _ hb=>hb) I.ok.funs
theorem Inv.stack (I:Inv X pins σ H s):s.heap.FunFrames X.base X.stack:=by
 rcases I.ok.stk with e | ⟨e,hf⟩
 ·rw[e]; exact I.funs
 ·rw[e]
  obtain⟨m,hn,_⟩:=I.loc
  refine .cons (by rw[I.ok.kind]; decide) hf hn ?_ I.funs
  exact Heap.get?_none_of_le (Nat.le_trans I.ok.bsz I.ok.above)
theorem Inv.stkSub (I:Inv X pins σ H s):∀ b∈frs X.stack,b∈X.env.locals::X.fs:=fun b hb=>by
 rcases I.ok.stk with e | ⟨e,hf⟩
 ·rw[e] at hb; exact List.mem_cons_of_mem _ hb
 ·rw[e] at hb
  unfold frs at hb
  rw[List.filterMap_cons,hf] at hb
  exact hb
theorem Inv.stkFree (I:Inv X pins σ H s):∀ b∈frs X.stack,H b=none:=fun b hb=>by
 rcases List.mem_cons.mp (I.stkSub b hb) with e | hb
 ·rw[e]; exact I.free
 ·obtain⟨_,o,ho,_⟩:=I.ok.funs.mem hb
  exact I.base.free b o ho (I.ok.frf b hb) fun z=>I.ok.exfs b z hb
theorem Inv.step {g':Array GenState}{t':Nat}{d':Drawn}{ch:List Addr}(I:Inv X pins σ H s)
  (hch:∀ b∈ch,(b∈X.ex\/X.s₀.heap.objs.size<=b)/\b≠X.env.locals/\(∀ x c,X.env.cells.lookup x=some c->c≠b)/\∀ p∈X.pn++pins,p.1≠b)
  (keep:∀ b o,b≠X.env.locals->b ∉ X.fs->b ∉ ch->s.heap.get? b=some o->H b=none->h'.get? b=some o)
  (slot:∀ b o,b≠X.env.locals->b∈X.fs->b ∉ ch->s.heap.get? b=some o->H b=none->∃ sl,h'.get? b=some { o with slots:=sl }) (free:∀ b o,b ∉ ch->s.heap.get? b=some o->H b=none->H' b=none)
  (there:∀ b o,b ∉ ch->s.heap.get? b=some o->∃ o',h'.get? b=some o')
  (tups:∀ b xs,H b=some (.tup xs)->H' b=some (.tup xs)) (frzs:∀ b o u,H b=some (.frz o u)->H' b=some (.frz o u)) (tbls:∀ b ps,H b=some (.tbl ps)->∃ more,H' b=some (.tbl (ps++more)))
  (ns:∀ m,s.heap.Ns X.env.locals m->h'.Ns X.env.locals m) (hok:HOk X.prog X.w H' h') (hg:AllBare g'):
  Inv X pins σ H' { s with heap:=h',gens:=g',drawn:=d',toks:=t' }:=by
 have neL:∀ b o,X.s₀.heap.get? b=some o->b≠X.env.locals:=fun b o e=>Nat.ne_of_lt (Nat.lt_of_lt_of_le (Heap.lt_size e) I.ok.above)
 have neC:∀ b o,X.s₀.heap.get? b=some o->b ∉ X.ex->b ∉ ch:=fun b o e hx hb=>by
  rcases(hch b hb).1 with z | z
  ·exact hx z
  ·exact absurd (Nat.lt_of_lt_of_le (Heap.lt_size e) z) (Nat.lt_irrefl _)
 have cellK:∀ x c,X.env.cells.lookup x=some c->∀ v,s.heap.IsCell c v->h'.IsCell c v:=fun x c e v ⟨o,ho,hd⟩=>by
  have nch:c ∉ ch:=fun z=>(hch c z).2.2.1 x c e rfl
  by_cases hc:c∈X.fs
  ·obtain⟨sl,q⟩:=slot c o (I.cne x c e) hc nch ho (I.freeC x c e)
   exact⟨_,q,hd⟩
  ·exact⟨o,keep c o (I.cne x c e) hc nch ho (I.freeC x c e),hd⟩
 refine⟨I.ok,I.os,hg,⟨fun b o e n hb hx => ?_,fun b o e n hb hx => ?_,fun b o e n hx => ?_,fun b o e hx => ?_,fun b xs e=>tups b xs (I.base.tups b xs e),fun b o xs e=>frzs b o xs (I.base.frzs b o xs e),fun b ps e => ?_⟩,?_,fun x c e => ?_,?_,fun x c e => ?_,fun p hp => ?_,hok,I.len⟩
 ·exact keep b o (neL b o e) hb (neC b o e hx) (I.base.keep b o e n hb hx) (I.base.free b o e n hx)
 ·obtain⟨sl,e1⟩:=I.base.slot b o e n hb hx
  obtain⟨sl',e2⟩:=slot b _ (neL b o e) hb (neC b o e hx) e1 (I.base.free b o e n hx)
  exact⟨sl',e2⟩
 ·obtain⟨o',e1⟩:=I.base.there b o e hx
  exact free b o' (neC b o e hx) e1 (I.base.free b o e n hx)
 ·obtain⟨o',e1⟩:=I.base.there b o e hx
  exact there b o' (neC b o e hx) e1
 ·obtain⟨m1,e1⟩:=I.base.tbls b ps e
  obtain⟨m2,e2⟩:=tbls b _ e1
  exact⟨m1++m2,by rw[e2,Array.append_assoc]⟩
 ·obtain⟨m,hn,hl⟩:=I.loc
  refine⟨m,ns m hn,fun i x v e1 e2 e3 => ?_⟩
  obtain⟨u,r,l⟩:=hl i x v e1 e2 e3
  refine⟨u,r,?_⟩
  rcases l with l | ⟨k,c,e,z⟩
  ·exact .inl l
  ·exact .inr ⟨k,c,e,cellK x c e _ z⟩
 ·obtain⟨v,z⟩:=I.cell x c e
  exact⟨v,cellK x c e v z⟩
 ·obtain⟨m,⟨o,_,_,ho,_⟩,_⟩:=I.loc
  exact free _ o (fun z=>(hch _ z).2.1 rfl) ho I.free
 ·obtain⟨v,o,ho,hd⟩:=I.cell x c e
  exact free c o (fun z=>(hch c z).2.2.1 x c e rfl) ho (I.freeC x c e)
 ·obtain⟨e,n,ne,nf,d⟩:=I.pin p hp
  have nch:p.1 ∉ ch:=fun z=>(hch p.1 z).2.2.2 p hp rfl
  exact⟨keep p.1 p.2 ne nf nch e n,free p.1 p.2 nch e n,ne,nf,d⟩
theorem Inv.un {t':Nat}(I:Inv X pins σ H s)(u:Un X.fs [] H H' s.heap h')(hok:HOk X.prog X.w H' h'):Inv X pins σ H' { s with heap:=h',toks:=t' }:=by
 obtain⟨m,⟨o,es,ep,ho,r⟩,_⟩:=id I.loc
 obtain⟨sl,hL⟩:=u.any ho I.free (by simp)
 exact I.step (g':=s.gens) (d':=s.drawn) (ch:=[]) (fun _ z=>nomatch z) (fun b o _ hb _ e n=>u.keep b o e n hb (by simp)) (fun b o _ hb _ e n=>u.slot b o e n hb (by simp)) (fun b o _ e n=>u.free b o e n (by simp)) (fun b o _ e=>u.there b o e (by simp)) u.tups u.frzs u.tbls (fun m' hm=>by
  obtain⟨o',es',ep',ho',r'⟩:=hm
  rw[ho] at ho'; cases ho'
  exact⟨_,es',ep',hL,r'⟩) hok I.bare
theorem Inv.call {g':Array GenState}{t':Nat}{d':Drawn}{ch:List Addr}(I:Inv X pins σ H s)(u:Un (frs X.stack) ch H H' s.heap h')(hok:HOk X.prog X.w H' h')(hg:AllBare g')
  (hch:∀ b∈ch,(b∈X.ex\/X.s₀.heap.objs.size<=b)/\b≠X.env.locals/\(∀ x c,X.env.cells.lookup x=some c->c≠b)/\∀ p∈X.pn++pins,p.1≠b):
  Inv X pins σ H' { s with heap:=h',gens:=g',drawn:=d',toks:=t' }:=by
 obtain⟨m,⟨o,es,ep,ho,r⟩,_⟩:=id I.loc
 obtain⟨sl,hL⟩:=u.any ho I.free fun z=>(hch _ z).2.1 rfl
 exact I.step (ch:=ch) hch (fun b o hL hb hc e n=>u.keep b o e n (fun z=>(List.mem_cons.mp (I.stkSub b z)).elim hL hb) hc) (fun b o _ _ hc e n=>u.any e n hc) (fun b o hc e n=>u.free b o e n hc) (fun b o hc e=>u.there b o e hc) u.tups u.frzs u.tbls (fun m' hm=>by
  obtain⟨o',es',ep',ho',r'⟩:=hm
  rw[ho] at ho'; cases ho'
  exact⟨_,es',ep',hL,r'⟩) hok hg
theorem Inv.turned {t':Nat}{it:Addr}(I:Inv X pins σ H s)(k:∀ b o,b≠it->s.heap.get? b=some o->h'.get? b=some o)(hn:H it=none)(hL:it≠X.env.locals)
  (h1:it∈X.ex\/X.s₀.heap.objs.size<=it) (h2:∀ x c,X.env.cells.lookup x=some c->c≠it) (h3:∀ p∈X.pn++pins,p.1≠it):Inv X pins σ H { s with heap:=h',toks:=t' }:=by
 have nit:∀ b u,H b=some u->b≠it:=fun b u e z=>by rw[z,hn] at e; cases e
 refine I.step (g':=s.gens) (d':=s.drawn) (ch:=[it]) (fun b hb => ?_) (fun b o _ _ hc e _=>k b o (fun z=>hc (by simp[z])) e) (fun b o _ _ hc e _=>⟨o.slots,k b o (fun z=>hc (by simp[z])) e⟩) (fun _ _ _ _ n=>n)
  (fun b o hc e=>⟨o,k b o (fun z=>hc (by simp[z])) e⟩) (fun _ _ e=>e) (fun _ _ _ e=>e) (fun b ps e=>⟨#[],by rw[e]; simp⟩) (fun m hm => ?_) (fun b u e => ?_) I.bare
 ·have e:b=it:=by simpa using hb
  subst e
  exact⟨h1,hL,h2,h3⟩
 ·obtain⟨o,es,ep,ho,r⟩:=hm
  exact⟨o,es,ep,k _ o (Ne.symm hL) ho,r⟩
 ·refine(I.hok b u e).stay (fun c v hc q=>k c v ?_ q) (fun _ q=>q) fun _ _ q=>q
  rcases hc with z | z
  ·rw[z]; exact nit b u e
  ·exact nit c _ z
theorem Inv.tok (I:Inv X pins σ H s)(t:Nat):Inv X pins σ H { s with toks:=t }:=I.un (h':=s.heap) (t':=t) Un.refl I.hok
theorem Inv.kept {t':Nat}(I:Inv X pins σ H s)(k:∀ b u,s.heap.get? b=some u->h'.get? b=some u):Inv X pins σ H { s with heap:=h',toks:=t' }:=I.un (Un.kept k) (I.hok.kept k)
theorem Inv.laid {a:Addr}{o:HO}{t':Nat}(I:Inv X pins σ H s)(k:∀ b u,s.heap.get? b=some u->h'.get? b=some u)(hp:s.heap.objs.size<=a)(new:z2S X.prog X.w (upd H a o) h' a o):
  Inv X pins σ (upd H a o) { s with heap:=h',toks:=t' }:=I.un (Un.laid k hp (I.hok.fresh hp)) (I.hok.laid k hp new)
theorem Inv.write {x e:Addr}{o:HO}{t':Nat}(I:Inv X pins σ H s)(mu:Mut (H x))(he:e=x\/H e=some (.own x))(k:∀ b u,b≠e->s.heap.get? b=some u->h'.get? b=some u)(heo:∃ u,h'.get? e=some u)
  (new:z2S X.prog X.w (upd H x o) h' x o):Inv X pins σ (upd H x o) { s with heap:=h',toks:=t' }:=I.un (Un.write mu he k heo) (I.hok.write mu he k heo new)
theorem Inv.pins_of {pins':List (Addr × Obj)}(I:Inv X pins σ H s)(h:∀ p∈pins',s.heap.get? p.1=some p.2/\H p.1=none/\p.1≠X.env.locals/\p.1 ∉ X.fs/\∀ v,p.2.data ≠ .cell v):Inv X pins' σ H s:=
 ⟨I.ok,I.os,I.bare,I.base,I.loc,I.cell,I.free,I.freeC,fun p hp=>(List.mem_append.mp hp).elim (fun z=>I.pin p (List.mem_append_left _ z)) (h p),I.hok,I.len⟩
theorem z9G {N:List Str}(hN:N.Nodup){i j:Nat}{x:Str}(a:N[i]? = some x)(b:N[j]? = some x):i=j:=by
 obtain⟨h1,e1⟩:=List.getElem?_eq_some_iff.mp a
 obtain⟨h2,e2⟩:=List.getElem?_eq_some_iff.mp b
 exact(List.getElem_inj hN).mp (e1.trans e2.symm)
theorem za2 {M:Model}{A:Around}{E:Value->Shared->Prop}{i:Nat}{x:Str}{v:V}{u:Value}{Q:Unit->Shared->Prop}(I:Inv X pins σ H s)(hN:X.N.Nodup)(hi:X.N[i]? = some x)(hx:Loc X.env.scope x)(r:RelV v u)
  (h:∀ s',Inv X pins (σ.set i (some v)) H s'->(∃ a,Heap.SameBut a s.heap s'.heap/\(a=X.env.locals\/X.env.cells.lookup x=some a))->Q () s') (hf:X.fn x=true\/X.env.scope.names.lookup x=some .local:=by first | exact .inl rfl | exact .inr rfl | assumption):wpAny M A (storeName X.env x u) Q E s:=by
 obtain⟨m,hn,hl⟩:=id I.loc
 have hcls:(X.env.scope.kind == .class || (X.env.scope.kind == .module && X.env.locals != X.env.globals))=false:=by rw[I.ok.kind]; rfl
 have hiσ:i < σ.length:=by rw[I.len]; exact(List.getElem?_eq_some_iff.mp hi).1
 have cne:=I.cne
 have tracked:∀ {a:Addr}{h':Heap},(∃ o,s.heap.get? a=some o/\H a=none)->Heap.SameBut a s.heap h'->HOk X.prog X.w H h':=fun {a h'} ha hs b ob e=>by
  obtain⟨_,_,hfree⟩:=ha
  refine(I.hok b ob e).stay (fun c w' hc q=>(hs.2 c ?_).trans q) (fun _ q=>q) fun _ _ q=>q
  rintro rfl
  rcases hc with rfl | hc
  ·rw[hfree] at e; cases e
  ·rw[hfree] at hc; cases hc
 rcases hx with hk | hk
 ·refine wpAny_storeName_local hk hn (fun h' hn' hs => ?_) hcls
  obtain⟨oL,_,_,hoL,_⟩:=id hn
  refine h _ ⟨I.ok,I.os,I.bare,⟨fun b o e n hb hx => ?_,fun b o e n hb hx => ?_,I.base.free,fun b o e hx => ?_,I.base.tups,I.base.frzs,I.base.tbls⟩,⟨_,hn',fun j y v' e1 e2 e3 => ?_⟩,fun y c e => ?_,I.free,I.freeC,fun p hp => ?_,tracked ⟨oL,hoL,I.free⟩ hs,by simpa using I.len⟩ ⟨_,hs,.inl rfl⟩
  ·exact(hs.2 b (Nat.ne_of_lt (Nat.lt_of_lt_of_le (Heap.lt_size e) I.ok.above))).trans (I.base.keep b o e n hb hx)
  ·obtain⟨sl,e1⟩:=I.base.slot b o e n hb hx
   exact⟨sl,(hs.2 b (Nat.ne_of_lt (Nat.lt_of_lt_of_le (Heap.lt_size e) I.ok.above))).trans e1⟩
  ·obtain⟨o',e1⟩:=I.base.there b o e hx
   exact⟨o',(hs.2 b (Nat.ne_of_lt (Nat.lt_of_lt_of_le (Heap.lt_size e) I.ok.above))).trans e1⟩
  ·by_cases hj:j=i
   ·subst hj
    rw[hi] at e1; cases e1
    rw[List.getElem?_set_self hiσ] at e2
    cases e2
    exact⟨u,r,.inl ⟨hk,by simp⟩⟩
   ·rw[List.getElem?_set_ne (Ne.symm hj)] at e2
    obtain⟨u',r',q⟩:=hl j y v' e1 e2 e3
    refine⟨u',r',?_⟩
    rcases q with ⟨k,e⟩ | ⟨k,c,e,z⟩
    ·refine .inl ⟨k,?_⟩
     have:y≠x:=fun e=>hj (z9G hN e1 (e ▸ hi))
     simp[this,e]
    ·exact .inr ⟨k,c,e,z.sameBut hs (cne y c e)⟩
  ·obtain⟨w',z⟩:=I.cell y c e
   exact⟨w',z.sameBut hs (cne y c e)⟩
  ·obtain⟨e,n,ne,nf,d⟩:=I.pin p hp
   exact⟨(hs.2 p.1 ne).trans e,n,ne,nf,d⟩
 ·have hfn:X.fn x=true:=by
   rcases hf with z | z
   ·exact z
   ·rw[z] at hk; cases hk
  obtain⟨c,hc⟩:=I.ok.has x (.inl hk)
  obtain⟨w',z⟩:=I.cell x c hc
  refine wpAny_storeName_cell I.ok.kind hk hc z (fun h' hc' hs => ?_)
  obtain⟨oc,hoc,hocd⟩:=id z
  refine h { s with heap:=h' } ⟨I.ok,I.os,I.bare,⟨fun b o e n hb hx => ?_,fun b o e n hb hx => ?_,I.base.free,fun b o e hx => ?_,I.base.tups,I.base.frzs,I.base.tbls⟩,⟨m,hn.sameBut hs (Ne.symm (cne x c hc)),fun j y v' e1 e2 e3 => ?_⟩,fun y c' e => ?_,I.free,I.freeC,fun p hp => ?_,tracked ⟨oc,hoc,I.freeC x c hc⟩ hs,by simpa using I.len⟩ ⟨c,hs,.inr hc⟩
  ·exact(hs.2 b (Nat.ne_of_lt (Nat.lt_of_lt_of_le (Heap.lt_size e) (I.ok.cab x c hfn hc)))).trans (I.base.keep b o e n hb hx)
  ·obtain⟨sl,e1⟩:=I.base.slot b o e n hb hx
   exact⟨sl,(hs.2 b (Nat.ne_of_lt (Nat.lt_of_lt_of_le (Heap.lt_size e) (I.ok.cab x c hfn hc)))).trans e1⟩
  ·obtain⟨o',e1⟩:=I.base.there b o e hx
   exact⟨o',(hs.2 b (Nat.ne_of_lt (Nat.lt_of_lt_of_le (Heap.lt_size e) (I.ok.cab x c hfn hc)))).trans e1⟩
  ·by_cases hj:j=i
   ·subst hj
    rw[hi] at e1; cases e1
    rw[List.getElem?_set_self hiσ] at e2
    cases e2
    exact⟨u,r,.inr ⟨.inl hk,c,hc,hc'⟩⟩
   ·rw[List.getElem?_set_ne (Ne.symm hj)] at e2
    obtain⟨u',r',q⟩:=hl j y v' e1 e2 e3
    refine⟨u',r',?_⟩
    rcases q with q | ⟨k,c',e,z'⟩
    ·exact .inl q
    ·refine .inr ⟨k,c',e,z'.sameBut hs ?_⟩
     rintro rfl
     exact hj (z9G hN e1 (I.ok.inj _ _ _ e hc ▸ hi))
  ·by_cases hcc:c'=c
   ·subst hcc; exact⟨_,hc'⟩
   ·obtain⟨w2,z2⟩:=I.cell y c' e
    exact⟨w2,z2.sameBut hs hcc⟩
  ·obtain⟨e,n,ne,nf,d⟩:=I.pin p hp
   refine⟨(hs.2 p.1 ?_).trans e,n,ne,nf,d⟩
   intro q
   rw[q,hoc] at e
   have q':oc=p.2:=Option.some.inj e
   exact d w' (by rw[<- q']; exact hocd)
theorem z9s {M:Model}{A:Around}{E:Value->Shared->Prop}{i:Nat}{x:Str}{v:V}{u:Value}{Q:Unit->Shared->Prop}(I:Inv X pins σ H s)(hN:X.N.Nodup)(hi:X.N[i]? = some x)(hx:Loc X.env.scope x)(r:RelV v u)
  (h:∀ s',Inv X pins (σ.set i (some v)) H s'->Q () s') (hf:X.fn x=true\/X.env.scope.names.lookup x=some .local:=by first | exact .inl rfl | exact .inr rfl | assumption):wpAny M A (storeName X.env x u) Q E s:=
 za2 I hN hi hx r (fun s' I' _=>h s' I') hf
theorem Inv.call' {s':Shared}{ch:List Addr}(I:Inv X pins σ H s)(ho:s'.os=s.os)(u:Un (frs X.stack) ch H H' s.heap s'.heap)(hok:HOk X.prog X.w H' s'.heap)(hg:AllBare s'.gens)
  (hch:∀ b∈ch,(b∈X.ex\/X.s₀.heap.objs.size<=b)/\b≠X.env.locals/\(∀ x c,X.env.cells.lookup x=some c->c≠b)/\∀ p∈X.pn++pins,p.1≠b):Inv X pins σ H' s':=by
 obtain⟨h',g',d',t',o'⟩:=s'
 have e:o'=s.os:=ho
 subst e
 exact I.call (g':=g') (t':=t') (d':=d') u hok hg hch
end
noncomputable abbrev XK:=Value->Option Addr->Hp->Prop
noncomputable abbrev St:=List (Option V)
noncomputable abbrev VK:=V->Hp->Prop
noncomputable abbrev TE:=St->Hp->VK->Prop
noncomputable abbrev TT:=St->Hp->(Bool->Hp->Prop)->Prop
noncomputable abbrev TA:=St->Hp->(List V->Hp->Prop)->Prop
structure Ends where
 nx:St->Hp->Prop
 rt:VK
 bk:St->Hp->Prop:=fun _ _=>False
 ct:St->Hp->Prop:=fun _ _=>False
noncomputable abbrev TS:=Ends->St->Hp->Prop
noncomputable def EP (X:Cx)(pins:List (Addr × Obj))(σ:St)(Q:VK)(u:Value)(s':Shared):Prop:=∃ v H',Inv X pins σ H' s'/\RelV v u/\Q v H'
noncomputable def TP (X:Cx)(pins:List (Addr × Obj))(σ:St)(Q:Bool->Hp->Prop)(b:Bool)(s':Shared):Prop:=∃ H',Inv X pins σ H' s'/\Q b H'
noncomputable def AP (X:Cx)(pins:List (Addr × Obj))(σ:St)(Q:List V->Hp->Prop)(us:List Value)(s':Shared):Prop:=∃ vs H',Inv X pins σ H' s'/\Vals vs us/\Q vs H'
noncomputable def SP (X:Cx)(pins:List (Addr × Obj))(D:Ends)(f:Flow)(s':Shared):Prop:=
 match f with
 | .next=>∃ σ' H',Inv X pins σ' H' s'/\D.nx σ' H'
 | .brk=>∃ σ' H',Inv X pins σ' H' s'/\D.bk σ' H'
 | .cont=>∃ σ' H',Inv X pins σ' H' s'/\D.ct σ' H'
 | .ret u=>∃ v σ' H',Inv X pins σ' H' s'/\RelV v u/\D.rt v H'
noncomputable def PE (X:Cx)(e:Expr)(t:TE):Prop:=
 ∀ (pins:List (Addr × Obj)) (s:Shared) (σ:St) (H:Hp) (Q:VK),Inv X pins σ H s->t σ H Q->wpAny (model X.prog X.w) X.A (eval e X.env) (EP X pins σ Q) X.xe s
noncomputable def PT (X:Cx)(e:Expr)(t:TT):Prop:=
 ∀ (pins:List (Addr × Obj)) (s:Shared) (σ:St) (H:Hp) (Q:Bool->Hp->Prop),Inv X pins σ H s->t σ H Q->wpAny (model X.prog X.w) X.A (isTrue e X.env (eval e X.env)) (TP X pins σ Q) X.xe s
noncomputable def PW (X:Cx)(e:Expr)(t:TT):Prop:=
 ∀ (whole:Sem Value) (pins:List (Addr × Obj)) (s:Shared) (σ:St) (H:Hp) (Q:Bool->Hp->Prop),Inv X pins σ H s->t σ H Q->wpAny (model X.prog X.w) X.A (isTrue e X.env whole) (TP X pins σ Q) X.xe s
theorem PW.pt {X:Cx}{e:Expr}{t:TT}(h:PW X e t):PT X e t:=h _
noncomputable def PA (X:Cx)(es:List Expr)(t:TA):Prop:=
 ∀ (pos:Pos) (pins:List (Addr × Obj)) (s:Shared) (σ:St) (H:Hp) (Q:List V->Hp->Prop),Inv X pins σ H s->t σ H Q->wpAny (model X.prog X.w) X.A (spliced (backTo pos (starEach es X.env))) (AP X pins σ Q) X.xe s
noncomputable def PS (X:Cx)(st:Stmt)(t:TS):Prop:=
 ∀ (pins:List (Addr × Obj)) (s:Shared) (σ:St) (H:Hp) (D:Ends),Inv X pins σ H s->t D σ H->wpAny (model X.prog X.w) X.A (exec st X.env) (SP X pins D) X.xe s
noncomputable def PSs (X:Cx)(st:List Stmt)(t:TS):Prop:=
 ∀ (pins:List (Addr × Obj)) (s:Shared) (σ:St) (H:Hp) (D:Ends),Inv X pins σ H s->t D σ H->wpAny (model X.prog X.w) X.A (execs st X.env) (SP X pins D) X.xe s
theorem thn {α:Type}{t:Sem α}{Q Q':α->Shared->Prop}{M:Model}{A:Around}{E:Value->Shared->Prop}{s:Shared}(h:wpAny M A t Q E s)(hQ:∀ a s,Q a s->Q' a s):wpAny M A t Q' E s:=wpAny_mono h hQ fun _ _ x=>x
end L2
namespace L2
open PySem PySem.Spec PyProof.Rows
section
variable {X:Cx}
theorem bin {a b:Expr}{ta tb:TE}(ha:PE X a ta)(hb:PE X b tb){pins:List (Addr × Obj)}{s:Shared}{σ:St}{H:Hp}{R:V->V->Hp->Prop}(I:Inv X pins σ H s)(h:ta σ H fun x H1=>tb σ H1 fun y H2=>R x y H2)
  {α:Type}{Q:α->Shared->Prop}{f:Value->Value->Sem α}
  (hf:∀ v u s2 x y H2,Inv X pins σ H2 s2->RelV x v->RelV y u->R x y H2->wpAny (model X.prog X.w) X.A (f v u) Q X.xe s2):
  wpAny (model X.prog X.w) X.A (eval a X.env) (fun v s₁=>wpAny (model X.prog X.w) X.A (eval b X.env) (fun u s₂=>wpAny (model X.prog X.w) X.A (f v u) Q X.xe s₂) X.xe s₁) X.xe s:=by
 refine thn (ha pins s σ H _ I h) fun v s1 ⟨x,H1,I1,r1,q1⟩ => ?_
 refine thn (hb pins s1 σ H1 _ I1 q1) fun u s2 ⟨y,H2,I2,r2,q2⟩ => ?_
 exact hf v u s2 x y H2 I2 r1 r2 q2
noncomputable def tVar (i:Nat):TE:=fun σ H Q=>∃ v,σ[i]? = some (some v)/\Q v H
noncomputable def tC (v:V):TE:=fun _ H Q=>Q v H
theorem zf2 {i:Nat}{x:Str}{pos:Pos}(hN:X.N[i]? = some x)(hv:Vis X.env.scope x)(hd:(x == ("__debug__":Str))=false:=by decide)(hcd:(x == ("__classdict__":Str))=false:=by decide):PE X (.Name x pos) (tVar i):=by
 intro pins s σ H Q I h
 obtain⟨v,e,h⟩:=h
 obtain⟨m,hn,hl⟩:=I.loc
 obtain⟨u,r,l⟩:=hl i x v hN e hv
 have fin:EP X pins σ Q u s:=⟨v,H,I,r,h⟩
 rcases l with ⟨hk,hm⟩ | ⟨hk,c,hc,hcell⟩
 ·exact wpAny_Name (wpAny_loadName_local I.ok.kind hk hn hm fin) hd
 ·rcases hk with hk | hk
  ·exact wpAny_Name (wpAny_loadName_cell I.ok.kind hk hc hcell fin) hd
  ·exact wpAny_Name (wpAny_loadName_free I.ok.kind hk hc hcell fin hcd) hd
theorem zhD {i j pos}:PE X (.Constant (.int i) j pos) (tC (.int i)):=fun _ _ _ H _ I h=>wpAny_Constant_int ⟨.int i,H,I.tok _,⟨_,rfl⟩,h⟩
theorem zjq {b j pos}:PE X (.Constant (.bool b) j pos) (tC (.bl b)):=fun _ _ _ H _ I h=>Constant_bool ⟨.bl b,H,I,rfl,h⟩
theorem zhA {j pos}:PE X (.Constant .none j pos) (tC .non):=fun _ _ _ H _ I h=>Constant_none ⟨.non,H,I,rfl,h⟩
theorem zhx {x j pos}:PE X (.Constant (.str x) j pos) (tC (.str x)):=fun _ _ _ H _ I h=>Calls.Constant_str ⟨.str x,H,I.tok _,⟨_,rfl⟩,h⟩
noncomputable def Gl (X:Cx)(x:Str):Prop:=X.env.kindOf x=some .globalImplicit
theorem z8c {E:Value->Shared->Prop}{pins:List (Addr × Obj)}{s:Shared}{σ:St}{H:Hp}{x:Str}{u:Value}{pos:Pos}{Q:Value->Shared->Prop}(I:Inv X pins σ H s)(hg:Gl X x)(hm:X.mg x=some u)(h:Q u s)
  (hd:(x == ("__debug__":Str))=false:=by decide):wpAny (model X.prog X.w) X.A (eval (.Name x pos) X.env) Q E s:=
 Calls.Name_function_global I.ok.kind hg (Calls.loadGlobal_global (by rw[I.ok.glob]; exact I.mod.glob.keeps I.bk) hm h) hd
theorem zam {E:Value->Shared->Prop}{pins:List (Addr × Obj)}{s:Shared}{σ:St}{H:Hp}{x:Str}{u:Value}{pos:Pos}{Q:Value->Shared->Prop}(I:Inv X pins σ H s)(hg:Gl X x)(hm:X.mg x=none)(hv:bootBuiltins x=some u)(h:Q u s)
  (hn:x≠"__name__":=by decide) (hd:(x == ("__debug__":Str))=false:=by decide):wpAny (model X.prog X.w) X.A (eval (.Name x pos) X.env) Q E s:=by
 obtain⟨mb,h1,h2⟩:=I.mod.blt
 exact Calls.Name_function_global I.ok.kind hg (Calls.loadGlobal_builtin (by rw[I.ok.glob]; exact I.mod.glob.keeps I.bk) hm (by rw[I.ok.blt]; exact h1.keeps I.bk) ((h2 x hn).trans hv) h) hd
theorem zfW {x:Str}{v:V}{u:Value}{pos:Pos}(hg:Gl X x)(hm:X.mg x=some u)(r:RelV v u)(hd:(x == ("__debug__":Str))=false:=by decide):PE X (.Name x pos) (tC v):=
 fun _ _ _ H _ I h=>z8c I hg hm ⟨v,H,I,r,h⟩ hd
theorem zfZ {x:Str}{v:V}{u:Value}{pos:Pos}(hg:Gl X x)(hm:X.mg x=none)(hv:bootBuiltins x=some u)(r:RelV v u)(hn:x≠"__name__":=by decide)(hd:(x == ("__debug__":Str))=false:=by decide):PE X (.Name x pos) (tC v):=
 fun _ _ _ H _ I h=>zam I hg hm hv ⟨v,H,I,r,h⟩ hn hd
variable {a b:Expr}{ta tb:TE}{pos:Pos}
noncomputable def PC (X:Cx)(op:CmpOp)(a b:Expr)(t:TE):Prop:=
 ∀ (pins:List (Addr × Obj)) (s:Shared) (σ:St) (H:Hp) (Q:VK),Inv X pins σ H s->t σ H Q->
  wpAny (model X.prog X.w) X.A (eval a X.env) (fun v s₁=>wpAny (model X.prog X.w) X.A (eval b X.env) (fun u s₂=>wpAny (model X.prog X.w) X.A (compareOp op v u) (EP X pins σ Q) X.xe s₂) X.xe s₁) X.xe s
theorem zef (b:Expr){op:CmpOp}(h:op ≠ .In)(h2:op ≠ .NotIn):behindInMarks op b=false:=by
 have e1:(op == CmpOp.In)=false:=by cases op <;> first | rfl | exact absurd rfl h
 have e2:(op == CmpOp.NotIn)=false:=by cases op <;> first | rfl | exact absurd rfl h2
 cases b <;> simp[behindInMarks,e1,e2]
noncomputable def tB (t:TE):TT:=fun σ H Q=>t σ H fun x H1=>∃ c,x = .bl c/\Q c H1
theorem zk4 {op:CmpOp}{t:TE}(h:PC X op a b t)(h1:behindInMarks op b=false:=by first | exact zef _ (by decide) (by decide) | rfl):PT X (.Compare a [op] [b] pos) (tB t):=by
 intro pins s σ H Q I hw
 refine wpAny_isTrue_Compare1 (thn (h pins s σ H _ I hw) fun v s1 h1=>thn h1 fun u s2 h2=>thn h2 fun c s3 ⟨x,H1,I1,r1,q1⟩ => ?_) h1
 obtain⟨d,rfl,q⟩:=q1
 cases r1
 exact wpAny_truthy_bool ⟨H1,I1,q⟩
theorem zhn {e:Expr}{t:TE}(h:PE X e t)(he:∀ whole,isTrue e X.env whole=(do let v <- whole; standAt e.pos; holding [v] (truthy v)):=by intro _; rfl):PT X e (tB t):=by
 intro pins s σ H Q I hw
 refine isTrue_plain (thn (h pins s σ H _ I hw) fun v s1 ⟨x,H1,I1,r1,q1⟩ => ?_) (he _)
 obtain⟨d,rfl,q⟩:=q1
 cases r1
 exact wpAny_truthy_bool ⟨H1,I1,q⟩
variable {tA tB':TT}{rest:List Expr}
noncomputable def tAnd (t u:TT):TT:=fun σ H Q=>t σ H fun c H1=>if c=true then u σ H1 Q else Q false H1
noncomputable def tOr (t u:TT):TT:=fun σ H Q=>t σ H fun c H1=>if c=true then Q true H1 else u σ H1 Q
noncomputable def tNot (t:TT):TT:=fun σ H Q=>t σ H fun c H1=>Q (!c) H1
theorem zfP (ha:PT X a tA):PW X (.BoolOp .And [a] pos) tA:=by
 intro wh pins s σ H Q I h
 refine isTrue_and (thn (ha pins s σ H Q I h) fun c s1 e => ?_)
 cases c with
 | true=>exact isTrue_and_nil e
 | false=>exact e
theorem zhl (ha:PT X a tA):PW X (.BoolOp .Or [a] pos) tA:=by
 intro wh pins s σ H Q I h
 refine isTrue_or (thn (ha pins s σ H Q I h) fun c s1 e => ?_)
 cases c with
 | false=>exact isTrue_or_nil e
 | true=>exact e
theorem zhm (ha:PT X a tA)(hb:PW X (.BoolOp .And (b::rest) pos) tB'):PW X (.BoolOp .And (a::b::rest) pos) (tAnd tA tB'):=by
 intro wh pins s σ H Q I h
 refine isTrue_and (thn (ha pins s σ H _ I h) fun c s1 ⟨H1,I1,q1⟩ => ?_)
 cases c with
 | true=>exact hb wh pins s1 σ H1 Q I1 q1
 | false=>exact⟨H1,I1,q1⟩
theorem zjh (ha:PT X a tA)(hb:PW X (.BoolOp .Or (b::rest) pos) tB'):PW X (.BoolOp .Or (a::b::rest) pos) (tOr tA tB'):=by
 intro wh pins s σ H Q I h
 refine isTrue_or (thn (ha pins s σ H _ I h) fun c s1 ⟨H1,I1,q1⟩ => ?_)
 cases c with
 | true=>exact⟨H1,I1,q1⟩
 | false=>exact hb wh pins s1 σ H1 Q I1 q1
theorem zho (ha:PT X a tA):PT X (.UnaryOp .Not a pos) (tNot tA):=by
 intro pins s σ H Q I h
 exact isTrue_not (ha pins s σ H (fun c H1=>Q (!c) H1) I h)
noncomputable def zgL (ta tb:TE):TE:=fun σ H Q=>ta σ H fun x H1=>∃ c,x = .bl c/\if c=true then tb σ H1 Q else Q (.bl false) H1
noncomputable def zgH (ta:TE):TE:=fun σ H Q=>ta σ H fun x H1=>∃ c,x = .bl c/\Q (.bl (!c)) H1
theorem zhy {op}{t:TE}(h:PE X a t):PE X (.BoolOp op [a] pos) t:=fun pins s σ H Q I hw=>BoolOp_one (h pins s σ H Q I hw)
theorem zhE (ha:PE X a ta)(hb:PE X (.BoolOp .And (b::rest) pos) tb):PE X (.BoolOp .And (a::b::rest) pos) (zgL ta tb):=by
 intro pins s σ H Q I h
 refine BoolOp_and (thn (ha pins s σ H _ I h) fun v s1 ⟨x,H1,I1,r1,q1⟩ => ?_)
 obtain⟨c,rfl,q1⟩:=q1
 cases r1
 refine wpAny_truthy_bool ?_
 cases c with
 | true=>exact hb pins s1 σ H1 Q I1 q1
 | false=>exact⟨.bl false,H1,I1,rfl,q1⟩
theorem zhz (ha:PE X a ta):PE X (.UnaryOp .Not a pos) (zgH ta):=by
 intro pins s σ H Q I h
 refine UnaryOp_ (thn (ha pins s σ H _ I h) fun v s1 ⟨x,H1,I1,r1,q1⟩ => ?_)
 obtain⟨c,rfl,q1⟩:=q1
 cases r1
 exact not_of (wpAny_truthy_bool ⟨.bl (!c),H1,I1,rfl,q1⟩)
end
end L2
namespace L2
open PySem PySem.Spec PyProof.Rows
noncomputable def SqL (K:W.Frag)(H:Hp)(a:Addr)(xs:List V):Prop:=
 Rd H a (.lst xs)\/
  ∃ (o:Obj) (its:Array Value) (n:Nat),K.lookup a=some o/\o.cls = .type "list"/\o.dict=none/\o.data = .seq its n/\its.size<=sizeLine/\Vals xs its.toList
noncomputable def SqT (K:W.Frag)(H:Hp)(a:Addr)(xs:List V):Prop:=
 Rd H a (.tup xs)\/
  ∃ (o:Obj) (its:Array Value) (n:Nat),K.lookup a=some o/\o.cls = .type "tuple"/\o.data = .seq its n/\its.size<=sizeLine/\Vals xs its.toList
noncomputable def absV:Value->Option V
 | .none=>some .non
 | .bool b=>some (.bl b)
 | .int i _=>some (.int i)
 | .str x _=>some (.str x)
 | .bytes b _=>some (.byt b)
 | .float b _=>some (.flt b)
 | .ref a=>some (.ref a)
 | .type n=>some (.ty n)
 | _=>none
theorem RelV.abs {x:V}{u:Value}(r:RelV x u):absV u=some x:=by
 cases x with
 | non=>cases r; rfl
 | bl _=>cases r; rfl
 | int _=>obtain⟨t,rfl⟩:=r; rfl
 | str _=>obtain⟨t,rfl⟩:=r; rfl
 | byt _=>obtain⟨t,rfl⟩:=r; rfl
 | flt _=>obtain⟨t,rfl⟩:=r; rfl
 | ref _=>cases r; rfl
 | ty _=>cases r; rfl
theorem RelV.inj {x y:V}{u:Value}(r:RelV x u)(q:RelV y u):x=y:=Option.some.inj (r.abs.symm.trans q.abs)
theorem Vals.inj:∀ {xs ys:List V}{us:List Value},Vals xs us->Vals ys us->xs=ys
 | _,_,_,.nil,.nil=>rfl
 | _,_,_,.cons r t,.cons r' t'=>by rw[r.inj r',Vals.inj t t']
section
variable {X:Cx}{pins:List (Addr × Obj)}{σ:St}{H:Hp}{s:Shared}{a:Addr}{xs ys:List V}
theorem SqL.of {K:W.Frag}(h:H a=some (.lst xs)):SqL K H a xs :=.inl (.inl h)
theorem SqT.of {K:W.Frag}(h:H a=some (.tup xs)):SqT K H a xs :=.inl (.inl h)
theorem Inv.list (I:Inv X pins σ H s)(h:SqL X.K H a xs):∃ its:List Value,Vals xs its/\PlainL s.heap a its.toArray/\xs.length<=sizeLine:=by
 rcases h with h | ⟨o,its,n,hk,hc,hd,hs,hz,r⟩
 ·obtain⟨z,its,n,r,e⟩:=h.ok I.hok
  exact⟨its,r,⟨_,n,e,rfl,rfl,rfl⟩,z⟩
 ·refine⟨its.toList,r,⟨o,n,I.kIn a o hk,hc,hd,by simpa using hs⟩,?_⟩
  have e:=r.length
  simp only[Array.length_toList] at e
  omega
theorem Inv.tuple (I:Inv X pins σ H s)(h:SqT X.K H a xs):∃ its:List Value,Vals xs its/\IsTup s.heap a its.toArray/\xs.length<=sizeLine:=by
 rcases h with h | ⟨o,its,n,hk,hc,hs,hz,r⟩
 ·obtain⟨z,its,r,p⟩:=h.ok I.hok
  exact⟨its,r,p,z⟩
 ·refine⟨its.toList,r,⟨o,I.kIn a o hk,hc,n,by simpa using hs⟩,?_⟩
  have e:=r.length
  simp only[Array.length_toList] at e
  omega
theorem Inv.list_inj (I:Inv X pins σ H s)(h:SqL X.K H a xs)(h':SqL X.K H a ys):xs=ys:=by
 obtain⟨its,r,⟨o,n,e,_,_,d⟩,_⟩:=I.list h
 obtain⟨its',r',⟨o',n',e',_,_,d'⟩,_⟩:=I.list h'
 rw[e] at e'; cases e'
 rw[d] at d'
 injection d' with d1 _
 have:its=its':=by simpa using congrArg Array.toList d1
 subst this
 exact r.inj r'
theorem Inv.tuple_inj (I:Inv X pins σ H s)(h:SqT X.K H a xs)(h':SqT X.K H a ys):xs=ys:=by
 obtain⟨its,r,⟨o,e,_,n,d⟩,_⟩:=I.tuple h
 obtain⟨its',r',⟨o',e',_,n',d'⟩,_⟩:=I.tuple h'
 rw[e] at e'; cases e'
 rw[d] at d'
 injection d' with d1 _
 have:its=its':=by simpa using congrArg Array.toList d1
 subst this
 exact r.inj r'
end
noncomputable abbrev Cx.wish (X:Cx)(E:Value->Shared->Prop):Cx:={ X with xe:=E }
noncomputable abbrev Cx.nox (X:Cx):Cx:=X.wish fun _ _=>False
theorem Cx.Ok.wish {X:Cx}(ok:X.Ok)(E:Value->Shared->Prop):(X.wish E).Ok:=
 ⟨ok.mod,ok.kind,ok.glob,ok.blt,ok.above,ok.inj,ok.has,ok.cab,ok.hd,ok.frames,ok.stk,ok.exf,ok.bs,ok.bsz,ok.noex,ok.exfs,ok.funs,ok.frf⟩
theorem Cx.Ok.unwish {X:Cx}{E:Value->Shared->Prop}(ok:(X.wish E).Ok):X.Ok:=
 ⟨ok.mod,ok.kind,ok.glob,ok.blt,ok.above,ok.inj,ok.has,ok.cab,ok.hd,ok.frames,ok.stk,ok.exf,ok.bs,ok.bsz,ok.noex,ok.exfs,ok.funs,ok.frf⟩
section
variable {X:Cx}{pins:List (Addr × Obj)}{σ:St}{H:Hp}{s:Shared}{E:Value->Shared->Prop}
theorem Inv.wish (I:Inv X pins σ H s)(E:Value->Shared->Prop):Inv (X.wish E) pins σ H s:=⟨I.ok.wish E,I.os,I.bare,I.base,I.loc,I.cell,I.free,I.freeC,I.pin,I.hok,I.len⟩
theorem Inv.unwish (I:Inv (X.wish E) pins σ H s):Inv X pins σ H s:=⟨I.ok.unwish,I.os,I.bare,I.base,I.loc,I.cell,I.free,I.freeC,I.pin,I.hok,I.len⟩
theorem SP.unwish {D:Ends}{f:Flow}{s':Shared}(h:SP (X.wish E) pins D f s'):SP X pins D f s':=by
 cases f with
 | next=>obtain⟨σ',H',I,q⟩:=h; exact⟨σ',H',I.unwish,q⟩
 | brk=>obtain⟨σ',H',I,q⟩:=h; exact⟨σ',H',I.unwish,q⟩
 | cont=>obtain⟨σ',H',I,q⟩:=h; exact⟨σ',H',I.unwish,q⟩
 | ret u=>obtain⟨v,σ',H',I,r,q⟩:=h; exact⟨v,σ',H',I.unwish,r,q⟩
theorem PSs.nox {st:List Stmt}{t:TS}(h:PSs X.nox st t):PSs X st t:=fun pins s σ H D I hw=>
 wpAny_mono (h pins s σ H D (I.wish _) hw) (fun _ _ q=>q.unwish) fun _ _ z=>False.elim z
end
section
variable {X:Cx}{st:Stmt}{rest:List Stmt}{t u:TS}{e:Expr}{te:TE}{pos:Pos}
noncomputable def zgI:TS:=fun D σ H=>D.nx σ H
noncomputable def tSeq (t u:TS):TS:=fun D σ H=>t { D with nx:=u D } σ H
theorem zfR:PSs X [] zgI:=fun _ _ σ H _ I h=>wpAny_execs_nil ⟨σ,H,I,h⟩
theorem zdX (h1:PS X st t)(h2:PSs X rest u):PSs X (st::rest) (tSeq t u):=by
 intro pins s σ H D I h
 refine wpAny_execs_cons (thn (h1 pins s σ H { D with nx:=u D } I h) fun f s1 q => ?_)
 cases f with
 | next=>
  obtain⟨σ',H',I',q⟩:=q
  exact h2 pins s1 σ' H' D I' q
 | ret v=>exact q
 | brk=>exact q
 | cont=>exact q
theorem zcz (h1:PS X st t):PSs X [st] t:=by
 intro pins s σ H D I h
 refine wpAny_execs_cons (thn (h1 pins s σ H D I h) fun f s1 q => ?_)
 cases f with
 | next=>exact wpAny_execs_nil q
 | ret v=>exact q
 | brk=>exact q
 | cont=>exact q
theorem Inv.quiet {pins:List (Addr × Obj)}{σ:St}{H:Hp}{s:Shared}(I:Inv X pins σ H s):interactive X.env=false:=by simp[interactive,I.ok.kind]
noncomputable def zgJ (te:TE):TS:=fun D σ H=>te σ H fun _ H1=>D.nx σ H1
theorem zcA (he:PE X e te)(hs:swapsWith e none pos.line X.env=pure false:=by rfl):PS X (.Expr e pos) (zgJ te):=by
 intro pins s σ H D I h
 exact wpAny_Expr_any (thn (he pins s σ H _ I h) fun v s1 ⟨x,H1,I1,r1,q1⟩=>⟨σ,H1,I1,q1⟩) I.quiet hs
noncomputable def tRet (te:TE):TS:=fun D σ H=>te σ H D.rt
theorem zhp (he:PE X e te):PS X (.Return (some e) pos) (tRet te):=by
 intro pins s σ H D I h
 exact wpAny_Return_some (thn (he pins s σ H _ I h) fun v s1 ⟨x,H1,I1,r1,q1⟩=>⟨x,σ,H1,I1,r1,q1⟩)
noncomputable def tIfS (c:TT)(t u:TS):TS:=fun D σ H=>c σ H fun b H1=>if b=true then t D σ H1 else u D σ H1
theorem zji {c:Expr}{a b:List Stmt}{tc:TT}(hc:PT X c tc)(ha:PSs X a t)(hb:PSs X b u):PS X (.If c a b pos) (tIfS tc t u):=by
 intro pins s σ H D I h
 refine wpAny_If (thn (hc pins s σ H _ I h) fun d s1 ⟨H1,I1,q1⟩ => ?_)
 cases d with
 | true=>exact ha pins s1 σ H1 D I1 q1
 | false=>exact hb pins s1 σ H1 D I1 q1
end
noncomputable abbrev TG:=V->St->Hp->(St->Hp->Prop)->Prop
noncomputable abbrev TGs:=List V->St->Hp->(St->Hp->Prop)->Prop
noncomputable def PG (X:Cx)(target:Expr)(t:TG):Prop:=
 ∀ (pins:List (Addr × Obj)) (s:Shared) (σ:St) (H:Hp) (v:V) (u:Value) (Q:St->Hp->Prop),Inv X pins σ H s->RelV v u->t v σ H Q->
  wpAny (model X.prog X.w) X.A (assign target X.env u) (fun _ s'=>∃ σ' H',Inv X pins σ' H' s'/\Q σ' H') X.xe s
noncomputable def PGs (X:Cx)(ts:List Expr)(t:TGs):Prop:=
 ∀ (pins:List (Addr × Obj)) (s:Shared) (σ:St) (H:Hp) (vs:List V) (us:List Value) (Q:St->Hp->Prop),Inv X pins σ H s->Vals vs us->t vs σ H Q->
  wpAny (model X.prog X.w) X.A (assignInOrder ((assignEach ts X.env).map (·.2)) us) (fun _ s'=>∃ σ' H',Inv X pins σ' H' s'/\Q σ' H') X.xe s
noncomputable abbrev TSet:=V->V->V->Hp->(Hp->Prop)->Prop
noncomputable def PSet (X:Cx)(t:TSet):Prop:=
 ∀ (pins:List (Addr × Obj)) (s:Shared) (σ:St) (H:Hp) (o i v:V) (ov iv u:Value) (Q:Hp->Prop),Inv X pins σ H s->RelV o ov->RelV i iv->RelV v u->t o i v H Q->
  wpAny (model X.prog X.w) X.A (setItem ov iv u) (fun _ s'=>∃ H',Inv X pins σ H' s'/\Q H') X.xe s
section
variable {X:Cx}{pos:Pos}
noncomputable def z6z (i:Nat):TG:=fun v σ H Q=>Q (σ.set i (some v)) H
theorem zcF {i:Nat}{x:Str}(hN:X.N.Nodup)(hi:X.N[i]? = some x)(hx:Loc X.env.scope x)(hf:X.fn x=true\/X.env.scope.names.lookup x=some .local:=by first | exact .inl rfl | exact .inr rfl | assumption):PG X (.Name x pos) (z6z i):=by
 intro pins s σ H v u Q I r h
 exact wpAny_assign_Name (z9s I hN hi hx r (fun s' I'=>⟨_,H,I',h⟩) hf)
noncomputable def gNil:TGs:=fun vs σ H Q=>vs=[]/\Q σ H
noncomputable def zeu (t:TG)(u:TGs):TGs:=fun vs σ H Q=>∃ v r,vs=v::r/\t v σ H fun σ' H'=>u r σ' H' Q
theorem zfU:PGs X [] gNil:=by
 intro pins s σ H vs us Q I r h
 obtain⟨e,h⟩:=h
 subst e
 cases r
 exact assignInOrder_nil ⟨σ,H,I,h⟩
theorem ze0 {e:Expr}{es:List Expr}{t:TG}{u:TGs}(h1:PG X e t)(h2:PGs X es u)
  (hs:(assignEach (e::es) X.env).map (·.2)=assign e X.env::(assignEach es X.env).map (·.2):=by rfl):PGs X (e::es) (zeu t u):=by
 intro pins s σ H vs us Q I r h
 obtain⟨v,vr,e1,h⟩:=h
 subst e1
 cases r with
 | cons r rr=>
  rw[hs]
  refine assignInOrder_cons (thn (h1 pins s σ H _ _ _ I r h) fun _ s1 ⟨σ1,H1,I1,q1⟩ => ?_)
  exact h2 pins s1 σ1 H1 _ _ Q I1 rr q1
noncomputable def gTup (K:W.Frag)(n:Nat)(t:TGs):TG:=fun v σ H Q=>∃ a xs,v = .ref a/\SqT K H a xs/\xs.length=n/\t xs σ H Q
theorem zhu {es:List Expr}{k:Nat}{t:TGs}{n:Nat}(hc:X.calm=true)(h:PGs X es t)
  (hn:(assignEach es X.env).length=n:=by rfl) (hst:(assignEach es X.env).findIdx? (·.1)=none:=by rfl):PG X (.Tuple es k pos) (gTup X.K n t):=by
 intro pins s σ H v u Q I r hw
 obtain⟨a,xs,e1,hq,hl,hw⟩:=hw
 subst e1
 cases r
 obtain⟨its,rv,ht,hz⟩:=I.tuple hq
 refine assign_Tuple_tuple (I.ok.hd hc) ht (by simp[hn, <- hl,rv.length]) hst fun h' hx => ?_
 have I1:Inv X pins σ H { s with heap:=h' }:=I.kept (t':=s.toks) fun b o e=>hx b o (Nat.ne_of_lt (Heap.lt_size e)) e
 exact h pins _ σ H xs _ Q I1 (by simpa using rv) hw
noncomputable def gSub (to ti:TE)(t:TSet):TG:=fun v σ H Q=>to σ H fun o H1=>ti σ H1 fun i H2=>t o i v H2 fun H3=>Q σ H3
theorem zhv {o i:Expr}{to ti:TE}{t:TSet}(ho:PE X o to)(hi:PE X i ti)(hs:PSet X t)
  (ha:∀ v,assign (.Subscript o i pos) X.env v=(do
   let ov <- holding [v] (eval o X.env)
   let iv <- holding [v,ov] (eval i X.env)
   standAt pos
   holding [v,ov,iv] (setItem ov iv v)
   release [v,ov,iv] []):=by intro _; rfl):PG X (.Subscript o i pos) (gSub to ti t):=by
 intro pins s σ H v u Q I r h
 rw[ha]
 refine wpAny_bind (wpAny_holding (thn (ho pins s σ H _ I h) fun ov s1 ⟨x,H1,I1,r1,q1⟩ => ?_))
 refine wpAny_bind (wpAny_holding (thn (hi pins s1 σ H1 _ I1 q1) fun iv s2 ⟨y,H2,I2,r2,q2⟩ => ?_))
 refine wpAny_bind (wpAny_standAt (wpAny_bind (wpAny_holding (thn (hs pins s2 σ H2 x y v ov iv u _ I2 r1 r2 r q2) fun _ s3 ⟨H3,I3,q3⟩ => ?_))))
 exact wpAny_release ⟨σ,H3,I3,q3⟩
noncomputable def tAsg (te:TE)(g:TG):TS:=fun D σ H=>te σ H fun x H1=>g x σ H1 D.nx
theorem zhs {tg e:Expr}{te:TE}{g:TG}(he:PE X e te)(hg:PG X tg g)(hs:swapsWithSole [tg] e pos.line X.env=pure false:=by rfl)(hw:swappedStores [tg] e X.env=pure none:=by rfl)
  (h1:(assignEach [tg] X.env).map (·.2)=[assign tg X.env]:=by rfl):PS X (.Assign [tg] e pos) (tAsg te g):=by
 intro pins s σ H D I h
 refine wpAny_Assign_stores (thn (he pins s σ H _ I h) fun v s1 ⟨x,H1,I1,r1,q1⟩ => ?_) hs hw
 rw[h1]
 exact thn (hg pins s1 σ H1 x v _ I1 r1 q1) fun _ s2 q=>q
theorem zf1 {i:Nat}{x:Str}{e:Expr}{te:TE}{pos':Pos}(hN:X.N.Nodup)(hi:X.N[i]? = some x)(hx:Loc X.env.scope x)(he:PE X e te)(hs:swapsWith e (some (.Name x pos')) pos.line X.env=pure false:=by rfl)(hf:X.fn x=true\/X.env.scope.names.lookup x=some .local:=by first | exact .inl rfl | exact .inr rfl | assumption):
  PS X (.Assign [.Name x pos'] e pos) (tAsg te (z6z i)):=by
 intro pins s σ H D I h
 refine wpAny_Assign_Name (thn (he pins s σ H _ I h) fun v s1 ⟨y,H1,I1,r1,q1⟩ => ?_) hs
 exact z9s I1 hN hi hx r1 (fun s2 I2=>⟨_,H1,I2,q1⟩) hf
end
section
variable {X:Cx}{pos:Pos}
noncomputable def zeR (c:TT)(tb:TS):TS:=fun D σ H=>∃ W:Nat->St->Hp->Prop,(∃ m,W m σ H)/\∀ m σ H,W m σ H->
 c σ H fun b H1=>if b=true then ∃ N:St->Hp->Prop,(∀ σ' H',N σ' H'->∃ m',m' < m/\W m' σ' H')/\tb { D with nx:=N,ct:=N,bk:=D.nx } σ H1 else D.nx σ H1
theorem zdY {c:Expr}{body:List Stmt}{tc:TT}{tb:TS}(hp:PassesOwn (model X.prog X.w) X.A X.env X.xe)(hc:PT X c tc)(hb:PSs X body tb):PS X (.While c body [] pos) (zeR tc tb):=by
 intro pins s σ H D I h
 obtain⟨W,⟨m0,w0⟩,turn⟩:=h
 refine wpAny_While (codeAny_whileLoop (fun n s'=>∃ σ' H',Inv X pins σ' H' s'/\W n σ' H') ?_ m0 ⟨σ,H,I,w0⟩)
 rintro n s1 ⟨σ1,H1,I1,w1⟩
 refine wpAny_passesOwn hp (thn (hc pins s1 σ1 H1 _ I1 (turn n σ1 H1 w1)) fun b s2 ⟨H2,I2,q2⟩ => ?_)
 cases b with
 | true=>
  obtain⟨N,hN,q2⟩:=q2
  rw[if_pos rfl]
  refine wpAny_passesOwn hp (thn (hb pins s2 σ1 H2 _ I2 q2) fun f s3 q3 => ?_)
  cases f with
  | next=>
   obtain⟨σ3,H3,I3,n3⟩:=q3
   obtain⟨m',hm,w3⟩:=hN σ3 H3 n3
   exact⟨m',hm,σ3,H3,I3,w3⟩
  | cont=>
   obtain⟨σ3,H3,I3,n3⟩:=q3
   obtain⟨m',hm,w3⟩:=hN σ3 H3 n3
   exact⟨m',hm,σ3,H3,I3,w3⟩
  | brk=>exact q3
  | ret v=>exact q3
 | false=>
  rw[if_neg Bool.false_ne_true]
  exact wpAny_execs_nil ⟨σ1,H2,I2,q2⟩
end
structure It where
 go:Nat->Hp->Prop
 yld:Nat->Hp->V->Hp->Prop
 stop:Nat->Hp->Prop
noncomputable def FpOk (X:Cx)(pins:List (Addr × Obj))(H:Hp)(b:Addr):Prop:=
 H b=none/\b≠X.env.locals/\b ∉ X.fs/\(b∈X.ex\/X.s₀.heap.objs.size<=b)/\(∀ x c,X.env.cells.lookup x=some c->c≠b)/\∀ p∈X.pn++pins,p.1≠b
theorem Inv.fpOk {X:Cx}{pins:List (Addr × Obj)}{σ:St}{H H':Hp}{s:Shared}{b:Addr}(I:Inv X pins σ H s)(hb:s.heap.objs.size<=b)(hn:H' b=none):FpOk X pins H' b:=by
 refine⟨hn,Nat.ne_of_gt (Nat.lt_of_lt_of_le I.lt hb),I.nofs hb,.inr (Nat.le_trans I.sz hb),fun x c e z => ?_,fun p hp z => ?_⟩
 ·obtain⟨v,q⟩:=I.cell x c e
  exact absurd (Nat.lt_of_lt_of_le q.lt (by rw[z]; exact hb)) (Nat.lt_irrefl _)
 ·exact absurd (Nat.lt_of_lt_of_le (Heap.lt_size (I.pin p hp).1) (by rw[z]; exact hb)) (Nat.lt_irrefl _)
structure Turn (P:Program)(w:World)(K:W.Frag)(tg:Expr)(J:It)(fp:List Addr)(it:Addr)(tn:Nat->Heap->Prop):Prop where
 mem:it∈fp
 obj:∀ i h,tn i h->∀ b∈fp,∃ o,h.get? b=some o/\∀ v,o.data ≠ .cell v
 keep:∀ i h h',tn i h->(∀ b∈fp,∀ o,h.get? b=some o->h'.get? b=some o)->tn i h'
 item:∀ (X:Cx),X.prog=P->X.w=w->X.K=K->X.calm=true->∀ (i:Nat) (pins:List (Addr × Obj)) (s:Shared) (σ:St) (H:Hp) (E:Value->Shared->Prop),Inv X pins σ H s->(∀ b∈fp,FpOk X pins H b)->tn i s.heap->J.go i H->
  wpAny (model P w) X.A (pyNext (.ref it)) (fun r s1=>∃ u,r=some u/\
   wpAny (model P w) X.A (letOwnedTupleGo tg (.ref it) u) (fun _ s2=>∃ x H',Inv X pins σ H' s2/\RelV x u/\J.yld i H x H'/\tn (i+1) s2.heap/\∀ b∈fp,H' b=none) E s1) E s
 done:∀ (X:Cx),X.prog=P->X.w=w->X.K=K->X.calm=true->∀ (i:Nat) (pins:List (Addr × Obj)) (s:Shared) (σ:St) (H:Hp) (E:Value->Shared->Prop),Inv X pins σ H s->(∀ b∈fp,FpOk X pins H b)->tn i s.heap->J.stop i H->
  wpAny (model P w) X.A (pyNext (.ref it)) (fun r s1=>r=none/\Inv X pins σ H s1) E s
 self:∀ (A:Around) (i:Nat) (s:Shared) (Q:Value->Shared->Prop) (E:Value->Shared->Prop),tn i s.heap->Q (.ref it) s->wpAny (model P w) A (pyIter (.ref it)) Q E s
noncomputable abbrev TI:=St->Hp->(It->Hp->Prop)->Prop
noncomputable def PIE (X:Cx)(pins:List (Addr × Obj))(σ:St)(tg:Expr)(R:It->Hp->Prop)(itv:Value)(s2:Shared):Prop:=
 ∃ (it:Addr) (fp:List Addr) (tn:Nat->Heap->Prop) (J:It) (H':Hp),itv = .ref it/\Inv X pins σ H' s2/\Turn X.prog X.w X.K tg J fp it tn/\tn 0 s2.heap/\(∀ b∈fp,FpOk X pins H' b)/\R J H'
noncomputable def PI (X:Cx)(tg iter:Expr)(wi:TI):Prop:=
 ∀ (pins:List (Addr × Obj)) (s:Shared) (σ:St) (H:Hp) (R:It->Hp->Prop),Inv X pins σ H s->wi σ H R->
  wpAny (model X.prog X.w) X.A (eval iter X.env) (fun v s1=>wpAny (model X.prog X.w) X.A (pyIter v) (PIE X pins σ tg R) X.xe s1) X.xe s
theorem zer {M:Model}{A:Around}{E:Value->Shared->Prop}{s:Shared}{tg:Expr}{it:Addr}{u:Value}{o:Obj}{n:String}{vs:Array Value}{Q:Unit->Shared->Prop}(ho:s.heap.get? it=some o)(hc:o.cls = .type n)(hd:o.data = .fields vs)
  (hn:["enumerate","zip","dict_itemiterator","dict_reverseitemiterator","odict_iterator","itertools.zip_longest","itertools.pairwise"].contains n=false) (hQ:Q () s):wpAny M A (letOwnedTupleGo tg (.ref it) u) Q E s:=by
 unfold letOwnedTupleGo
 cases tg <;> first
  | exact wpAny_pure hQ
  | (cases u <;> first
    | exact wpAny_pure hQ
    | (refine wpAny_bind (wpAny_load ho ?_)
       rw[hc,hd]
       show wpAny M A (if (["enumerate","zip","dict_itemiterator","dict_reverseitemiterator","odict_iterator","itertools.zip_longest","itertools.pairwise"].contains n && vs[0]? == some (rawInt _))=true then _ else _) Q E s
       rw[if_neg (by intro h; rw[hn,Bool.false_and] at h; cases h)]
       exact wpAny_pure hQ))
noncomputable def Itl (K:W.Frag)(a:Addr):It:=
 ⟨fun i H=>∃ xs x,SqL K H a xs/\xs[i]? = some x,fun i H x H'=>H'=H/\∀ xs,SqL K H a xs->xs[i]? = some x,fun i H=>∃ xs,SqL K H a xs/\xs.length<=i⟩
noncomputable def Itt (K:W.Frag)(a:Addr):It:=
 ⟨fun i H=>∃ xs x,SqT K H a xs/\xs[i]? = some x,fun i H x H'=>H'=H/\∀ xs,SqT K H a xs->xs[i]? = some x,fun i H=>∃ xs,SqT K H a xs/\xs.length<=i⟩
noncomputable def Itr (lo:Int)(n:Nat):It:=⟨fun i _=>i < n,fun i H x H'=>H'=H/\x = .int (lo+i),fun i _=>n<=i⟩
theorem zc8 {P:Program}{w:World}{K:W.Frag}{tg:Expr}(a it:Addr):Turn P w K tg (Itl K a) [it] it (fun i h=>h.IsListIter it a i) where
 mem:=by simp
 obj:=fun i h st b hb=>by
  have e:b=it:=by simpa using hb
  subst e
  obtain⟨o,e,c,d⟩:=st
  exact⟨o,e,fun v z=>by rw[d] at z; cases z⟩
 keep:=fun i h h' st k=>st.at fun o e=>k it (by simp) o e
 item:=by
  intro X hP hw hK hc i pins s σ H E I hf st hg
  subst hP hw hK
  obtain⟨xs,x,hq,hx⟩:=hg
  obtain⟨its,rv,p,hz⟩:=I.list hq
  obtain⟨u,hu,ru⟩:=rv.get hx
  obtain⟨f0,f1,f2,f3,f4,f5⟩:=hf it (by simp)
  refine wpAny_pyNext_list_item st p.isList (x:=u) (by simpa using hu) fun h' st' sb => ?_
  have I1:Inv X pins σ H { s with heap:=h' }:=I.turned (t':=s.toks) (fun b o hb e=>(sb.2 b hb).trans e) f0 f1 f3 f4 f5
  obtain⟨o,e,c,d⟩:=id st'
  exact⟨u,rfl,zer (s:={ s with heap:=h' }) e c d (by decide) ⟨x,H,I1,ru,⟨rfl,fun ys hy=>by rw[I.list_inj hy hq]; exact hx⟩,st',fun b hb=>(hf b hb).1⟩⟩
 done:=by
  intro X hP hw hK hc i pins s σ H E I hf st hg
  subst hP hw hK
  obtain⟨xs,hq,hx⟩:=hg
  obtain⟨its,rv,p,hz⟩:=I.list hq
  obtain⟨f0,f1,f2,f3,f4,f5⟩:=hf it (by simp)
  have hl:=rv.length
  exact wpAny_pyNext_list_end (I.ok.hd hc) st p.isList (by simp; omega) fun h' eb=>⟨rfl,I.turned (t':=s.toks) (fun b o hb e=>eb b o hb e) f0 f1 f3 f4 f5⟩
 self:=fun _ _ _ _ _ st h=>wpAny_pyIter_listiter st h
theorem zbA {P:Program}{w:World}{K:W.Frag}{tg:Expr}(a it:Addr):Turn P w K tg (Itt K a) [it] it (fun i h=>h.IsTupleIter it a i) where
 mem:=by simp
 obj:=fun i h st b hb=>by
  have e:b=it:=by simpa using hb
  subst e
  obtain⟨o,e,c,d⟩:=st
  exact⟨o,e,fun v z=>by rw[d] at z; cases z⟩
 keep:=fun i h h' st k=>st.at fun o e=>k it (by simp) o e
 item:=by
  intro X hP hw hK hc i pins s σ H E I hf st hg
  subst hP hw hK
  obtain⟨xs,x,hq,hx⟩:=hg
  obtain⟨its,rv,p,hz⟩:=I.tuple hq
  obtain⟨u,hu,ru⟩:=rv.get hx
  obtain⟨f0,f1,f2,f3,f4,f5⟩:=hf it (by simp)
  refine wpAny_pyNext_tuple_item st (show s.heap.IsTuple a its.toArray from p) (x:=u) (by simpa using hu) fun h' st' sb => ?_
  have I1:Inv X pins σ H { s with heap:=h' }:=I.turned (t':=s.toks) (fun b o hb e=>(sb.2 b hb).trans e) f0 f1 f3 f4 f5
  obtain⟨o,e,c,d⟩:=id st'
  exact⟨u,rfl,zer (s:={ s with heap:=h' }) e c d (by decide) ⟨x,H,I1,ru,⟨rfl,fun ys hy=>by rw[I.tuple_inj hy hq]; exact hx⟩,st',fun b hb=>(hf b hb).1⟩⟩
 done:=by
  intro X hP hw hK hc i pins s σ H E I hf st hg
  subst hP hw hK
  obtain⟨xs,hq,hx⟩:=hg
  obtain⟨its,rv,p,hz⟩:=I.tuple hq
  obtain⟨f0,f1,f2,f3,f4,f5⟩:=hf it (by simp)
  have hl:=rv.length
  exact wpAny_pyNext_tuple_end (I.ok.hd hc) st (show s.heap.IsTuple a its.toArray from p) (by simp; omega) fun h' eb=>⟨rfl,I.turned (t':=s.toks) (fun b o hb e=>eb b o hb e) f0 f1 f3 f4 f5⟩
 self:=fun _ _ _ _ _ st h=>wpAny_pyIter_tupleiter st h
theorem zbB {P:Program}{w:World}{K:W.Frag}{tg:Expr}(it:Addr)(lo:Int)(n:Nat):Turn P w K tg (Itr lo n) [it] it (fun i h=>IsRangeIter h it (lo+(i:Nat)*1) ((n:Int) - (i:Nat)) 1) where
 mem:=by simp
 obj:=fun i h st b hb=>by
  have e:b=it:=by simpa using hb
  subst e
  exact⟨_,st,fun v z=>by
   have z':Data.fields _=Data.cell v:=z
   cases z'⟩
 keep:=fun i h h' st k=>k it (by simp) _ st
 item:=by
  intro X hP hw hK hc i pins s σ H E I hf st hg
  subst hP hw hK
  obtain⟨f0,f1,f2,f3,f4,f5⟩:=hf it (by simp)
  have W:=Walks.range (prog:=X.prog) (w:=X.w) (I.ok.hd hc) it lo 1 n
  refine W.item i s _ _ hg st fun v h' tk hv st' kk => ?_
  obtain⟨t,rfl⟩:=hv
  have I1:Inv X pins σ H { s with heap:=h',toks:=tk }:=I.turned (fun b o hb e=>kk b o (by simpa using hb) e) f0 f1 f3 f4 f5
  refine⟨_,rfl,zer (s:={ s with heap:=h',toks:=tk }) (n:="range_iterator") st' rfl rfl (by decide) ⟨.int (lo+i),H,I1,⟨t,?_⟩,⟨rfl,rfl⟩,st',fun b hb=>(hf b hb).1⟩⟩
  rw[Int.mul_one]
 done:=by
  intro X hP hw hK hc i pins s σ H E I hf st hg
  subst hP hw hK
  obtain⟨f0,f1,f2,f3,f4,f5⟩:=hf it (by simp)
  exact wpAny_pyNext_range_end (I.ok.hd hc) st (by have:n<=i:=hg; omega) fun h' eb=>⟨rfl,I.turned (t':=s.toks) (fun b o hb e=>eb b o hb e) f0 f1 f3 f4 f5⟩
 self:=fun _ _ _ _ _ st h=>wpAny_pyIter_rangeiter st h
end L2
namespace L2
open PySem PySem.Spec PyProof.Rows
section
variable {X:Cx}{tg:Expr}
theorem zdS {pins:List (Addr × Obj)}{σ:St}{H:Hp}{s:Shared}{R:It->Hp->Prop}{E:Value->Shared->Prop}{lo hi:Int}{t u v:Tok}{tk:Nat}(I:Inv X pins σ H s)(h1 : -(2 ^ 62)<=lo)(h2:lo < 2 ^ 62)(h3 : -(2 ^ 62)<=hi)(h4:hi < 2 ^ 62)
  (q:R (Itr lo (hi - lo).toNat) H):wpAny (model X.prog X.w) X.A (pyIter (.ref s.heap.objs.size)) (PIE X pins σ tg R) E { s with heap:=s.heap.push { cls :=.type "range",data :=.fields #[.int lo t,.int hi u,.int 1 v] },toks:=tk }:=by
 refine wpAny_pyIter_range (IsRange.new ..) (small_one h1 h2 h3 h4) ?_
 have I1:Inv X pins σ H { s with heap:=s.heap.push { cls :=.type "range",data :=.fields #[.int lo t,.int hi u,.int 1 v] },toks:=tk }:=I.kept fun b o e=>Heap.get?_push_of_some _ e
 refine⟨(s.heap.push { cls :=.type "range",data :=.fields #[.int lo t,.int hi u,.int 1 v] }).objs.size,[(s.heap.push { cls :=.type "range",data :=.fields #[.int lo t,.int hi u,.int 1 v] }).objs.size],_,_,H,rfl,
  I1.kept (t':=tk) fun b o e=>Heap.get?_push_of_some _ e,zbB _ lo (hi - lo).toNat,?_,fun b hb => ?_,q⟩
 ·have e1:lo+((0:Nat):Int)*1=lo:=by simp
  have e2:(((hi - lo).toNat:Nat):Int) - ((0:Nat):Int)=Builtin.Range.rangeSize lo hi 1:=by rw[rangeSize_one]; split <;> omega
  show IsRangeIter _ _ (lo+((0:Nat):Int)*1) ((((hi - lo).toNat:Nat):Int) - ((0:Nat):Int)) 1
  rw[e1,e2]
  exact Heap.get?_push_size _ rfl
 ·have e:b=(s.heap.push { cls :=.type "range",data :=.fields #[.int lo t,.int hi u,.int 1 v] }).objs.size:=by simpa using hb
  subst e
  exact I1.fpOk (Nat.le_refl _) (I1.hok.fresh (Nat.le_refl _))
noncomputable def zis (ta:TA):TI:=fun σ H R=>ta σ H fun vs H1=>∃ j:Int,vs=[.int j] /\ -(2 ^ 62)<=j/\j < 2 ^ 62/\R (Itr 0 j.toNat) H1
theorem zcE {a:Expr}{ta:TA}{p pos:Pos}(hg:Gl X "range")(hm:X.mg "range"=none)(ha:PA X [a] ta)(hs:starEach [a] X.env=[(false,eval a X.env)]:=by rfl):PI X tg (.Call (.Name "range" p) [a] [] pos) (zis ta):=by
 intro pins s σ H R I h
 refine Call_ (zam I hg hm boot_range (PyProof.Rows.callWith_type1 (thn (ha pos pins s σ H _ I h) fun us s1 ⟨vs,H1,I1,r1,q1⟩ => ?_) hs rfl))
 obtain⟨j,e,q1,q2,q⟩:=q1
 subst e
 cases r1 with
 | cons r rr=>
  cases rr
  obtain⟨t,rfl⟩:=r
  exact call_range_1 (zdS I1 (by omega) (by omega) q1 q2 (by simpa using q))
noncomputable def tFor (wi:TI)(g:TG)(tb:TS):TS:=fun D σ H=>wi σ H fun J H1=>∃ W:Nat->Nat->St->Hp->Prop,(∃ m,W 0 m σ H1)/\∀ i m σ H,W i m σ H->
 (J.stop i H/\D.nx σ H)\/(J.go i H/\∃ N:St->Hp->Prop,(∀ σ' H',N σ' H'->∃ m',m' < m/\W (i+1) m' σ' H')/\∀ x H',J.yld i H x H'->g x σ H' fun σ2 H2=>tb { D with nx:=N,ct:=N,bk:=D.nx } σ2 H2)
noncomputable def z7E (fp:List Addr)(h:Heap):List (Addr × Obj):=fp.filterMap fun b=>(h.get? b).map fun o=>(b,o)
theorem z3C {fp:List Addr}{h:Heap}{b:Addr}{o:Obj}(hb:b∈fp)(e:h.get? b=some o):(b,o)∈z7E fp h:=List.mem_filterMap.mpr ⟨b,hb,by rw[e]; rfl⟩
theorem zcL {fp:List Addr}{h:Heap}{p:Addr × Obj}(hp:p∈z7E fp h):p.1∈fp/\h.get? p.1=some p.2:=by
 obtain⟨b,hb,e⟩:=List.mem_filterMap.mp hp
 cases q:h.get? b with
 | none=>rw[q] at e; cases e
 | some o=>
  rw[q] at e
  have e':(b,o)=p:=Option.some.inj e
  subst e'
  exact⟨hb,q⟩
theorem Inv.pinned {pins:List (Addr × Obj)}{σ:St}{H:Hp}{s:Shared}{fp:List Addr}(I:Inv X pins σ H s)(hf:∀ b∈fp,FpOk X pins H b)(ho:∀ b∈fp,∃ o,s.heap.get? b=some o/\∀ v,o.data ≠ .cell v):Inv X (pins++z7E fp s.heap) σ H s:=
 I.pins_of fun p hp=>(List.mem_append.mp hp).elim (fun z=>I.pin p (List.mem_append_right _ z)) fun z=>by
  obtain⟨hb,e⟩:=zcL z
  obtain⟨f0,f1,f2,_⟩:=hf p.1 hb
  obtain⟨o,e',d⟩:=ho p.1 hb
  rw[e] at e'; cases e'
  exact⟨e,f0,f1,f2,d⟩
theorem Inv.unpinned {pins pl:List (Addr × Obj)}{σ:St}{H:Hp}{s:Shared}(I:Inv X (pins++pl) σ H s):Inv X pins σ H s:=I.pins_of fun p hp=>I.pin p (List.mem_append_right _ (List.mem_append_left _ hp))
theorem zhr {iter:Expr}{body:List Stmt}{wi:TI}{g:TG}{tb:TS}{pos:Pos}(hp:PassesOwn (model X.prog X.w) X.A X.env X.xe)(hc:X.calm=true)(hi:PI X tg iter wi)(hg:PG X tg g)(hb:PSs X body tb)
  (hs:∀ x,foldedSetIterable iter X.env x=pure x:=by intro _; rfl):PS X (.For tg iter body [] pos) (tFor wi g tb):=by
 intro pins s σ H D I h
 refine wpAny_For (thn (hi pins s σ H _ I h) fun v s1 h1=>thn h1 fun itv s2 h2 => ?_) hs
 obtain⟨it,fp,tn,J,H2,e,I2,T,st2,f2,W,⟨m0,w0⟩,turn⟩:=h2
 subst e
 have stat:∀ {H':Hp},(∀ b∈fp,H' b=none)->∀ b∈fp,FpOk X pins H' b:=fun hn b hb=>⟨hn b hb,(f2 b hb).2⟩
 refine codeAny_forLoop_any (fun n s'=>∃ i σ' H',Inv X pins σ' H' s'/\tn i s'.heap/\(∀ b∈fp,H' b=none)/\W i n σ' H') ?_ m0 ⟨0,σ,H2,I2,st2,fun b hb=>(f2 b hb).1,w0⟩
 rintro n s3 ⟨i,σ3,H3,I3,st3,fr3,w3⟩
 rcases turn i n σ3 H3 w3 with ⟨stop,qn⟩ | ⟨go,N,hN,step⟩
 ·refine wpAny_passesOwn hp (thn (T.done X rfl rfl rfl hc i pins s3 σ3 H3 X.xe I3 (stat fr3) st3 stop) fun r s4 ⟨hr,I4⟩ => ?_)
  subst hr
  exact wpAny_execs_nil ⟨σ3,H3,I4,qn⟩
 ·refine wpAny_passesOwn hp (thn (T.item X rfl rfl rfl hc i pins s3 σ3 H3 X.xe I3 (stat fr3) st3 go) fun r s4 ⟨u,hr,h4⟩ => ?_)
  subst hr
  refine wpAny_passesOwn hp (thn h4 fun _ s5 ⟨x,H5,I5,r5,y5,st5,fr5⟩ => ?_)
  have I5':=I5.pinned (stat fr5) (T.obj _ _ st5)
  refine wpAny_passesOwn hp (thn (hg _ s5 σ3 H5 x u _ I5' r5 (step x H5 y5)) fun _ s6 ⟨σ6,H6,I6,q6⟩ => ?_)
  refine wpAny_passesOwn hp (thn (hb _ s6 σ6 H6 _ I6 q6) fun f s7 q7 => ?_)
  have again:∀ {σ7:St}{H7:Hp},Inv X (pins++z7E fp s5.heap) σ7 H7 s7->N σ7 H7->∃ m,m < n/\∃ i σ' H',Inv X pins σ' H' s7/\tn i s7.heap/\(∀ b∈fp,H' b=none)/\W i m σ' H':=fun {σ7 H7} I7 n7=>by
   obtain⟨m',hm,w7⟩:=hN σ7 H7 n7
   refine⟨m',hm,i+1,σ7,H7,I7.unpinned,T.keep _ _ _ st5 fun b hb o e=>(I7.pin (b,o) (List.mem_append_right _ (List.mem_append_right _ (z3C hb e)))).1,fun b hb => ?_,w7⟩
   obtain⟨o,e,d⟩:=T.obj _ _ st5 b hb
   exact(I7.pin (b,o) (List.mem_append_right _ (List.mem_append_right _ (z3C hb e)))).2.1
  cases f with
  | next=>obtain⟨σ7,H7,I7,n7⟩:=q7; exact again I7 n7
  | cont=>obtain⟨σ7,H7,I7,n7⟩:=q7; exact again I7 n7
  | brk=>obtain⟨σ7,H7,I7,q7⟩:=q7; exact⟨σ7,H7,I7.unpinned,q7⟩
  | ret v=>obtain⟨x7,σ7,H7,I7,r7,q7⟩:=q7; exact⟨x7,σ7,H7,I7.unpinned,r7,q7⟩
end
end L2
namespace L2
open PySem PySem.Spec PyProof.Rows
noncomputable abbrev R2:=V->V->Hp->VK->Prop
noncomputable def OpR (X:Cx)(f:Value->Value->Sem Value)(r:R2):Prop:=
 ∀ (pins:List (Addr × Obj)) (s:Shared) (σ:St) (H:Hp) (x y:V) (v u:Value) (Q:VK),Inv X pins σ H s->RelV x v->RelV y u->r x y H Q->
  wpAny (model X.prog X.w) X.A (f v u) (EP X pins σ Q) X.xe s
noncomputable def UnR (X:Cx)(f:Value->Sem Value)(r:V->Hp->VK->Prop):Prop:=
 ∀ (pins:List (Addr × Obj)) (s:Shared) (σ:St) (H:Hp) (x:V) (v:Value) (Q:VK),Inv X pins σ H s->RelV x v->r x H Q->
  wpAny (model X.prog X.w) X.A (f v) (EP X pins σ Q) X.xe s
noncomputable def z2w (X:Cx)(f:Value)(r:List V->Hp->VK->Prop):Prop:=
 ∀ (pins:List (Addr × Obj)) (s:Shared) (σ:St) (H:Hp) (xs:List V) (us:List Value) (Q:VK),Inv X pins σ H s->Vals xs us->r xs H Q->
  wpAny (model X.prog X.w) X.A (call f us) (EP X pins σ Q) X.xe s
noncomputable def tOp (r:R2)(ta tb:TE):TE:=fun σ H Q=>ta σ H fun x H1=>tb σ H1 fun y H2=>r x y H2 Q
noncomputable def tUn (r:V->Hp->VK->Prop)(ta:TE):TE:=fun σ H Q=>ta σ H fun x H1=>r x H1 Q
noncomputable def rI (C:Int->Int->Prop)(g:Int->Int->V):R2:=fun x y H Q=>∃ i j,x = .int i/\y = .int j/\C i j/\Q (g i j) H
noncomputable def rI0 (g:Int->Int->V):R2:=fun x y H Q=>∃ i j,x = .int i/\y = .int j/\Q (g i j) H
noncomputable def rU (g:Int->V):V->Hp->VK->Prop:=fun x H Q=>∃ i,x = .int i/\Q (g i) H
section
variable {X:Cx}{a b c:Expr}{ta tb tc:TE}{pos:Pos}
theorem binT (ha:PE X a ta)(hb:PE X b tb){pins:List (Addr × Obj)}{s:Shared}{σ:St}{H:Hp}{R:V->V->Hp->Prop}(I:Inv X pins σ H s)
  (h:ta σ H fun x H1=>tb σ H1 fun y H2=>R x y H2) {Q:Value->Shared->Prop}{f:Value->Value->Sem Value}
  (hf:∀ v u s2 x y H2,Inv X pins σ H2 s2->RelV x v->RelV y u->R x y H2->wpAny (model X.prog X.w) X.A (f v u) Q X.xe s2):
  wpAny (model X.prog X.w) X.A (eval a X.env) (fun v s₁=>wpAny (model X.prog X.w) X.A (eval b X.env) (fun u s₂=>wpAny (model X.prog X.w) X.A (f v u) Q X.xe s₂) X.xe s₁) X.xe s:=by
 refine thn (ha pins s σ H _ I h) fun v s1 ⟨x,H1,I1,r1,q1⟩ => ?_
 refine thn (hb pins s1 σ H1 _ I1 q1) fun u s2 ⟨y,H2,I2,r2,q2⟩ => ?_
 exact hf v u s2 x y H2 I2 r1 r2 q2
theorem zjm {op:Operator}{r:R2}(ho:OpR X (binaryOp op) r)(ha:PE X a ta)(hb:PE X b tb):PE X (.BinOp a op b pos) (tOp r ta tb):=by
 intro pins s σ H Q I h
 exact wpAny_BinOp (binT ha hb I h fun v u s2 x y H2 I2 rx ry q=>ho pins s2 σ H2 x y v u Q I2 rx ry q)
theorem zjl {op:UnaryOp}{r:V->Hp->VK->Prop}(ho:UnR X (unaryOp op) r)(ha:PE X a ta):PE X (.UnaryOp op a pos) (tUn r ta):=by
 intro pins s σ H Q I h
 exact UnaryOp_ (thn (ha pins s σ H _ I h) fun v s1 ⟨x,H1,I1,r1,q1⟩=>ho pins s1 σ H1 x v Q I1 r1 q1)
theorem opI {f:Value->Value->Sem Value}{C:Int->Int->Prop}{g:Int->Int->Int}
  (rule:∀ (i j:Int) (t u:Tok) (s:Shared) (Q:Value->Shared->Prop) (E:Value->Shared->Prop),C i j->Q (.int (g i j) s.toks) { s with toks:=s.toks+1 }->wpAny (model X.prog X.w) X.A (f (.int i t) (.int j u)) Q E s):
  OpR X f (rI C fun i j =>.int (g i j)):=by
 intro pins s σ H x y v u Q I rx ry h
 obtain⟨i,j,rfl,rfl,hc,q⟩:=h
 obtain⟨t,rfl⟩:=rx
 obtain⟨t',rfl⟩:=ry
 exact rule i j t t' s _ _ hc ⟨.int (g i j),H,I.tok _,⟨_,rfl⟩,q⟩
theorem opI0 {f:Value->Value->Sem Value}{g:Int->Int->Int}
  (rule:∀ (i j:Int) (t u:Tok) (s:Shared) (Q:Value->Shared->Prop) (E:Value->Shared->Prop),Q (.int (g i j) s.toks) { s with toks:=s.toks+1 }->wpAny (model X.prog X.w) X.A (f (.int i t) (.int j u)) Q E s):
  OpR X f (rI0 fun i j =>.int (g i j)):=by
 intro pins s σ H x y v u Q I rx ry h
 obtain⟨i,j,rfl,rfl,q⟩:=h
 obtain⟨t,rfl⟩:=rx
 obtain⟨t',rfl⟩:=ry
 exact rule i j t t' s _ _ ⟨.int (g i j),H,I.tok _,⟨_,rfl⟩,q⟩
theorem opB0 {f:Value->Value->Sem Value}{g:Int->Int->Bool}
  (rule:∀ (i j:Int) (t u:Tok) (s:Shared) (Q:Value->Shared->Prop) (E:Value->Shared->Prop),Q (.bool (g i j)) s->wpAny (model X.prog X.w) X.A (f (.int i t) (.int j u)) Q E s):
  OpR X f (rI0 fun i j =>.bl (g i j)):=by
 intro pins s σ H x y v u Q I rx ry h
 obtain⟨i,j,rfl,rfl,q⟩:=h
 obtain⟨t,rfl⟩:=rx
 obtain⟨t',rfl⟩:=ry
 exact rule i j t t' s _ _ ⟨.bl (g i j),H,I,rfl,q⟩
noncomputable def CPow (i j:Int):Prop:=0<=j/\j<=1000000/\i.natAbs < 2 ^ 64
theorem zhQ:OpR X (binaryOp .Add) (rI0 fun i j =>.int (i+j)):=opI0 fun _ _ _ _ _ _ _ q=>add_int q
theorem zhI:OpR X (binaryOp .Sub) (rI0 fun i j =>.int (i - j)):=opI0 fun _ _ _ _ _ _ _ q=>sub_int q
theorem zg2:OpR X (binaryOp .Mod) (rI (fun _ j=>j≠0) fun i j =>.int (i.fmod j)):=opI fun _ _ _ _ _ _ _ hc q=>mod_int' hc q
theorem zhJ:OpR X (binaryOp .Pow) (rI CPow fun i j =>.int (i ^ j.toNat)):=opI fun _ _ _ _ _ _ _ hc q=>pow_int_small hc.1 hc.2.1 hc.2.2 q
theorem unI {f:Value->Sem Value}{g:Int->Int}
  (rule:∀ (i:Int) (t:Tok) (s:Shared) (Q:Value->Shared->Prop) (E:Value->Shared->Prop),Q (.int (g i) s.toks) { s with toks:=s.toks+1 }->wpAny (model X.prog X.w) X.A (f (.int i t)) Q E s):
  UnR X f (rU fun i =>.int (g i)):=by
 intro pins s σ H x v Q I rx h
 obtain⟨i,rfl,q⟩:=h
 obtain⟨t,rfl⟩:=rx
 exact rule i t s _ _ ⟨.int (g i),H,I.tok _,⟨_,rfl⟩,q⟩
theorem zgx:UnR X (unaryOp .USub) (rU fun i =>.int (-i)):=unI fun _ _ _ _ _ q=>neg_int q
end
noncomputable def scal:V->V->Bool
 | .non,.non=>true | .non,.int _=>true | .int _,.non=>true | .non,.bl _=>true | .bl _,.non=>true | .non,.str _=>true | .str _,.non=>true
 | .int _,.int _=>true | .bl _,.bl _=>true | .str _,.str _=>true | .byt _,.byt _=>true
 | .int _,.str _=>true | .str _,.int _=>true | .bl _,.str _=>true | .str _,.bl _=>true
 | _,_=>false
noncomputable def rEq:R2:=fun x y H Q=>scal x y=true/\Q (.bl (decide (x=y))) H
noncomputable def rNe:R2:=fun x y H Q=>scal x y=true/\Q (.bl (!decide (x=y))) H
theorem zdg {i j:Int}:decide (V.int i=V.int j)=(i == j):=by
 rw[Bool.eq_iff_iff]
 simp
theorem zfc {i j:Bool}:decide (V.bl i=V.bl j)=(i == j):=by
 rw[Bool.eq_iff_iff]
 simp
theorem zdf {i j:Str}:decide (V.str i=V.str j)=(i == j):=by
 rw[Bool.eq_iff_iff]
 simp
theorem zdh {i j:Array UInt8}:decide (V.byt i=V.byt j)=(i.toList == j.toList):=by
 rw[Bool.eq_iff_iff]
 cases i
 cases j
 simp
section
variable {X:Cx}{a b c:Expr}{ta tb tc:TE}{pos:Pos}
theorem z1b {pins:List (Addr × Obj)}{σ:St}{H:Hp}{s:Shared}{Q:VK}{k k':Bool}(I:Inv X pins σ H s)(q:Q (.bl k) H)(e:k=k'):EP X pins σ Q (.bool k') s:=by
 subst e
 exact⟨.bl k,H,I,rfl,q⟩
theorem zjx:OpR X (compareOp .Eq) rEq:=by
 intro pins s σ H x y v u Q I rx ry h
 obtain⟨hs,q⟩:=h
 cases x with
 | non=>
  cases rx
  cases y with
  | non=>cases ry; exact PySem.EqNone.eq_none_none (z1b I q (by simp))
  | bl j=>cases ry; exact PySem.EqNone.eq_none_bool (z1b I q (by simp))
  | int j=>obtain⟨t',rfl⟩:=ry; exact PySem.EqNone.eq_none_int (z1b I q (by simp))
  | str j=>obtain⟨t',rfl⟩:=ry; exact PySem.EqNone.eq_none_str (z1b I q (by simp))
  | _=>exact absurd (show false=true from hs) Bool.false_ne_true
 | bl i=>
  cases rx
  cases y with
  | non=>cases ry; exact PySem.EqNone.eq_bool_none (z1b I q (by simp))
  | bl j=>cases ry; exact eq_bool (z1b I q zfc)
  | str j=>obtain⟨t',rfl⟩:=ry; exact PySem.EqMixed.eq_bool_str (z1b I q (by simp))
  | _=>exact absurd (show false=true from hs) Bool.false_ne_true
 | int i=>
  obtain⟨t,rfl⟩:=rx
  cases y with
  | non=>cases ry; exact PySem.EqNone.eq_int_none (z1b I q (by simp))
  | int j=>obtain⟨t',rfl⟩:=ry; exact eq_int (z1b I q zdg)
  | str j=>obtain⟨t',rfl⟩:=ry; exact PySem.EqMixed.eq_int_str (z1b I q (by simp))
  | _=>exact absurd (show false=true from hs) Bool.false_ne_true
 | str i=>
  obtain⟨t,rfl⟩:=rx
  cases y with
  | non=>cases ry; exact PySem.EqNone.eq_str_none (z1b I q (by simp))
  | bl j=>cases ry; exact PySem.EqMixed.eq_str_bool (z1b I q (by simp))
  | int j=>obtain⟨t',rfl⟩:=ry; exact PySem.EqMixed.eq_str_int (z1b I q (by simp))
  | str j=>obtain⟨t',rfl⟩:=ry; exact eq_str (z1b I q zdf)
  | _=>exact absurd (show false=true from hs) Bool.false_ne_true
 | byt i=>
  obtain⟨t,rfl⟩:=rx
  cases y with
  | byt j=>obtain⟨t',rfl⟩:=ry; exact PySem.W.eq_bytes (z1b I q zdh)
  | _=>exact absurd (show false=true from hs) Bool.false_ne_true
 | _=>cases y <;> exact absurd (show false=true from hs) Bool.false_ne_true
theorem zjs:OpR X (compareOp .NotEq) rNe:=by
 intro pins s σ H x y v u Q I rx ry h
 obtain⟨hs,q⟩:=h
 cases x with
 | non=>
  cases rx
  cases y with
  | non=>cases ry; exact PySem.EqNone.ne_none_none (z1b I q (by simp))
  | bl j=>cases ry; exact PySem.EqNone.ne_none_bool (z1b I q (by simp))
  | int j=>obtain⟨t',rfl⟩:=ry; exact PySem.EqNone.ne_none_int (z1b I q (by simp))
  | str j=>obtain⟨t',rfl⟩:=ry; exact PySem.EqNone.ne_none_str (z1b I q (by simp))
  | _=>exact absurd (show false=true from hs) Bool.false_ne_true
 | bl i=>
  cases rx
  cases y with
  | non=>cases ry; exact PySem.EqNone.ne_bool_none (z1b I q (by simp))
  | bl j=>cases ry; exact ne_bool (z1b I q (congrArg not zfc))
  | str j=>obtain⟨t',rfl⟩:=ry; exact PySem.EqMixed.ne_bool_str (z1b I q (by simp))
  | _=>exact absurd (show false=true from hs) Bool.false_ne_true
 | int i=>
  obtain⟨t,rfl⟩:=rx
  cases y with
  | non=>cases ry; exact PySem.EqNone.ne_int_none (z1b I q (by simp))
  | int j=>obtain⟨t',rfl⟩:=ry; exact ne_int (z1b I q (congrArg not zdg))
  | str j=>obtain⟨t',rfl⟩:=ry; exact PySem.EqMixed.ne_int_str (z1b I q (by simp))
  | _=>exact absurd (show false=true from hs) Bool.false_ne_true
 | str i=>
  obtain⟨t,rfl⟩:=rx
  cases y with
  | non=>cases ry; exact PySem.EqNone.ne_str_none (z1b I q (by simp))
  | bl j=>cases ry; exact PySem.EqMixed.ne_str_bool (z1b I q (by simp))
  | int j=>obtain⟨t',rfl⟩:=ry; exact PySem.EqMixed.ne_str_int (z1b I q (by simp))
  | str j=>obtain⟨t',rfl⟩:=ry; exact ne_str (z1b I q (congrArg not zdf))
  | _=>exact absurd (show false=true from hs) Bool.false_ne_true
 | byt i=>
  obtain⟨t,rfl⟩:=rx
  cases y with
  | byt j=>obtain⟨t',rfl⟩:=ry; exact PySem.W.ne_bytes (z1b I q (congrArg not zdh))
  | _=>exact absurd (show false=true from hs) Bool.false_ne_true
 | _=>cases y <;> exact absurd (show false=true from hs) Bool.false_ne_true
theorem zjt:OpR X (compareOp .Lt) (rI0 fun i j =>.bl (decide (i < j))):=opB0 fun _ _ _ _ _ _ _ q=>lt_int q
theorem zju:OpR X (compareOp .LtE) (rI0 fun i j =>.bl (decide (i<=j))):=opB0 fun _ _ _ _ _ _ _ q=>le_int q
theorem zjv:OpR X (compareOp .Gt) (rI0 fun i j =>.bl (decide (j < i))):=opB0 fun _ _ _ _ _ _ _ q=>gt_int q
theorem zjw:OpR X (compareOp .GtE) (rI0 fun i j =>.bl (decide (j<=i))):=opB0 fun _ _ _ _ _ _ _ q=>ge_int q
theorem zhN:OpR X (compareOp .Is) (fun x y H Q=>y = .non/\Q (.bl (decide (x = .non))) H):=by
 intro pins s σ H x y v u Q I rx ry h
 obtain⟨rfl,q⟩:=h
 cases ry
 refine is_none_gen (z1b I q ?_)
 cases x <;> first
  | (cases rx; rfl)
  | (obtain⟨t,rfl⟩:=rx; rfl)
theorem zg0:OpR X (compareOp .IsNot) (fun x y H Q=>y = .non/\Q (.bl (!decide (x = .non))) H):=by
 intro pins s σ H x y v u Q I rx ry h
 obtain⟨rfl,q⟩:=h
 cases ry
 refine isnot_none_gen (z1b I q ?_)
 cases x <;> first
  | (cases rx; rfl)
  | (obtain⟨t,rfl⟩:=rx; rfl)
theorem z0H (b:Expr){op:CmpOp}(h:op ≠ .In:=by decide)(h2:op ≠ .NotIn:=by decide):behindInMarks op b=false:=by
 have e1:(op == CmpOp.In)=false:=by cases op <;> first | rfl | exact absurd rfl h
 have e2:(op == CmpOp.NotIn)=false:=by cases op <;> first | rfl | exact absurd rfl h2
 cases b <;> simp[behindInMarks,e1,e2]
theorem zfX {op:CmpOp}{r:R2}(ho:OpR X (compareOp op) r)(ha:PE X a ta)(hb:PE X b tb)(hm:behindInMarks op b=false):PE X (.Compare a [op] [b] pos) (tOp r ta tb):=by
 intro pins s σ H Q I h
 exact wpAny_Compare1 (binT ha hb I h fun v u s2 x y H2 I2 rx ry q=>ho pins s2 σ H2 x y v u Q I2 rx ry q) hm
noncomputable def zfm (t:TE):TT:=fun σ H Q=>t σ H fun x H'=>∃ k,x = .bl k/\Q k H'
theorem zfQ {op:CmpOp}{r:R2}(ho:OpR X (compareOp op) r)(ha:PE X a ta)(hb:PE X b tb)(hm:behindInMarks op b=false):PT X (.Compare a [op] [b] pos) (zfm (tOp r ta tb)):=by
 intro pins s σ H Q I h
 refine wpAny_isTrue_Compare1 (thn (ha pins s σ H _ I h) fun v s1 ⟨x,H1,I1,r1,q1⟩=>thn (hb pins s1 σ H1 _ I1 q1) fun u s2 ⟨y,H2,I2,r2,q2⟩=>
  thn (ho pins s2 σ H2 x y v u _ I2 r1 r2 q2) fun c s3 ⟨z,H3,I3,r3,k,e,q3⟩ => ?_) hm
 subst e
 cases r3
 exact wpAny_truthy_bool ⟨H3,I3,q3⟩
theorem z9f:(sizeLine:Nat) < 2 ^ 63:=by rw[sizeLine_eq]; decide
theorem zbJ:OpR X (binaryOp .Add) (fun x y H Q=>∃ i j,x = .str i/\y = .str j/\i.length+j.length<=sizeLine/\Q (.str (i++j)) H):=by
 intro pins s σ H x y v u Q I rx ry h
 obtain⟨i,j,rfl,rfl,hz,q⟩:=h
 obtain⟨t,rfl⟩:=rx
 obtain⟨t',rfl⟩:=ry
 exact add_str (fun t' tk=>⟨.str (i++j),H,I.tok _,⟨_,rfl⟩,q⟩) hz
theorem z9n {x:V}{us:List Value}(r:Vals [x] us):∃ u,us=[u]/\RelV x u:=by
 cases r with
 | cons r1 r2=>cases r2; exact⟨_,rfl,r1⟩
theorem zfh {x y:V}{us:List Value}(r:Vals [x,y] us):∃ u w',us=[u,w']/\RelV x u/\RelV y w':=by
 cases r with
 | cons r1 r2=>
  cases r2 with
  | cons r3 r4=>cases r4; exact⟨_,_,rfl,r1,r3⟩
theorem zeK:z2w X (.builtin "abs") (fun xs H Q=>∃ i,xs=[.int i]/\Q (.int (if i < 0 then -i else i)) H):=by
 intro pins s σ H xs us Q I r h
 obtain⟨i,rfl,q⟩:=h
 obtain⟨u,rfl,t,rfl⟩:=z9n r
 exact call_abs_int fun u tk=>⟨.int (if i < 0 then -i else i),H,I.tok _,⟨_,rfl⟩,q⟩
theorem zdr (hc:X.calm=true):z2w X (.builtin "min") (fun xs H Q=>∃ i j,xs=[.int i,.int j]/\Q (.int (if j < i then j else i)) H):=by
 intro pins s σ H xs us Q I r h
 obtain⟨i,j,rfl,q⟩:=h
 obtain⟨u,w',rfl,⟨t,rfl⟩,⟨t',rfl⟩⟩:=zfh r
 refine min_two_ints (I.ok.hd hc) fun h' tk k=>⟨_,H,I.kept k,?_,q⟩
 by_cases hj:j < i
 ·rw[if_pos hj,if_pos hj]; exact⟨_,rfl⟩
 ·rw[if_neg hj,if_neg hj]; exact⟨_,rfl⟩
end
end L2
namespace L2
open PySem PySem.Spec PyProof.Rows
structure ObjM (h:Heap)(x dx C:Addr)(mA:Str->Option Value):Prop where
 obj:h.get? x=some (PySem.W.instObj C dx)
 ns:h.Ns1 dx mA
 ne:dx≠x
theorem zcZ {h:Heap}{dx:Addr}{mA:Str->Option Value}(n:h.Ns1 dx mA):∃ od,h.get? dx=some od/\∀ name,PySem.W.lookIn name od=some (mA name):=by
 obtain⟨o,es,ep,ho,hd,hk,_,hm⟩:=n
 refine⟨o,ho,fun name => ?_⟩
 have e:=hm name
 unfold nsFind findBy at e
 rw[<- Array.find?_toList] at e
 unfold PySem.W.lookIn
 rw[hd]
 dsimp only
 split
 ·rename_i y q
  rw[q] at e
  exact congrArg some e
 ·rename_i q
  rw[q] at e
  have a:es.toList.any (·.refKey)=false:=by
   rw[List.any_eq_false]
   intro y hy
   obtain⟨z,t,hkey⟩:=hk y (Array.mem_toList_iff.mp hy)
   simp[DictEntry.refKey,hkey]
  have a':¬ es.toList.any (·.refKey)=true:=by rw[a]; exact Bool.false_ne_true
  rw[if_neg a']
  exact congrArg some e
theorem ObjM.look {h:Heap}{x dx C:Addr}{mA:Str->Option Value}(I:ObjM h x dx C mA):∃ od,PySem.W.InstAt h x (PySem.W.instObj C dx) C (some od)/\∀ name,PySem.W.lookIn name od=some (mA name):=
 let ⟨od,ho,hl⟩:=zcZ I.ns
 ⟨od,⟨I.obj,rfl,rfl,ho⟩,hl⟩
section
variable {P:Program}{w:World}{H H':Hp}{h h':Heap}{a C dx:Addr}{fs fs':List (Str × V)}
theorem zgi (hok:HOk P w H h)(e:H a=some (.ins C dx fs)):∃ mA,ObjM h a dx C mA/\(∀ f,RelO (fs.lookup f) (mA f))/\PySem.Within mA (fs.map (·.1))/\fs.length<=1000/\H dx=some (.own a):=by
 obtain⟨d,z,ne,ob,mA,n,r,q⟩:=(show z2S P w H h a (.ins C dx fs) from hok a _ e)
 exact⟨mA,⟨ob,n,ne⟩,r,q,z,d⟩
end
structure Cls (K:W.Frag)(C:Addr):Prop where
 pg:PySem.W.plainGet K C Str.empty=true
 hd:PySem.W.hasDictIn K C=true
 po:PySem.W.plainOver K C=true
 sa:PySem.W.findIn K (.ref C) "__setattr__"=some (some (.builtin "object.__setattr__"))
theorem Cls.get {K:W.Frag}{C:Addr}(c:Cls K C)(f:Str):PySem.W.plainGet K C f=true:=c.pg
section
variable {X:Cx}{pins:List (Addr × Obj)}{σ:St}{H:Hp}{s:Shared}{A:Around}{E:Value->Shared->Prop}{Q:Value->Shared->Prop}{c:Value}{b:Bool}
inductive TyOf (K:W.Frag) (H:Hp):V->Value->Prop where
 | non:TyOf K H .non (.type "NoneType")
 | bl (x:Bool):TyOf K H (.bl x) (.type "bool")
 | int (i:Int):TyOf K H (.int i) (.type "int")
 | str (x:Str):TyOf K H (.str x) (.type "str")
 | flt (x:UInt64):TyOf K H (.flt x) (.type "float")
 | lst {a:Addr}{xs:List V}(e:H a=some (.lst xs)):TyOf K H (.ref a) (.type "list")
 | frz {a:Addr}{o:Obj}{xs:List V}(e:H a=some (.frz o (.lst xs))):TyOf K H (.ref a) (.type "list")
 | tup {a:Addr}{xs:List V}(e:H a=some (.tup xs)):TyOf K H (.ref a) (.type "tuple")
 | dK {a:Addr}{kvs:List (Key × V)}(e:H a=some (.dK kvs)):TyOf K H (.ref a) (.type "dict")
 | dT {a:Addr}{kvs:List (List Key × V)}(e:H a=some (.dT kvs)):TyOf K H (.ref a) (.type "dict")
 | ins {a C dx:Addr}{fs:List (Str × V)}(e:H a=some (.ins C dx fs)) (cl:Cls K C) (ha:PySem.W.findIn K (.ref C) "__class__"=some (some (.builtin "object.__class__")))
   (hn:PySem.W.specialIn K (.builtin "object.__class__") "__get__"=some (some (.builtin "getset_descriptor.__get__"))) (htk:PySem.W.takesIn K (.builtin "object.__class__")=some true)
   (hm:PySem.W.mroIn K C (.type "object")=some true):TyOf K H (.ref a) (.ref C)
theorem z6P {x:V}{u t:Value}(I:Inv X pins σ H s)(rx:RelV x u)(ty:TyOf X.K H x t)(e:PySem.W.kitOne X.K t c=some b)(h:∀ tk,Q (.bool b) { s with toks:=tk }):
  wpAny (model X.prog X.w) A (call (.builtin "isinstance") [u,c]) Q E s:=by
 cases ty with
 | non=>cases (show u=Value.none from rx); exact PySem.W.kia_one PySem.W.kitx_none I.kIn True.intro e (fun z=>nomatch z) h
 | bl y=>cases (show u=Value.bool y from rx); exact PySem.W.kia_one PySem.W.kitx_bool I.kIn True.intro e (fun z=>nomatch z) h
 | int i=>obtain⟨t,q⟩:=(show ∃ t,u=Value.int i t from rx); cases q; exact PySem.W.kia_one PySem.W.kitx_int I.kIn True.intro e (fun z=>nomatch z) h
 | str y=>obtain⟨t,q⟩:=(show ∃ t,u=Value.str y t from rx); cases q; exact PySem.W.kia_one PySem.W.kitx_str I.kIn True.intro e (fun z=>nomatch z) h
 | flt y=>obtain⟨t,q⟩:=(show ∃ t,u=Value.float y t from rx); cases q; exact PySem.W.kia_one PySem.W.kitx_float I.kIn True.intro e (fun z=>nomatch z) h
 | @lst a xs ea=>
  cases (show u=Value.ref a from rx)
  obtain⟨_,_,n,_,h1⟩:=(show z2S X.prog X.w H s.heap a (.lst xs) from I.hok a _ ea)
  exact PySem.W.kia_one PySem.W.kitx_list I.kIn ⟨_,h1,rfl⟩ e (fun z=>nomatch z) h
 | @frz a ob xs ea=>
  cases (show u=Value.ref a from rx)
  obtain⟨_,_,_,n,_,h1⟩:=(show z2S X.prog X.w H s.heap a (.frz ob (.lst xs)) from I.hok a _ ea)
  exact PySem.W.kia_one PySem.W.kitx_list I.kIn ⟨_,h1,rfl⟩ e (fun z=>nomatch z) h
 | @tup a xs ea=>
  cases (show u=Value.ref a from rx)
  obtain⟨_,_,_,p⟩:=(show z2S X.prog X.w H s.heap a (.tup xs) from I.hok a _ ea)
  obtain⟨o,h1,h2,_⟩:=p
  exact PySem.W.kia_one PySem.W.kitx_tuple I.kIn ⟨o,h1,h2⟩ e (fun z=>nomatch z) h
 | @dK a kvs ea=>
  cases (show u=Value.ref a from rx)
  obtain⟨_,_,vs,_,p⟩:=(show z2S X.prog X.w H s.heap a (.dK kvs) from I.hok a _ ea)
  obtain⟨o,es,ep,h1,h2,_⟩:=p
  exact PySem.W.kia_one PySem.W.kitx_dict I.kIn ⟨o,h1,h2.1⟩ e (fun z=>nomatch z) h
 | @dT a kvs ea=>
  cases (show u=Value.ref a from rx)
  obtain⟨_,_,xs,_,o,es,ep,h1,h2,_⟩:=(show z2S X.prog X.w H s.heap a (.dT kvs) from I.hok a _ ea)
  exact PySem.W.kia_one PySem.W.kitx_dict I.kIn ⟨o,h1,h2.1⟩ e (fun z=>nomatch z) h
 | @ins a C dx fs ea cl ha hn htk hm=>
  cases (show u=Value.ref a from rx)
  obtain⟨mA,O,_⟩:=zgi I.hok ea
  obtain⟨od,J,_⟩:=O.look
  exact PySem.W.kia_one (PySem.W.kitx_own (cl.get _) cl.hd ha hn htk hm) I.kIn J e (fun z=>nomatch z) h
end
end L2
namespace L2
open PySem PySem.Spec PyProof.Rows
structure Room (k:Nat)(A:Around):Prop where
 hd:A.handled=none
 dp:A.depth+3*k+5 < recursionLimit
 un:A.units+16*k+200 < cLine
theorem Room.mono {j k:Nat}{A:Around}(r:Room k A)(h:j<=k):Room j A:=⟨r.hd,by have:=r.dp; omega,by have:=r.un; omega⟩
theorem Room.deeper {k:Nat}{A:Around}(r:Room (k+1) A)(env:Env):Room k (A.deeper env):=
 ⟨r.hd,by have:=r.dp; show A.depth+1+3*k+5 < _; omega,by have:=r.un; show A.units+3+16*k+200 < _; omega⟩
theorem Room.depth {k:Nat}{A:Around}(r:Room k A):A.depth < recursionLimit:=by have:=r.dp; omega
theorem Room.units {k:Nat}{A:Around}(r:Room k A):A.units+64 < cLine:=by have:=r.un; omega
noncomputable def tNil:TA:=fun _ H Q=>Q [] H
noncomputable def zgK (ta:TE)(tr:TA):TA:=fun σ H Q=>ta σ H fun x H1=>tr σ H1 fun xs H2=>Q (x::xs) H2
section
variable {X:Cx}{e:Expr}{es:List Expr}{te:TE}{t:TA}{pos:Pos}
theorem zf3:PA X [] tNil:=fun _ _ _ _ H Q I h=>Calls.spliced_nil ⟨[],H,I,.nil,h⟩
theorem zcI (ha:PE X e te)(hr:PA X es t)(hs:starEach (e::es) X.env=(false,eval e X.env)::starEach es X.env:=by rfl):PA X (e::es) (zgK te t):=by
 intro pos pins s σ H Q I h
 rw[hs]
 show wpAny _ _ (spliced ((false,eval e X.env)::backTo pos (starEach es X.env))) _ _ s
 refine Calls.spliced_cons (thn (ha pins s σ H _ I h) fun u s1 ⟨x,H1,I1,r1,q1⟩ => ?_)
 exact thn (hr pos pins s1 σ H1 _ I1 q1) fun us s2 ⟨xs,H2,I2,r2,q2⟩=>⟨x::xs,H2,I2,.cons r1 r2,q2⟩
noncomputable def tTup (t:TA):TE:=fun σ H Q=>t σ H fun xs H1=>xs.length<=sizeLine/\∀ p,H1 p=none->Q (.ref p) (upd H1 p (.tup xs))
noncomputable def tLst (t:TA):TE:=fun σ H Q=>t σ H fun xs H1=>xs.length<=sizeLine/\∀ p,H1 p=none->Q (.ref p) (upd H1 p (.lst xs))
theorem zhw {x1}(h:PA X es t):PE X (.Tuple es x1 pos) (tTup t):=by
 intro pins s σ H Q I hq
 refine wpAny_Tuple_spliced (thn (h pos pins s σ H _ I hq) fun us s1 ⟨xs,H1,I1,r,z,q⟩=>⟨by rw[<- r.length]; exact z,?_⟩)
 have hf:H1 s1.heap.objs.size=none:=I1.hok.fresh (Nat.le_refl _)
 refine⟨.ref s1.heap.objs.size,upd H1 s1.heap.objs.size (.tup xs),I1.laid (t':=s1.toks) (fun b u e=>Heap.get?_push_of_some _ e) (Nat.le_refl _) ?_,rfl,q _ hf⟩
 exact⟨z,us,r,⟨_,Heap.get?_push_size _ rfl,rfl,_,rfl⟩⟩
theorem zhB (h:PA X es t):PE X (.List es pos) (tLst t):=by
 intro pins s σ H Q I hq
 refine wpAny_List_spliced (thn (h pos pins s σ H _ I hq) fun us s1 ⟨xs,H1,I1,r,z,q⟩=>⟨by rw[<- r.length]; exact z,?_⟩)
 have hf:H1 s1.heap.objs.size=none:=I1.hok.fresh (Nat.le_refl _)
 refine⟨.ref s1.heap.objs.size,upd H1 s1.heap.objs.size (.lst xs),I1.laid (t':=s1.toks) (fun b u e=>Heap.get?_push_of_some _ e) (Nat.le_refl _) ?_,rfl,q _ hf⟩
 exact⟨z,us,0,r,Heap.get?_push_size _ rfl⟩
end
noncomputable abbrev Sp:=List V->Hp->VK->XK->Prop
noncomputable abbrev CXT:=List Env->Hp->Shared->XK->Value->Shared->Prop
structure Env0 (P:Program)(w:World)(K:W.Frag)(mg:Str->Option Value)(base:Heap)(A:Around)(outer:List Env)(s:Shared)(H:Hp):Prop where
 frames:A.frames=some outer
 mod:Mod K mg base
 bs:∀ b o,base.get? b=some o->s.heap.get? b=some o/\H b=none
 bsz:base.objs.size<=s.heap.objs.size
 funs:s.heap.FunFrames base outer
 frf:∀ b∈frs outer,H b=none
 hok:HOk P w H s.heap
 bare:AllBare s.gens
noncomputable def CE (outer:List Env)(P:Program)(w:World)(H:Hp)(s:Shared)(Q:VK)(u:Value)(s':Shared):Prop:=
 ∃ v H',s'.os=s.os/\AllBare s'.gens/\Un (frs outer) [] H H' s.heap s'.heap/\HOk P w H' s'.heap/\RelV v u/\Q v H'
noncomputable def CR (CX:CXT)(outer:List Env)(P:Program)(w:World)(H:Hp)(s:Shared)(Q:VK)(E:XK)(r:Result)(s':Shared):Prop:=
 match r with
 | .ok (.ret u)=>CE outer P w H s Q u s'
 | .ok _=>False
 | .error e=>CX outer H s E e s'
structure FnOk (P:Program)(w:World)(K:W.Frag)(mg:Str->Option Value)(base:Heap)(CX:CXT)(k:Nat)(f:Addr)(fd:FuncData)(ps:List Str)(sp:Sp):Prop where
 len:∀ vs H Q E,sp vs H Q E->vs.length=ps.length
 run:∀ (A:Around) (outer:List Env) (s:Shared) (H:Hp) (args:Args) (us:List Value) (vs:List V) (Q:VK) (E:XK),Room k A->Env0 P w K mg base A outer s H->BindsTo s fd args (ps.zip us)->Vals vs us->sp vs H Q E->
  codeAny (model P w) A (.call (.ref f) args) (CR CX outer P w H s Q E) s
theorem FnOk.imp {P:Program}{w:World}{K:W.Frag}{mg:Str->Option Value}{base:Heap}{CX:CXT}{k:Nat}{f:Addr}{fd:FuncData}{ps:List Str}{sp sp':Sp}(F:FnOk P w K mg base CX k f fd ps sp)
  (h:∀ vs H Q E,sp' vs H Q E->sp vs H Q E):FnOk P w K mg base CX k f fd ps sp':=
 ⟨fun vs H Q E q=>F.len vs H Q E (h _ _ _ _ q),fun A outer s H args us vs Q E hr he hb hv hs=>F.run A outer s H args us vs Q E hr he hb hv (h _ _ _ _ hs)⟩
section
variable {X:Cx}{pins:List (Addr × Obj)}{σ:St}{H:Hp}{s s':Shared}
theorem Inv.env0 (I:Inv X pins σ H s):Env0 X.prog X.w X.K X.mg X.base X.A X.stack s H:=
 ⟨I.ok.frames,I.ok.mod,I.bs,Nat.le_trans I.ok.bsz I.sz,I.stack,I.stkFree,I.hok,I.bare⟩
theorem Inv.after {Q:VK}{u:Value}(I:Inv X pins σ H s)(h:CE X.stack X.prog X.w H s Q u s'):EP X pins σ Q u s':=by
 obtain⟨v,H',os,bare,un,hok,r,q⟩:=h
 obtain⟨hh,g,d,t,os'⟩:=s'
 obtain rfl:os'=s.os:=os
 exact⟨v,H',I.call (h':=hh) (g':=g) (d':=d) (t':=t) (ch:=[]) un hok bare (fun b z=>absurd z (by simp)),r,q⟩
end
noncomputable def zfn (sp:Sp)(dvs:List V)(E:XK)(t:TA):TE:=fun σ H Q=>t σ H fun vs H1=>sp (vs++dvs) H1 Q E
noncomputable def zc1 (K:W.Frag)(fd:FuncData)(ps:List Str)(ds:List Value):Prop:=
 ∀ (s:Shared) (us:List Value),K.In s.heap->(us++ds).length=ps.length->BindsTo s fd ⟨us,[]⟩ (ps.zip (us++ds))
theorem zc1.all {K:W.Frag}{fd:FuncData}{ps:List Str}(h:∀ us:List Value,us.length=ps.length->bindArgs fd ⟨us,[]⟩=pure (ps.zip us)):zc1 K fd ps []:=fun s us _ hl=>by
 rw[List.append_nil] at hl ⊢
 exact .of_eq (h us hl)
noncomputable def z8I (CX:CXT)(X:Cx)(E:XK):Prop:=∀ (pins:List (Addr × Obj)) (σ:St) (H:Hp) (s:Shared) (e:Value) (s':Shared),Inv X pins σ H s->CX X.stack H s E e s'->X.xe e s'
section
variable {X:Cx}{CX:CXT}{k:Nat}{f C:Addr}{fd:FuncData}{ps:List Str}{sp:Sp}{dvs:List V}{ds:List Value}{E:XK}{x m:Str}{p pos apos:Pos}{e o:Expr}{es:List Expr}{ta:TE}{t:TA}
theorem zh2 {pins:List (Addr × Obj)}{σ:St}{H:Hp}{s:Shared}{Q:VK}{us:List Value}{vs:List V}(F:FnOk X.prog X.w X.K X.mg X.base CX k f fd ps sp)(hr:Room k X.A)(hb:zc1 X.K fd ps ds)(hd:Vals dvs ds)(hx:z8I CX X E)
  (I:Inv X pins σ H s) (r:Vals vs us) (h:sp (vs++dvs) H Q E):wpAny (model X.prog X.w) X.A (call (.ref f) us) (EP X pins σ Q) X.xe s:=by
 have r2:Vals (vs++dvs) (us++ds):=r.append hd
 have hl:(us++ds).length=ps.length:=by rw[<- r2.length]; exact F.len _ _ _ _ h
 refine wpAny_call (codeAny_mono (F.run X.A X.stack s H ⟨us,[]⟩ (us++ds) (vs++dvs) Q E hr I.env0 (hb s us I.kIn hl) r2 h) fun r s' hq => ?_)
 cases r with
 | error e=>exact hx pins σ H s e s' I hq
 | ok fl=>
  cases fl with
  | ret u=>exact I.after hq
  | next=>exact False.elim hq
  | brk=>exact False.elim hq
  | cont=>exact False.elim hq
theorem zfY (F:FnOk X.prog X.w X.K X.mg X.base CX k f fd ps sp)(hr:Room k X.A)(hg:Gl X x)(hm:X.mg x=some (.ref f))(hk:PySem.W.keepIn X.K (.ref f)=true)(hb:zc1 X.K fd ps ds)(hd:Vals dvs ds)(hx:z8I CX X E)
  (ha:PA X (e::es) t) (hdb:(x == ("__debug__":Str))=false:=by decide) (he:starEach (e::es) X.env=(false,eval e X.env)::starEach es X.env:=by rfl) (hpl:(backTo pos (starEach es X.env)).any (·.1)=false:=by rfl):
  PE X (.Call (.Name x p) (e::es) [] pos) (zfn sp dvs E t):=by
 intro pins s σ H Q I h
 refine wpAny_Call_Name_kw (z8c I hg hm ?_ hdb)
 refine PySem.W.callWith_K (h₀:=X.base) I.ok.mod.kin hk (thn (ha pos pins s σ H _ I h) fun us s1 ⟨vs,H1,I1,r,q⟩=>⟨I1.kIn,?_⟩) he hpl
 exact zh2 F hr hb hd hx I1 r q
end
structure z0z (N P:List Str)(sc:Scope):Prop where
 kind:sc.kind = .function
 co:sc.isCoroutine=false
 gen:sc.isGenerator=false
 nd:N.Nodup
 pre:N.take P.length=P
 par:∀ x∈P,sc.names.lookup x=some .local\/sc.names.lookup x=some .cell
 nofree:∀ y∈sc.names,y.2 ≠ .free
theorem zaB {kindOf:Str->Option NameKind}{x:Str}:∀ {binds:List (Str × Value)}{m:Str->Option Value},(∀ v,(x,v) ∉ binds)->bindL kindOf binds m x=m x
 | [],_,_=>rfl
 | (n,v)::r,m,h=>by
  unfold bindL
  rw[zaB fun w hw=>h w (List.mem_cons_of_mem _ hw)]
  split
  ·have:x≠n:=by rintro rfl; exact h v List.mem_cons_self
   simp[this]
  ·rfl
theorem zaD {kindOf:Str->Option NameKind}{x:Str}:∀ {binds:List (Str × Value)}{m:Str->Option Value},(∀ v,(x,v) ∉ binds)->bindC kindOf binds m x=m x
 | [],_,_=>rfl
 | (n,v)::r,m,h=>by
  unfold bindC
  rw[zaD fun w hw=>h w (List.mem_cons_of_mem _ hw)]
  split
  ·rfl
  ·have:x≠n:=by rintro rfl; exact h v List.mem_cons_self
   simp[this]
theorem zaC {kindOf:Str->Option NameKind}{x:Str}{v:Value}:∀ {P:List Str}{vs:List Value}{i:Nat}{m:Str->Option Value},P.Nodup->P[i]? = some x->vs[i]? = some v->kindOf x=some .local->
  bindL kindOf (P.zip vs) m x=some v
 | [],_,_,_,_,h,_,_=>by simp at h
 | _::_,[],_,_,_,_,h,_=>by simp at h
 | p::P,w::vs,0,m,nd,h1,h2,hk=>by
  simp at h1 h2; subst h1; subst h2
  show bindL kindOf ((p,w)::P.zip vs) m p=_
  unfold bindL
  rw[zaB fun v hv=>(List.nodup_cons.mp nd).1 (List.of_mem_zip hv).1,if_pos hk]
  simp
 | p::P,w::vs,i+1,m,nd,h1,h2,hk=>by
  show bindL kindOf ((p,w)::P.zip vs) m x=_
  unfold bindL
  exact zaC (i:=i) (List.nodup_cons.mp nd).2 (by simpa using h1) (by simpa using h2) hk
theorem zaE {kindOf:Str->Option NameKind}{x:Str}{v:Value}:∀ {P:List Str}{vs:List Value}{i:Nat}{m:Str->Option Value},P.Nodup->P[i]? = some x->vs[i]? = some v->kindOf x≠some .local->
  bindC kindOf (P.zip vs) m x=some v
 | [],_,_,_,_,h,_,_=>by simp at h
 | _::_,[],_,_,_,_,h,_=>by simp at h
 | p::P,w::vs,0,m,nd,h1,h2,hk=>by
  simp at h1 h2; subst h1; subst h2
  show bindC kindOf ((p,w)::P.zip vs) m p=_
  unfold bindC
  rw[zaD fun v hv=>(List.nodup_cons.mp nd).1 (List.of_mem_zip hv).1,if_neg hk]
  simp
 | p::P,w::vs,i+1,m,nd,h1,h2,hk=>by
  show bindC kindOf ((p,w)::P.zip vs) m x=_
  unfold bindC
  exact zaE (i:=i) (List.nodup_cons.mp nd).2 (by simpa using h1) (by simpa using h2) hk
noncomputable def z7J (N:List Str)(vs:List V):St:=vs.map some++List.replicate (N.length - vs.length) none
noncomputable def cxOf (CX:CXT)(P:Program)(w:World)(K:W.Frag)(mg:Str->Option Value)(base:Heap)(N:List Str)(qual:Str)(scope:Scope)(f:Addr)(cd:Value)(A:Around)(outer:List Env)(s:Shared)(H:Hp)(E:XK):Cx where
 prog:=P
 w:=w
 K:=K
 mg:=mg
 base:=base
 A:=A.deeper (envOfC qual scope s.heap.objs.size f cd)
 N:=N
 s₀:=s
 H₀:=H
 env:=envOfC qual scope s.heap.objs.size f cd
 outer:=outer
 stack:=envOfC qual scope s.heap.objs.size f cd::outer
 ex:=[]
 calm:=true
 fn:=fun _=>true
 pn:=[]
 xe:=fun e s'=>wpAny (model P w) (A.deeper (envOfC qual scope s.heap.objs.size f cd)) (leaving (envOfC qual scope s.heap.objs.size f cd) e) (fun _ s''=>CX outer H s E e s'') (fun e' s''=>CX outer H s E e' s'') s'
theorem zbw {sc:Scope}{n:Nat}{x:Str}(h:sc.names.lookup x=some .cell):∃ c,(cellsFrom n sc.names []).lookup x=some c:=by
 have q:=PySem.W.cellsFrom_some sc.names n [] (.inl h)
 exact Option.isSome_iff_exists.mp q
theorem zd4 {CX:CXT}{P:Program}{w:World}{K:W.Frag}{mg:Str->Option Value}{base:Heap}{N ps:List Str}{qual:Str}{scope:Scope}{f:Addr}{cd:Value}{A:Around}{outer:List Env}{s s1:Shared}{H:Hp}{E:XK}{us:List Value}{vs:List V}
  (S:z0z N ps scope) (hd:A.handled=none) (e0:Env0 P w K mg base A outer s H) (hl:vs.length=ps.length) (r:Vals vs us)
  (x:InCallC s s.heap.objs.size (bindL (envOfC qual scope s.heap.objs.size f cd).kindOf (ps.zip us) fun _=>none) (cellsFrom (s.heap.objs.size+1) scope.names []) (bindC (envOfC qual scope s.heap.objs.size f cd).kindOf (ps.zip us) fun _=>none) s1):
  Inv (cxOf CX P w K mg base N qual scope f cd A outer s H E) [] (z7J N vs) H s1:=by
 have hpl:ps.length<=N.length:=by have:=congrArg List.length S.pre; rw[List.length_take] at this; omega
 obtain⟨h1,tk,rfl,hk⟩:=x.done
 have noA:∀ b:Addr,b ∉ (cxOf CX P w K mg base N qual scope f cd A outer s H E).ex:=fun b z=>absurd (show b∈([]:List Addr) from z) (by simp)
 refine⟨⟨e0.mod,S.kind,rfl,rfl,Nat.le_refl _,fun y z c h1 h2 => ?_,fun y hy => ?_,fun y c _ h => ?_,fun _=>hd,Around.frames_deeper e0.frames,.inr ⟨rfl,rfl⟩,fun b z=>absurd z (noA b),e0.bs,e0.bsz,fun b _ _=>noA b,fun b z=>absurd z (noA b),e0.funs,e0.frf⟩,
  rfl,e0.bare,Un.kept hk,⟨_,x.toInCall.ns,fun i y v h1 h2 h3 => ?_⟩,fun y c h=>⟨_,x.cell y c h⟩,e0.hok.fresh (Nat.le_refl _),fun y c h => ?_,fun p hp=>absurd (show p∈([]:List (Addr × Obj)) from hp) (by simp),e0.hok.kept hk,?_⟩
 ·exact name_of_addr x.apart (PySem.mem_of_lookup h1) (PySem.mem_of_lookup h2)
 ·have hy:scope.names.lookup y=some .cell\/scope.names.lookup y=some .free:=hy
  rcases hy with hy | hy
  ·exact zbw hy
  ·exact absurd rfl (S.nofree _ (PySem.mem_of_lookup hy))
 ·exact Nat.le_of_lt (x.above y c (PySem.mem_of_lookup h))
 ·have hi:i < vs.length:=by
   unfold z7J at h2
   by_cases hi:i < vs.length
   ·exact hi
   ·rw[List.getElem?_append_right (by simpa using hi)] at h2
    rw[List.getElem?_replicate] at h2
    split at h2 <;> cases h2
  have ha:vs[i]? = some v:=by
   unfold z7J at h2
   rw[List.getElem?_append_left (by simpa using hi),List.getElem?_map] at h2
   cases e:vs[i]? with
   | none=>rw[e] at h2; cases h2
   | some a=>rw[e] at h2; cases h2; rfl
  obtain⟨u,hu,rv⟩:=r.get ha
  have hp:ps[i]? = some y:=by
   rw[<- S.pre,List.getElem?_take_of_lt (by omega)]; exact h1
  have ndP:ps.Nodup:=by rw[<- S.pre]; exact S.nd.sublist (List.take_sublist _ _)
  refine⟨u,rv,?_⟩
  rcases S.par y (List.mem_of_getElem? hp) with k | k
  ·exact .inl ⟨k,zaC ndP hp hu k⟩
  ·obtain⟨c,e⟩:=zbw (n:=s.heap.objs.size+1) k
   refine .inr ⟨.inl k,c,e,?_⟩
   have q:=x.cell y c e
   rw[zaE ndP hp hu (by show scope.names.lookup y≠_; rw[k]; decide)] at q
   exact q
 ·exact e0.hok.fresh (Nat.le_of_lt (x.above y c (PySem.mem_of_lookup h)))
 ·unfold z7J
  show _=N.length
  rw[List.length_append,List.length_map,List.length_replicate]
  omega
theorem ziu {CX:CXT}{P:Program}{w:World}{K:W.Frag}{mg:Str->Option Value}{base:Heap}{k:Nat}{f:Addr}{name qual:Str}{params:Arguments}{body:List Stmt}{scope:Scope}{dV kV doc pm cdv ct oc:Value}{an od:Option Addr}
  {osl:Array (Option Value)}{N ps:List Str}{sp:Sp}(lk:K.lookup f=some ⟨oc,od,.func (PySem.W.fnOf name qual params body scope dV kV doc pm an cdv ct),osl⟩) (hcd:PySem.W.codeIn K cdv qual=true) (S:z0z N ps scope)
  (len:∀ vs H Q E,sp vs H Q E->vs.length=ps.length)
  (hbody:∀ (A:Around) (outer:List Env) (s:Shared) (H:Hp) (vs:List V) (Q:VK) (E:XK),Room k (A.deeper (envOfC qual scope s.heap.objs.size f cdv))->sp vs H Q E->
   ∃ t,PSs (cxOf CX P w K mg base N qual scope f cdv A outer s H E) body t/\t { nx:=fun _ H'=>Q .non H',rt:=Q } (z7J N vs) H):
  FnOk P w K mg base CX (k+1) f (PySem.W.fnOf name qual params body scope dV kV doc pm an cdv ct) ps sp:=by
 refine⟨len,fun A outer s H args us vs Q E hr e0 hb r hsp => ?_⟩
 have hl:=len _ _ _ _ hsp
 have KX:K.In s.heap:=e0.mod.kin.keeps fun b o e=>(e0.bs b o e).1
 have lim:s.heap.NoLimit:=e0.mod.nolimit.keeps fun b o e=>(e0.bs b o e).1
 have hkind:∀ y∈ps.zip us,scope.names.lookup y.1=some .local\/(scope.names.lookup y.1=some .cell/\((cellsFrom (s.heap.objs.size+1) scope.names []).lookup y.1).isSome=true):=fun⟨n,v⟩ hy=>by
  rcases S.par n (List.of_mem_zip hy).1 with q | q
  ·exact .inl q
  ·exact .inr ⟨q,PySem.W.cellsFrom_some _ _ _ (.inl q)⟩
 refine codeAny_call_function hr.depth (KX _ _ lk) rfl S.co S.gen rfl (PySem.W.codeRec_of KX hcd) (hb _ _ _ _ ?_)
 refine wpAny_newFunctionEnv_cells S.kind hkind fun env he s1 x => ?_
 subst he
 refine⟨lim.keeps x.toInCall.keep,codeAny_func ?_⟩
 obtain⟨t,ht,hq⟩:=hbody A outer s H vs Q E (hr.deeper _) hsp
 have I:Inv (cxOf CX P w K mg base N qual scope f cdv A outer s H E) [] (z7J N vs) H s1:=zd4 S hr.hd e0 hl r x
 refine wpAny_mono (ht [] s1 (z7J N vs) H _ I hq) (fun fl s' hs => ?_) fun e s' hs=>hs
 have fin:∀ {σ':St}{H':Hp}{v:V}{u:Value},Inv (cxOf CX P w K mg base N qual scope f cdv A outer s H E) [] σ' H' s'->RelV v u->Q v H'->CE outer P w H s Q u s':=
  fun {σ' H' v u} J rv q=>⟨v,H',J.os,J.bare,J.base,J.hok,rv,q⟩
 cases fl with
 | ret u=>
  obtain⟨v,σ',H',J,rv,q⟩:=hs
  exact fin J rv q
 | next=>
  obtain⟨σ',H',J,q⟩:=hs
  exact fin (v:=V.non) (u:=Value.none) J rfl q
 | brk=>
  obtain⟨_,_,_,q⟩:=hs
  exact False.elim q
 | cont=>
  obtain⟨_,_,_,q⟩:=hs
  exact False.elim q
end L2
namespace L2
open PySem PySem.Spec PyProof.Rows
section
variable {X:Cx}{x:Str}{p pos:Pos}{e:Expr}{es:List Expr}{t:TA}{id T:String}{r:List V->Hp->VK->Prop}
noncomputable def tCB (r:List V->Hp->VK->Prop)(t:TA):TE:=fun σ H Q=>t σ H fun vs H1=>r vs H1 Q
theorem ze2 (hc:z2w X (.builtin id) r)(hg:Gl X x)(hm:X.mg x=none)(hv:bootBuiltins x=some (.builtin id))(ha:PA X (e::es) t)(hn:x≠"__name__":=by decide)(hdb:(x == ("__debug__":Str))=false:=by decide)
  (he:starEach (e::es) X.env=(false,eval e X.env)::starEach es X.env:=by rfl) (hpl:(backTo pos (starEach es X.env)).any (·.1)=false:=by rfl):PE X (.Call (.Name x p) (e::es) [] pos) (tCB r t):=by
 intro pins s σ H Q I h
 refine wpAny_Call_Name_kw (zam I hg hm hv ?_ hn hdb)
 exact PyProof.Rows.callWith_builtin1 (thn (ha pos pins s σ H _ I h) fun us s1 ⟨vs,H1,I1,r1,q1⟩=>hc pins s1 σ H1 vs us Q I1 r1 q1) he hpl
theorem zcG (hc:z2w X (.type T) r)(hg:Gl X x)(hm:X.mg x=none)(hv:bootBuiltins x=some (.type T))(ha:PA X (e::es) t)(hn:x≠"__name__":=by decide)(hdb:(x == ("__debug__":Str))=false:=by decide)
  (he:starEach (e::es) X.env=(false,eval e X.env)::starEach es X.env:=by rfl) (hpl:(backTo pos (starEach es X.env)).any (·.1)=false:=by rfl):PE X (.Call (.Name x p) (e::es) [] pos) (tCB r t):=by
 intro pins s σ H Q I h
 refine wpAny_Call_Name_kw (zam I hg hm hv ?_ hn hdb)
 exact PyProof.Rows.callWith_type1 (thn (ha pos pins s σ H _ I h) fun us s1 ⟨vs,H1,I1,r1,q1⟩=>hc pins s1 σ H1 vs us Q I1 r1 q1) he hpl
end
end L2
namespace HT
open PySem PyProof.Rows
noncomputable def z2e:List Int->List Int->Bool
 | [],[]=>false
 | [],_::_=>true
 | _::_,[]=>false
 | x::xs,y::ys=>if x=y then z2e xs ys else decide (x < y)
theorem z7r (x y:Int)(xs ys:List Int):z2e (x::xs) (y::ys)=if x=y then z2e xs ys else decide (x < y):=rfl
theorem z4T:z2e [] []=false:=rfl
theorem z4j (y:Int)(ys:List Int):z2e [] (y::ys)=true:=rfl
theorem z4k (x:Int)(xs:List Int):z2e (x::xs) []=false:=rfl
theorem z9R (A:Around)(s:Shared)(a:Int)(t:Tok)(c:Int)(u:Tok):∃ e,SeqAt.EqAt A s (.int a t) (.int c u) e/\(e=true↔a=c):=
 ⟨(a == c),SeqAt.EqAt.int_int a t c u,by simp⟩
theorem zdP (A:Around)(s:Shared)(a:Int)(t:Tok)(c:Int)(u:Tok)(prog:Program)(w:World)(E:Value->Shared->Prop)(Q:Value->Shared->Prop)(h:Q (.bool (decide (a < c))) s):
  wpAny (model prog w) A (richCompare .Lt (.int a t) (.int c u)) Q E s:=
 (PyProof.Rows.lt_int h:wpAny (model prog w) A (compareOp .Lt (.int a t) (.int c u)) Q E s)
section
open PySem.SeqAt
open PySem.AutoSeq1 (wpAny_loadPart')
open PySem.MeetsSeq PySem.MeetsSeq2 PySem.MeetsSeq3
theorem z9o (l b:Addr)(z07 items2:Array Value)(n n2:Nat)(dd dd2:Option Addr)(sl sl2:Array (Option Value))(ns ms:List Int)(hi:IntsAre z07.toList ns)(hj:IntsAre items2.toList ms):
  Meets (Builtin.«tuple.__lt__» ⟨[.ref l,.ref b],[]⟩)
   (fun _ R s=>s.heap.get? l=some { cls :=.type "tuple",dict:=dd,data :=.seq z07 n,slots:=sl }/\s.heap.get? b=some { cls :=.type "tuple",dict:=dd2,data :=.seq items2 n2,slots:=sl2 }/\
    R (.ok (.ret (.bool (z2e ns ms)))) s):=
 .of_wp fun prog w A R s h=>by
  obtain⟨hp,g,d,tk,os⟩:=s; obtain⟨hl,hb,h⟩:=h
  have f2:=AutoSeq1.sub_tuple_tuple
  have z1:z07.size=ns.length:=by rw[<- hi.length]; simp
  have z2:items2.size=ms.length:=by rw[<- hj.length]; simp
  wp_walk using wpAny_loadPart' hl,wpAny_loadPart' hb,wpAny_forIn_list _ (fun rest b s'=>b.1=none/\s'=⟨hp,g,d,tk,os⟩/\∃ (vs ws:List Value) (ns' ms':List Int),rest=vs.zip ws/\
   IntsAre vs ns'/\IntsAre ws ms'/\ns'.length+items2.size=ms'.length+z07.size/\R (.ok (.ret (.bool (z2e ns' ms')))) ⟨hp,g,d,tk,os⟩) _
  case turn=>
   rintro⟨y,x⟩ rest b s' ⟨hb',rfl,vs,ws,ns',ms',hz,hvi,hwi,hlen,hR⟩
   cases hvi with
   | nil=>rw[List.zip_nil_left] at hz; cases hz
   | cons a t hvi'=>
    cases hwi with
    | nil=>rw[List.zip_nil_right] at hz; cases hz
    | cons c u hwi'=>
     rw[List.zip_cons_cons] at hz
     injection hz with hyx hrest
     injection hyx with hy hx
     subst hy hx
     rw[z7r] at hR
     simp only[List.length_cons] at hlen
     obtain⟨e,he,hiff⟩:=z9R A.in1 ⟨hp,g,d,tk,os⟩ a t c u
     refine wpAny_bind (he prog w _ _ ?_)
     cases e with
     | true=>
      rw[if_pos (hiff.mp rfl)] at hR
      wp_walk
      exact⟨rfl,rfl,_,_,_,_,hrest,hvi',hwi',by omega,hR⟩
     | false=>
      rw[if_neg (fun q=>absurd (hiff.mpr q) Bool.false_ne_true)] at hR
      have hri:=zdP A.in1 ⟨hp,g,d,tk,os⟩ a t c u prog w
      wp_walk using hri
      exact⟨_,rfl,by simpa using hR⟩
  case fin=>
   rintro⟨b1,b2⟩ s' ⟨hb',rfl,vs,ws,ns',ms',hz,hvi,hwi,hlen,hR⟩
   simp only at hb'
   subst hb'
   have hv:z2e ns' ms'=decide (z07.size < items2.size):=by
    cases hvi with
    | nil=>
     cases hwi with
     | nil=>
      simp only[List.length_nil] at hlen
      rw[z4T]
      exact(decide_eq_false (by omega)).symm
     | cons c u hw=>
      simp only[List.length_nil,List.length_cons] at hlen
      rw[z4j]
      exact(decide_eq_true (by omega)).symm
    | cons a t hv=>
     cases hwi with
     | nil=>
      simp only[List.length_nil,List.length_cons] at hlen
      rw[z4k]
      exact(decide_eq_false (by omega)).symm
     | cons c u hw=>
      rw[List.zip_cons_cons] at hz
      cases hz
   rw[hv] at hR
   wp_walk
   exact⟨_,rfl,by simpa[Builtin.Tuple.tupleCompareSizes] using hR⟩
  case h=>
   exact⟨rfl,rfl,z07.toList,items2.toList,ns,ms,rfl,hi,hj,by omega,h⟩
end
section
variable {prog:Program}{w:World}{A:Around}{E:Value->Shared->Prop}{s:Shared}
theorem zbQ {l b:Addr}{z07 items2:Array Value}{ns ms:List Int}{Q:Value->Shared->Prop}(hl:IsTup s.heap l z07)(hb:IsTup s.heap b items2)(hi:IntsAre z07.toList ns)(hj:IntsAre items2.toList ms)
  (hu:A.units < cLine) (h:Q (.bool (z2e ns ms)) s):wpAny (model prog w) A (compareOp .Lt (.ref l) (.ref b)) Q E s:=by
 obtain⟨⟨cls,dd,data,sl⟩,ho,hc,n,hd⟩:=id hl
 obtain⟨⟨cls2,dd2,data2,sl2⟩,ho2,hc2,n2,hd2⟩:=id hb
 simp only at hc hd hc2 hd2
 subst hc hd hc2 hd2
 exact richCompare_meets_room (op :=.Lt) ⟨_,ho,rfl⟩ ⟨_,ho2,rfl⟩ PySem.F.slot_tuple_lt PySem.F.entry_tuple_lt (PySem.F.args_tuple_lt_2 _ _) (z9o l b z07 items2 n n2 dd dd2 sl sl2 ns ms hi hj)
  ⟨ho,ho2,show Value.bool (z2e ns ms)≠Value.notImplemented/\Q (.bool (z2e ns ms)) s from ⟨(fun x=>nomatch x),h⟩⟩ hu
theorem zgn {t b:Addr}{vs ws:List Value}{Q:Value->Shared->Prop}(ht:IsTup s.heap t vs.toArray)(hb:IsTup s.heap b ws.toArray)(hv:vs≠[])
  (h1:ws=[]->Q (.ref t) s) (h2:ws≠[]->Q (.ref s.heap.objs.size) { s with heap:=s.heap.push { cls :=.type "tuple",data :=.seq (vs++ws).toArray } })
  (hsz:vs.length+ws.length<=sizeLine):wpAny (model prog w) A (binaryOp .Add (.ref t) (.ref b)) Q E s:=by
 obtain⟨⟨cls,dd,data,sl⟩,ho,hc,n,hd⟩:=id ht
 obtain⟨⟨cls2,dd2,data2,sl2⟩,ho2,hc2,n2,hd2⟩:=id hb
 simp only at hc hd hc2 hd2
 subst hc hd hc2 hd2
 have e:vs.toArray++ws.toArray=(vs++ws).toArray:=by simp
 by_cases hw:ws=[]
 ·exact concat_meets ⟨_,ho,rfl⟩ ⟨_,ho2,rfl⟩ noFill_tuple_add seq_tuple_add PySem.F.slot_tuple_add PySem.F.entry_tuple_add (PySem.F.args_tuple_add_2 _ _)
   (tuple_addW1 t b vs.toArray ws.toArray n n2 dd dd2 sl sl2 (by simpa using hv) (by simp[hw])) ⟨ho,ho2,h1 hw⟩
 ·refine concat_meets ⟨_,ho,rfl⟩ ⟨_,ho2,rfl⟩ noFill_tuple_add seq_tuple_add PySem.F.slot_tuple_add PySem.F.entry_tuple_add (PySem.F.args_tuple_add_2 _ _)
   (tuple_addW2 t b vs.toArray ws.toArray n n2 dd dd2 sl sl2 (by simpa using hv) (by simpa using hw) (by rw[List.size_toArray,List.size_toArray]; exact hsz)) ⟨ho,ho2,?_⟩
  rw[e]
  exact h2 hw
noncomputable def sIx (n d:Nat):Option Int->Nat
 | none=>d
 | some v=>if v < 0 then (v+(n:Int)).toNat else min v.toNat n
theorem zh1 (n d:Nat)(hd:d<=n)(o:Option Int):sIx n d o<=n:=by
 cases o with
 | none=>exact hd
 | some v=>
  show (if v < 0 then (v+(n:Int)).toNat else min v.toNat n)<=n
  by_cases hv:v < 0
  ·rw[if_pos hv]; omega
  ·rw[if_neg hv]; exact Nat.min_le_right _ _
theorem zdm (v:Int)(n d:Nat):(if v < 0 then max (v+(n:Int)) 0 else min v (n:Int))=((sIx n d (some v):Nat):Int):=by
 show (if v < 0 then max (v+(n:Int)) 0 else min v (n:Int))=(((if v < 0 then (v+(n:Int)).toNat else min v.toNat n):Nat):Int)
 by_cases hv:v < 0
 ·simp only[if_pos hv]; omega
 ·simp only[if_neg hv]; omega
theorem zc0 (lo hi:Option Int)(n:Nat):Builtin.Slice.sliceAdjust lo hi 1 (n:Int)=(((sIx n 0 lo:Nat):Int),((sIx n n hi:Nat):Int)):=by
 have h1:¬ ((1:Int) < 0):=by omega
 unfold Builtin.Slice.sliceAdjust
 simp only[h1,if_false]
 refine Prod.ext ?_ ?_
 ·cases lo with
  | none=>rfl
  | some v=>exact zdm v n 0
 ·cases hi with
  | none=>rfl
  | some v=>exact zdm v n n
theorem zbH (i j:Nat):Builtin.Slice.slicePlaces (i:Int) (j:Int) 1=j - i:=by
 unfold Builtin.Slice.slicePlaces
 have h1:(1:Int) > 0:=by omega
 simp only[h1,if_true,Int.ediv_one]
 split <;> omega
theorem z97 {v:Value}{o:Option Int}{Q:Option Int->Shared->Prop}(p:IsPart v o)(h:Q o s):wpAny (model prog w) A (Builtin.Slice.slicePartIndex v) Q E s:=by
 cases p with
 | none=>exact slicePart_none h
 | int i t=>exact slicePart_int h
theorem z5j {sl:Addr}{vl vu:Value}{lo hi:Option Int}{n:Nat}{Q:Int × Int × Nat->Shared->Prop}(hs:s.heap.IsSliceOf sl vl vu .none)(pl:IsPart vl lo)(pu:IsPart vu hi)
  (h:Q (((sIx n 0 lo:Nat):Int),1,sIx n n hi - sIx n 0 lo) s):wpAny (model prog w) A (Builtin.Slice.sliceApplied (.ref sl) (pure (n:Int))) Q E s:=by
 obtain⟨os,hos,hcs,hds⟩:=id hs
 unfold Builtin.Slice.sliceApplied Builtin.Slice.sliceFields
 refine wpAny_bind (wpAny_bind (wpAny_field hos hds (x:=vl) rfl (wpAny_bind (wpAny_field hos hds (x:=vu) rfl (wpAny_bind (wpAny_field hos hds (x :=.none) rfl (wpAny_pure ?_)))))))
 refine wpAny_bind (slicePart_none ?_)
 show wpAny _ _ (if ((1:Int) == 0)=true then _ else _) _ _ s
 rw[if_neg (by decide)]
 refine wpAny_bind (z97 pl (wpAny_bind (z97 pu (wpAny_bind (wpAny_pure ?_)))))
 show wpAny _ _ (match Builtin.Slice.sliceAdjust lo hi 1 (n:Int) with | (lo,hi)=>pure (lo,(1:Int),Builtin.Slice.slicePlaces lo hi 1)) _ _ s
 rw[zc0 lo hi n]
 show wpAny _ _ (pure (((sIx n 0 lo:Nat):Int),(1:Int),Builtin.Slice.slicePlaces ((sIx n 0 lo:Nat):Int) ((sIx n n hi:Nat):Int) 1)) _ _ s
 rw[zbH]
 exact wpAny_pure h
theorem zdZ (xs:Array Value)(i k:Nat):((List.range k).filterMap fun(m:Nat)=>xs[((i:Int)+(m:Int)*1).toNat]?).toArray=((xs.toList.drop i).take k).toArray:=by
 have e:(fun(m:Nat)=>xs[((i:Int)+(m:Int)*1).toNat]?)=fun m=>xs[i+m]? := by
  funext m
  have:((i:Int)+(m:Int)*1).toNat=i+m:=by omega
  rw[this]
 rw[e]
 have:=pick_run xs i k
 rw[List.filterMap_map] at this
 have e2:((fun x=>xs[x]?) ∘ fun x=>i+x)=fun m=>xs[i+m]? := rfl
 rw[e2] at this
 rw[this]
theorem z7s {t sl:Addr}{z07:Array Value}{vl vu:Value}{lo hi:Option Int}{Q:Value->Shared->Prop}(ht:IsTup s.heap t z07)(hs:s.heap.IsSliceOf sl vl vu .none)(pl:IsPart vl lo)(pu:IsPart vu hi)
  (hw:¬ (sIx z07.size 0 lo=0/\sIx z07.size z07.size hi=z07.size))
  (h:Q (.ref s.heap.objs.size) { s with heap:=s.heap.push { cls :=.type "tuple",data :=.seq ((z07.toList.drop (sIx z07.size 0 lo)).take (sIx z07.size z07.size hi - sIx z07.size 0 lo)).toArray } })
  (hsz:z07.size<=sizeLine):wpAny (model prog w) A (getItem (.ref t) (.ref sl)) Q E s:=by
 have htake:sizeOk (.seq ((z07.toList.drop (sIx z07.size 0 lo)).take (sIx z07.size z07.size hi - sIx z07.size 0 lo)).toArray):=by
  show ((z07.toList.drop (sIx z07.size 0 lo)).take (sIx z07.size z07.size hi - sIx z07.size 0 lo)).toArray.size<=sizeLine
  rw[List.size_toArray,List.length_take,List.length_drop,Array.length_toList]
  omega
 have hj:sIx z07.size z07.size hi<=z07.size:=zh1 _ _ (Nat.le_refl _) hi
 obtain⟨os,hos,hcs,hds⟩:=id hs
 have hTs:s.TypeIs (.ref sl) "slice":=⟨os,hos,hcs⟩
 unfold getItem
 try with_reducible refine wpAny_holding ?_
 first | refine wpAny_bind (wpAny_pure ?_) | skip
 refine wpAny_bind (wpAny_sequenceKey ht.typeIs (by decide) ?_)
 refine wpAny_bind (wpAny_callSpecial?_slot (name:=Str.ofString "__getitem__") ht.typeIs PyProof.Rows.slot_tuple_getitem
  (wpAny_call_entry PyProof.Rows.slot_tuple_getitem ht.typeIs entry_tuple_getitem ?_ (args_tuple_getitem _ _)))
 show wpAny _ _ (Builtin.Tuple.tupleItemsOf (.ref t) >>= _) _ _ s
 refine wpAny_bind (tupleItemsOf_ ht ?_)
 refine wpAny_bind (wpAny_typeOf hTs ?_)
 rw[if_pos (by decide)]
 refine wpAny_bind (z5j hs pl pu ?_)
 have hno:¬ ((((sIx z07.size 0 lo:Nat):Int) == 0 && (1:Int) == 1 && (sIx z07.size z07.size hi - sIx z07.size 0 lo) == z07.size)=true):=by
  intro q
  rw[Bool.and_eq_true,Bool.and_eq_true] at q
  have q1:((sIx z07.size 0 lo:Nat):Int)=0:=eq_of_beq q.1.1
  have q2:sIx z07.size z07.size hi - sIx z07.size 0 lo=z07.size:=eq_of_beq q.2
  exact hw ⟨by omega,by omega⟩
 show wpAny _ _ (if (((sIx z07.size 0 lo:Nat):Int) == 0 && (1:Int) == 1 && (sIx z07.size z07.size hi - sIx z07.size 0 lo) == z07.size)=true then _ else _) _ _ s
 rw[if_neg hno,zdZ]
 first
  | exact wpAny_bind (m:=Builtin.Tuple.tupleExact _) (wpAny_newObj_type (wpAny_pure ⟨_,rfl,wpAny_pure h⟩) htake)
  | exact wpAny_bind (m:=Builtin.Tuple.tupleExact _) (wpAny_newObj_type (wpAny_bind (wpAny_pure (wpAny_pure ⟨_,rfl,wpAny_pure h⟩))) htake)
  | exact wpAny_bind (wpAny_bind (m:=Builtin.Tuple.tupleExact _) (wpAny_newObj_type (wpAny_pure (wpAny_pure ⟨_,rfl,wpAny_pure h⟩)) htake))
  | exact wpAny_bind (wpAny_bind (m:=Builtin.Tuple.tupleExact _) (wpAny_newObj_type (wpAny_pure ⟨_,rfl,wpAny_pure h⟩) htake))
end
end HT
namespace L2
open PySem PySem.Spec PyProof.Rows
noncomputable abbrev TO:=St->Hp->(Option Int->Hp->Prop)->Prop
noncomputable def PO (X:Cx)(e:Option Expr)(t:TO):Prop:=
 ∀ (pins:List (Addr × Obj)) (s:Shared) (σ:St) (H:Hp) (Q:Option Int->Hp->Prop),Inv X pins σ H s->t σ H Q->
  wpAny (model X.prog X.w) X.A (evalPart e X.env) (fun u s'=>∃ o H',Inv X pins σ H' s'/\IsPart u o/\Q o H') X.xe s
noncomputable def zcb:TO:=fun _ H Q=>Q none H
noncomputable def zgG (t:TE):TO:=fun σ H Q=>t σ H fun x H1=>∃ i,x = .int i/\Q (some i) H1
theorem z3D {ns:List Int}:∀ {us:List Value},Vals (ns.map V.int) us->IntsAre us ns:=by
 induction ns with
 | nil=>intro us r; rw[List.map_nil] at r; cases r; exact .nil
 | cons n ns ih=>
  intro us r
  rw[List.map_cons] at r
  cases r with
  | cons r1 r2=>
   obtain⟨t,e⟩:=r1
   subst e
   exact .cons n t (ih r2)
section
variable {X:Cx}{e:Expr}{te:TE}{lo hi:Option Expr}{tl th:TO}{pos p2:Pos}
theorem zfT:PO X none zcb:=by
 intro pins s σ H Q I h
 rw[evalPart_none]
 exact wpAny_pure ⟨none,H,I,.none,h⟩
theorem zfS (h:PE X e te):PO X (some e) (zgG te):=by
 intro pins s σ H Q I hw
 rw[evalPart_some]
 refine thn (h pins s σ H _ I hw) fun u s1 ⟨x,H1,I1,r1,q1⟩ => ?_
 obtain⟨i,rfl,q⟩:=q1
 obtain⟨t,rfl⟩:=r1
 exact⟨some i,H1,I1,.int i t,q⟩
noncomputable def SlR (X:Cx)(r:V->Option Int->Option Int->Hp->VK->Prop):Prop:=
 ∀ (pins:List (Addr × Obj)) (s:Shared) (σ:St) (H:Hp) (x:V) (v vl vu:Value) (lo hi:Option Int) (sl:Addr) (Q:VK),Inv X pins σ H s->RelV x v->s.heap.IsSliceOf sl vl vu .none->IsPart vl lo->IsPart vu hi->r x lo hi H Q->
  ∃ T id,typeLookup (.type T) "__getitem__"=pure (some (.builtin id))/\s.TypeIs v T/\wpAny (model X.prog X.w) X.A (getItem v (.ref sl)) (EP X pins σ Q) X.xe s
theorem SlR.or {r r':V->Option Int->Option Int->Hp->VK->Prop}(h:SlR X r)(h':SlR X r'):SlR X (fun x lo hi H Q=>r x lo hi H Q\/r' x lo hi H Q):=by
 intro pins s σ H x v vl vu lo hi sl Q I rx hs pl pu q
 rcases q with q | q
 ·exact h pins s σ H x v vl vu lo hi sl Q I rx hs pl pu q
 ·exact h' pins s σ H x v vl vu lo hi sl Q I rx hs pl pu q
noncomputable def tSl (r:V->Option Int->Option Int->Hp->VK->Prop)(te:TE)(tl th:TO):TE:=fun σ H Q=>te σ H fun x H1=>tl σ H1 fun l H2=>th σ H2 fun u H3=>r x l u H3 Q
theorem ze1 {r:V->Option Int->Option Int->Hp->VK->Prop}(hr:SlR X r)(he:PE X e te)(hl:PO X lo tl)(hu:PO X hi th):PE X (.Subscript e (.Slice lo hi none p2) pos) (tSl r te tl th):=by
 intro pins s σ H Q I h
 refine Subscript_ (thn (he pins s σ H _ I h) fun v s1 ⟨x,H1,I1,r1,q1⟩ => ?_)
 refine wpAny_Slice (thn (hl pins s1 σ H1 _ I1 q1) fun vl s2 ⟨l,H2,I2,pl,q2⟩=>thn (hu pins s2 σ H2 _ I2 q2) fun vu s3 ⟨u,H3,I3,pu,q3⟩ => ?_)
 rw[evalPart_none]
 refine wpAny_pure ?_
 have I4:Inv X pins σ H3 { s3 with heap:=s3.heap.push { cls :=.type "slice",data :=.fields #[vl,vu,.none] } }:=I3.kept (t':=s3.toks) fun b ob q=>Heap.get?_push_of_some _ q
 obtain⟨T,id,hT,ht,hg⟩:=hr pins { s3 with heap:=s3.heap.push { cls :=.type "slice",data :=.fields #[vl,vu,.none] } } σ H3 x v vl vu l u s3.heap.objs.size Q I4 r1 (Heap.IsSliceOf.new ..) pl pu q3
 show wpAny (model X.prog X.w) X.A (subscriptTail e (.Slice lo hi none p2) v (.ref s3.heap.objs.size)) (EP X pins σ Q) X.xe { s3 with heap:=s3.heap.push { cls :=.type "slice",data :=.fields #[vl,vu,.none] } }
 exact tail_any (ops:=[.ref s3.heap.objs.size,v]) ht hT hg (by with_unfolding_all rfl)
noncomputable def cutV (xs:List V)(lo hi:Option Int):List V:=(xs.drop (HT.sIx xs.length 0 lo)).take (HT.sIx xs.length xs.length hi - HT.sIx xs.length 0 lo)
theorem z8F (xs:List V)(lo hi:Option Int):(cutV xs lo hi).length<=xs.length:=by
 unfold cutV
 rw[List.length_take,List.length_drop]
 omega
noncomputable def rSlT (K:W.Frag):V->Option Int->Option Int->Hp->VK->Prop:=fun x lo hi H Q=>∃ a xs,x = .ref a/\SqT K H a xs/\
 ¬ (HT.sIx xs.length 0 lo=0/\HT.sIx xs.length xs.length hi=xs.length)/\∀ p,H p=none->Q (.ref p) (upd H p (.tup (cutV xs lo hi)))
theorem zgM:SlR X (rSlT X.K):=by
 intro pins s σ H x v vl vu lo hi sl Q I rx hs pl pu h
 obtain⟨a,xs,rfl,hx,hw,q⟩:=h
 cases rx
 obtain⟨its,r,ht,hz⟩:=I.tuple hx
 have hlen:its.toArray.size=xs.length:=by rw[List.size_toArray]; exact r.length.symm
 refine⟨"tuple",_,PyProof.Rows.slot_tuple_getitem.lookup,ht.typeIs,?_⟩
 refine HT.z7s ht hs pl pu (by rw[hlen]; exact hw) ?_ (by rw[hlen]; exact hz)
 rw[hlen]
 refine⟨.ref s.heap.objs.size,_,I.laid (t':=s.toks) (o :=.tup (cutV xs lo hi)) (fun b ob q=>Heap.get?_push_of_some _ q) (Nat.le_refl _) ?_,rfl,q _ (I.hok.fresh (Nat.le_refl _))⟩
 exact⟨Nat.le_trans (z8F xs lo hi) hz,_,(r.drop (HT.sIx xs.length 0 lo)).take (HT.sIx xs.length xs.length hi - HT.sIx xs.length 0 lo),IsTup.new _ _⟩
noncomputable def rLtT (K:W.Frag):R2:=fun x y H Q=>∃ a b ns ms,x = .ref a/\y = .ref b/\SqT K H a (ns.map V.int)/\SqT K H b (ms.map V.int)/\Q (.bl (HT.z2e ns ms)) H
theorem zhL (hu:X.A.units < cLine):OpR X (compareOp .Lt) (rLtT X.K):=by
 intro pins s σ H x y v u Q I rx ry h
 obtain⟨a,b,ns,ms,rfl,rfl,ha,hb,q⟩:=h
 cases rx
 cases ry
 obtain⟨its,r1,p1,_⟩:=I.tuple ha
 obtain⟨its2,r2,p2,_⟩:=I.tuple hb
 have i1:IntsAre its.toArray.toList ns:=z3D r1
 have i2:IntsAre its2.toArray.toList ms:=z3D r2
 exact HT.zbQ p1 p2 i1 i2 hu ⟨.bl (HT.z2e ns ms),H,I,rfl,q⟩
noncomputable def zj8 (K:W.Frag):R2:=fun x y H Q=>∃ a b xs ys,x = .ref a/\y = .ref b/\SqT K H a xs/\SqT K H b ys/\xs≠[]/\xs.length+ys.length<=sizeLine/\
 (ys=[]->Q (.ref a) H)/\(ys≠[]->∀ p,H p=none->Q (.ref p) (upd H p (.tup (xs++ys))))
theorem Vals.nil_iff {xs:List V}{us:List Value}(r:Vals xs us):us=[]↔xs=[]:=by
 cases r with
 | nil=>simp
 | cons _ _=>simp
theorem zg3:OpR X (binaryOp .Add) (zj8 X.K):=by
 intro pins s σ H x y v u Q I rx ry h
 obtain⟨a,b,xs,ys,rfl,rfl,ha,hb,hx,hz,q1,q2⟩:=h
 cases rx
 cases ry
 obtain⟨its,r1,p1,_⟩:=I.tuple ha
 obtain⟨its2,r2,p2,_⟩:=I.tuple hb
 refine HT.zgn p1 p2 (fun z=>hx (r1.nil_iff.mp z)) (fun z=>⟨.ref a,H,I,rfl,q1 (r2.nil_iff.mp z)⟩) (fun z => ?_) (by rw[<- r1.length, <- r2.length]; exact hz)
 refine⟨.ref s.heap.objs.size,_,I.laid (t':=s.toks) (o :=.tup (xs++ys)) (fun b ob q=>Heap.get?_push_of_some _ q) (Nat.le_refl _) ?_,rfl,q2 (fun w=>z (r2.nil_iff.mpr w)) _ (I.hok.fresh (Nat.le_refl _))⟩
 exact⟨by rw[List.length_append]; exact hz,_,r1.append r2,IsTup.new _ _⟩
end
end L2
namespace L2
open PySem PySem.Spec PyProof.Rows
noncomputable def ixN (n:Nat)(i:Int):Option Nat:=if 0<=i then (if i < n then some i.toNat else none) else if -(n:Int)<=i then some (i+n).toNat else none
noncomputable def atI {α:Type}(xs:List α)(i:Int):Option α:=(ixN xs.length i).bind fun j=>xs[j]?
theorem zd1 {n:Nat}{i:Int}{j:Nat}(h:ixN n i=some j):seqIndex? i n=some j/\j < n /\ -(n:Int)<=i/\i < n:=by
 unfold ixN at h
 by_cases h0:0<=i
 ·rw[if_pos h0] at h
  by_cases h1:i < n
  ·rw[if_pos h1] at h
   have e:i.toNat=j:=Option.some.inj h
   exact⟨by rw[seqIndex_of h0 h1,e],by omega,by omega,h1⟩
  ·rw[if_neg h1] at h; cases h
 ·rw[if_neg h0] at h
  by_cases h1 : -(n:Int)<=i
  ·rw[if_pos h1] at h
   have e:(i+n).toNat=j:=Option.some.inj h
   exact⟨by rw[seqIndex_neg (by omega) h1,e],by omega,h1,by omega⟩
  ·rw[if_neg h1] at h; cases h
theorem zb2 {α:Type}{xs:List α}{i:Int}{v:α}(h:atI xs i=some v):∃ j,seqIndex? i xs.length=some j/\xs[j]? = some v/\j < xs.length /\ -(xs.length:Int)<=i/\i < xs.length:=by
 unfold atI at h
 cases e:ixN xs.length i with
 | none=>rw[e] at h; cases h
 | some j=>
  rw[e] at h
  obtain⟨h1,h2,h3,h4⟩:=zd1 e
  exact⟨j,h1,h,h2,h3,h4⟩
theorem zgq {α:Type}{xs:List α}{j:Nat}{v:α}(h:xs[j]? = some v):atI xs (j:Int)=some v:=by
 have hj:j < xs.length:=(List.getElem?_eq_some_iff.mp h).1
 have e:ixN xs.length (j:Int)=some j:=by
  unfold ixN
  rw[if_pos (by omega),if_pos (by omega)]; simp
 unfold atI; rw[e]; exact h
noncomputable def zb3 (b:Expr):Prop:=∀ o i,subscripted b false o i=operate [o,i] (getItem o i)
noncomputable def IxR (X:Cx)(r:R2):Prop:=
 ∀ (value slice:Expr) (pins:List (Addr × Obj)) (s:Shared) (σ:St) (H:Hp) (x y:V) (v u:Value) (Q:VK),Inv X pins σ H s->RelV x v->RelV y u->r x y H Q->
  subscripted slice false v u=operate [v,u] (getItem v u)->wpAny (model X.prog X.w) X.A (subscriptTail value slice v u) (EP X pins σ Q) X.xe s
noncomputable def MtR (X:Cx)(id:String)(r:V->List V->Hp->VK->Prop):Prop:=
 ∀ (pins:List (Addr × Obj)) (s:Shared) (σ:St) (H:Hp) (x:V) (xs:List V) (v:Value) (us:List Value) (Q:VK),Inv X pins σ H s->RelV x v->Vals xs us->r x xs H Q->
  wpAny (model X.prog X.w) X.A (call (.builtin id) (v::us)) (EP X pins σ Q) X.xe s
section
variable {X:Cx}{a b:Expr}{ta tb:TE}{pos:Pos}
theorem IxR.or {r r':R2}(h:IxR X r)(h':IxR X r'):IxR X (fun x y H Q=>r x y H Q\/r' x y H Q):=by
 intro value slice pins s σ H x y v u Q I rx ry q hs
 rcases q with q | q
 ·exact h value slice pins s σ H x y v u Q I rx ry q hs
 ·exact h' value slice pins s σ H x y v u Q I rx ry q hs
theorem zjn {r:R2}(hr:IxR X r)(ha:PE X a ta)(hb:PE X b tb)(hs:zb3 b):PE X (.Subscript a b pos) (tOp r ta tb):=by
 intro pins s σ H Q I h
 exact Subscript_ (binT ha hb I h fun v u s2 x y H2 I2 rx ry q=>hr a b pins s2 σ H2 x y v u Q I2 rx ry q (hs _ _))
noncomputable def rIxL (K:W.Frag):R2:=fun x y H Q=>∃ p xs i v,x = .ref p/\y = .int i/\SqL K H p xs/\atI xs i=some v/\Q v H
noncomputable def rIxT (K:W.Frag):R2:=fun x y H Q=>∃ p xs i v,x = .ref p/\y = .int i/\SqT K H p xs/\atI xs i=some v/\Q v H
noncomputable def rIxS:R2:=fun x y H Q=>∃ z i c,x = .str z/\y = .int i/\z.length<=sizeLine/\atI z.cps.toList i=some c/\Q (.str ⟨#[c]⟩) H
theorem zgh:IxR X (rIxL X.K):=by
 intro value slice pins s σ H x y v u Q I rx ry h hs
 obtain⟨p,xs,i,z,rfl,rfl,hq,he,q⟩:=h
 cases rx
 obtain⟨t,rfl⟩:=ry
 obtain⟨its,r,pl,hz⟩:=I.list hq
 obtain⟨j,h1,h2,h3,h4,h5⟩:=zb2 he
 obtain⟨w,ew,rw'⟩:=r.get h2
 have hl:=r.length
 have hn:=z9f
 have fin:EP X pins σ Q w s:=⟨z,H,I,rw',q⟩
 by_cases h0:0<=i
 ·have hj:i.toNat=j:=by
   rw[seqIndex_of h0 h5] at h1
   exact Option.some.inj h1
  exact item_listR pl.isList h0 (by omega) (by rw[hj]; simpa using ew) fin hs
 ·have hj:(i+(its.toArray.size:Int)).toNat=j:=by
   rw[seqIndex_neg (by omega) h4] at h1
   rw[List.size_toArray, <- hl]
   exact Option.some.inj h1
  exact subscriptTail_builtinR (x:=w) pl.isList.typeIs slot_list_getitem.lookup
   (wpAny_getItem_list_neg (Q:=fun r s'=>r=w/\EP X pins σ Q r s') pl.isList (by omega) (by rw[List.size_toArray] <;> omega) (by omega) (by rw[hj]; simpa using ew) ⟨rfl,fin⟩) hs
theorem zin:IxR X (rIxT X.K):=by
 intro value slice pins s σ H x y v u Q I rx ry h hs
 obtain⟨p,xs,i,z,rfl,rfl,hq,he,q⟩:=h
 cases rx
 obtain⟨t,rfl⟩:=ry
 obtain⟨its,r,pl,hz⟩:=I.tuple hq
 obtain⟨j,h1,h2,h3,h4,h5⟩:=zb2 he
 obtain⟨w,ew,rw'⟩:=r.get h2
 have hl:=r.length
 have hn:=z9f
 have fin:EP X pins σ Q w s:=⟨z,H,I,rw',q⟩
 exact subscriptTail_builtinR (x:=w) pl.typeIs slot_tuple_getitem.lookup
  (getItem_tuple (j:=j) (Q:=fun r s'=>r=w/\EP X pins σ Q r s') pl (by omega) (by omega) (by rw[List.size_toArray, <- hl]; exact h1) (by simpa using ew) ⟨rfl,fin⟩) hs
theorem zio:IxR X rIxS:=by
 intro value slice pins s σ H x y v u Q I rx ry h hs
 obtain⟨z,i,c,rfl,rfl,hz,he,q⟩:=h
 obtain⟨t,rfl⟩:=rx
 obtain⟨t',rfl⟩:=ry
 obtain⟨j,h1,h2,h3,h4,h5⟩:=zb2 he
 have hl:z.cps.toList.length=z.length:=by simp[Str.length]
 rw[hl] at h1 h4 h5
 have hn:=z9f
 exact tail_any (typeIs_str s z t) slot_str_getitem.lookup (getItem_str (c:=c) (by
  have e1:decide (i < -(2 ^ 63:Int))=false:=decide_eq_false (by omega)
  have e2:decide (i>=2 ^ 63)=false:=decide_eq_false (by omega)
  rw[e1,e2,Bool.or_false]) (by rw[h1]; simpa using h2) ⟨.str ⟨#[c]⟩,H,I.tok _,⟨_,rfl⟩,q⟩) hs
noncomputable def rIx (K:W.Frag):R2:=fun x y H Q=>rIxL K x y H Q\/rIxT K x y H Q\/rIxS x y H Q
theorem ziq:IxR X (rIx X.K):=zgh.or (zin.or zio)
theorem zbP (its:List Value)(n j:Nat)(u:Value):Obj.mapSeq (·.setIfInBounds j u) { cls :=.type "list",data :=.seq its.toArray n }={ cls :=.type "list",data :=.seq (its.set j u).toArray n }:=by
 simp[Obj.mapSeq]
theorem Inv.lst {pins:List (Addr × Obj)}{σ:St}{H:Hp}{s:Shared}{p:Addr}{xs:List V}(I:Inv X pins σ H s)(h:H p=some (.lst xs)):
  ∃ (its:List Value) (n:Nat),Vals xs its/\s.heap.get? p=some { cls :=.type "list",data :=.seq its.toArray n }/\xs.length<=sizeLine:=by
 obtain⟨z,its,n,r,e⟩:=I.hok p _ h
 exact⟨its,n,r,e,z⟩
theorem Inv.lstUpd {pins:List (Addr × Obj)}{σ:St}{H:Hp}{s:Shared}{p:Addr}{xs ys:List V}{its its':List Value}{n n':Nat}{f:Obj->Obj}(I:Inv X pins σ H s)(h:H p=some (.lst xs))
  (ho:s.heap.get? p=some { cls :=.type "list",data :=.seq its.toArray n }) (hf:f { cls :=.type "list",data :=.seq its.toArray n }={ cls :=.type "list",data :=.seq its'.toArray n' }) (r:Vals ys its') (hz:ys.length<=sizeLine) (t:Nat):
  Inv X pins σ (upd H p (.lst ys)) { s with heap:=s.heap.update p f,toks:=t }:=by
 have e:(s.heap.update p f).get? p=some { cls :=.type "list",data :=.seq its'.toArray n' }:=by
  rw[Heap.get?_update_self f ho (by rw[hf] <;> rfl),hf]
 refine I.write (x:=p) (e:=p) (by rw[h]; trivial) (.inl rfl) (fun b u hb q=>(Heap.get?_update_other _ _ (Ne.symm hb)).trans q) ⟨_,e⟩ ?_
 exact⟨hz,its',n',r,e⟩
noncomputable def zj4:V->V->V->Hp->(Hp->Prop)->Prop:=fun o i v H Q=>∃ p xs k j,o = .ref p/\i = .int k/\H p=some (.lst xs)/\ixN xs.length k=some j/\Q (upd H p (.lst (xs.set j v)))
theorem zdI:PSet X zj4:=by
 intro pins s σ H o i v ov iv u Q I ro ri rv h
 obtain⟨p,xs,k,j,rfl,rfl,hp,hj,q⟩:=h
 cases ro
 obtain⟨t,rfl⟩:=ri
 obtain⟨its,n,r,ho,hz⟩:=I.lst hp
 obtain⟨h1,h2,h3,h4⟩:=zd1 hj
 have hl:=r.length
 have hn:=z9f
 have I':Inv X pins σ (upd H p (.lst (xs.set j v))) { s with heap:=s.heap.update p (Obj.mapSeq (·.setIfInBounds j u)) }:=
  I.lstUpd hp ho (zbP its n j u) (r.set rv j) (by rw[List.length_set]; exact hz) s.toks
 by_cases h0:0<=k
 ·have hk:k.toNat=j:=by
   rw[seqIndex_of h0 h4] at h1
   exact Option.some.inj h1
  exact PySem.W.ki_setAt ho h0 (by omega) (by rw[List.size_toArray, <- hl]; exact h4) (by rw[hk]; exact⟨_,I',q⟩)
 ·have hk:(k+(its.toArray.size:Int)).toNat=j:=by
   rw[seqIndex_neg (by omega) h3] at h1
   rw[List.size_toArray, <- hl]
   exact Option.some.inj h1
  exact PySem.W.ki_setBack ho (by omega) (by rw[List.size_toArray, <- hl]; exact h3) (by omega) (by rw[hk]; exact⟨_,I',q⟩)
theorem za3 (lo hi:Option Int)(n:Nat):(sliceBounds lo hi none n).1=((HT.sIx n 0 lo:Nat):Int)/\(sliceBounds lo hi none n).2.1=((HT.sIx n n hi:Nat):Int)/\(sliceBounds lo hi none n).2.2=1:=by
 refine⟨?_,?_,rfl⟩
 ·cases lo with
  | none=>simp[sliceBounds,HT.sIx]
  | some i=>
   simp only[sliceBounds,HT.sIx,Option.getD_none,show (1:Int) > 0 by decide,if_true]
   by_cases h:i < 0
   ·simp only[h,if_true] <;> omega
   ·simp only[h,if_false] <;> omega
 ·cases hi with
  | none=>simp[sliceBounds,HT.sIx]
  | some i=>
   simp only[sliceBounds,HT.sIx,Option.getD_none,show (1:Int) > 0 by decide,if_true]
   by_cases h:i < 0
   ·simp only[h,if_true] <;> omega
   ·simp only[h,if_false] <;> omega
theorem z9t (its:List Value)(lo hi:Option Int):slicePick its.toArray lo hi none=((its.drop (HT.sIx its.length 0 lo)).take (HT.sIx its.length its.length hi - HT.sIx its.length 0 lo)).toArray:=by
 obtain⟨h1,h2,h3⟩:=za3 lo hi its.toArray.size
 unfold slicePick
 rw[h1,h2,h3]
 simp only[sliceRange_one,pick_run,List.size_toArray] <;> rfl
noncomputable def rSlL (K:W.Frag):V->Option Int->Option Int->Hp->VK->Prop:=fun x lo hi H Q=>∃ a xs,x = .ref a/\SqL K H a xs/\∀ p,H p=none->Q (.ref p) (upd H p (.lst (cutV xs lo hi)))
theorem zfo:SlR X (rSlL X.K):=by
 intro pins s σ H x v vl vu lo hi sl Q I rx hs pl pu h
 obtain⟨a,xs,rfl,hx,q⟩:=h
 cases rx
 obtain⟨its,r,ht,hz⟩:=I.list hx
 have hlen:=r.length
 refine⟨"list",_,slot_list_getitem.lookup,ht.isList.typeIs,?_⟩
 refine wpAny_getItem_list_slice ht.isList hs pl pu .none (by simp) ?_ (by rw[List.size_toArray] <;> omega)
 rw[z9t, <- hlen]
 refine⟨.ref s.heap.objs.size,_,I.laid (t':=s.toks) (o :=.lst (cutV xs lo hi)) (fun b ob q=>Heap.get?_push_of_some _ q) (Nat.le_refl _) ?_,rfl,q _ (I.hok.fresh (Nat.le_refl _))⟩
 exact⟨Nat.le_trans (z8F xs lo hi) hz,_,0,(r.drop (HT.sIx xs.length 0 lo)).take (HT.sIx xs.length xs.length hi - HT.sIx xs.length 0 lo),Heap.get?_push_size _ rfl⟩
theorem zaA:z2w X (.builtin "len") (fun xs H Q=>∃ p ys,xs=[.ref p]/\(SqL X.K H p ys\/SqT X.K H p ys)/\Q (.int ys.length) H):=by
 intro pins s σ H xs us Q I r h
 obtain⟨p,ys,rfl,hq,q⟩:=h
 obtain⟨u,rfl,rx⟩:=z9n r
 cases rx
 have hn:=z9f
 rcases hq with hq | hq
 ·obtain⟨its,r',pl,hz⟩:=I.list hq
  have hlen:=r'.length
  exact Calls.call_len_list pl.isList (by simp only[List.size_toArray] <;> omega) ⟨.int ys.length,H,I.tok _,⟨s.toks+1,by rw[List.size_toArray,hlen]⟩,q⟩
 ·obtain⟨its,r',pl,hz⟩:=I.tuple hq
  have hlen:=r'.length
  exact len_tuple pl (by simp only[List.size_toArray] <;> omega) ⟨.int ys.length,H,I.tok _,⟨s.toks+1,by rw[List.size_toArray,hlen]⟩,q⟩
theorem zaz:z2w X (.builtin "len") (fun xs H Q=>∃ z,xs=[.str z]/\z.length<=sizeLine/\Q (.int z.length) H):=by
 intro pins s σ H xs us Q I r h
 obtain⟨z,rfl,hz,q⟩:=h
 obtain⟨u,rfl,t,rfl⟩:=z9n r
 have hn:=z9f
 exact len_str (by omega) ⟨.int z.length,H,I.tok _,⟨_,rfl⟩,q⟩
theorem z2w.or {f:Value}{r r':List V->Hp->VK->Prop}(h:z2w X f r)(h':z2w X f r'):z2w X f (fun xs H Q=>r xs H Q\/r' xs H Q):=by
 intro pins s σ H xs us Q I rs q
 rcases q with q | q
 ·exact h pins s σ H xs us Q I rs q
 ·exact h' pins s σ H xs us Q I rs q
theorem z9W:z2w X (.type "tuple") (fun xs H Q=>∃ p ys,xs=[.ref p]/\((SqL X.K H p ys/\∀ l,H l=none->Q (.ref l) (upd H l (.tup ys)))\/(SqT X.K H p ys/\Q (.ref p) H))):=by
 intro pins s σ H xs us Q I r h
 obtain⟨p,ys,rfl,h⟩:=h
 obtain⟨u,rfl,rx⟩:=z9n r
 cases rx
 rcases h with ⟨hq,q⟩ | ⟨hq,q⟩
 ·obtain⟨its,r',pl,hz⟩:=I.list hq
  have hlen:=r'.length
  refine call_tuple_list pl.isList (fun h' kp => ?_) (by simp only[List.size_toArray] <;> omega)
  have I1:Inv X pins σ H { s with heap:=h' }:=I.kept (t':=s.toks) kp
  have I2:Inv X pins σ (upd H h'.objs.size (.tup ys)) { s with heap:=h'.push { cls :=.type "tuple",data :=.seq its.toArray } }:=
   I1.laid (t':=s.toks) (fun b o e=>Heap.get?_push_of_some _ e) (Nat.le_refl _) (show z2S X.prog X.w _ _ _ (.tup ys) from ⟨hz,its,r',IsTup.new _ _⟩)
  exact⟨.ref h'.objs.size,_,I2,rfl,q _ (I1.hok.fresh (Nat.le_refl _))⟩
 ·obtain⟨its,r',pl,hz⟩:=I.tuple hq
  exact call_tuple_same pl ⟨.ref p,H,I,rfl,q⟩
noncomputable def tyV (K:W.Frag)(T:String)(x:V)(H:Hp):Prop:=match x with
 | .str _=>T="str"
 | .int _=>T="int"
 | .ref p=>(T="list"/\∃ xs,SqL K H p xs)\/(T="tuple"/\∃ o,K.lookup p=some o/\o.cls = .type "tuple"/\o.dict=none)\/
   (T="dict"/\((∃ kvs,H p=some (.dK kvs))\/∃ kvs,H p=some (.dT kvs)))\/(T="set"/\∃ S n,H p=some (.set S n))
 | _=>False
theorem zgy {pins:List (Addr × Obj)}{σ:St}{H:Hp}{s:Shared}{T:String}{x:V}{v:Value}(I:Inv X pins σ H s)(r:RelV x v)(ty:tyV X.K T x H):
  s.TypeIs v T/\∀ a,v = .ref a->∃ ob,s.heap.get? a=some ob/\ob.dict=none:=by
 cases x with
 | str z=>
  obtain⟨t,rfl⟩:=r
  cases (show T="str" from ty)
  exact⟨typeIs_str s z t,fun _ e=>nomatch e⟩
 | int i=>
  obtain⟨t,rfl⟩:=r
  cases (show T="int" from ty)
  exact⟨typeIs_int s i t,fun _ e=>nomatch e⟩
 | ref p=>
  cases r
  rcases ty with ⟨rfl,xs,hq⟩ | ⟨rfl,o,hk,hc,hd⟩ | ⟨rfl,hk⟩ | ⟨rfl,S,n,hk⟩
  ·obtain⟨its,_,pl,_⟩:=I.list hq
   refine⟨pl.isList.typeIs,fun a e => ?_⟩
   cases e
   obtain⟨o,n,e,c,hd,_⟩:=pl
   exact⟨o,e,hd⟩
  ·refine⟨⟨o,I.kIn p o hk,hc⟩,fun a e => ?_⟩
   cases e
   exact⟨o,I.kIn _ o hk,hd⟩
  ·have z:∃ o,s.heap.get? p=some o/\o.ExactDict:=by
    rcases hk with ⟨kvs,hk⟩ | ⟨kvs,hk⟩
    ·obtain⟨_,_,_,_,o,_,_,e,ex,_⟩:=I.hok p _ hk
     exact⟨o,e,ex⟩
    ·obtain⟨_,_,_,_,o,_,_,e,ex,_⟩:=I.hok p _ hk
     exact⟨o,e,ex⟩
   obtain⟨o,e,ex⟩:=z
   refine⟨⟨o,e,ex.1⟩,fun a e2 => ?_⟩
   cases e2
   exact⟨o,e,ex.2.1⟩
  ·obtain⟨o,_,_,_,e,ex,_⟩:=I.hok p _ hk
   refine⟨⟨o,e,ex.1⟩,fun a e2 => ?_⟩
   cases e2
   exact⟨o,e,ex.2.1⟩
 | _=>exact False.elim ty
noncomputable def tBM (K:W.Frag)(T:String)(r:V->List V->Hp->VK->Prop)(to:TE)(t:TA):TE:=fun σ H Q=>to σ H fun x H1=>tyV K T x H1/\t σ H1 fun xs H2=>r x xs H2 Q
variable {o e:Expr}{es:List Expr}{to:TE}{t:TA}{name:Str}{apos cpos:Pos}{T id:String}{r:V->List V->Hp->VK->Prop}
theorem zjp (pa:PlainAttrs T)(slot:Slot T name id)(hty:typeOf (.builtin id)=pure (.type "method_descriptor"))(hm:MtR X id r)(ho:PE X o to)(ha:PA X (e::es) t)
  (hbase:attributeBase o name X.env (eval o X.env)=eval o X.env:=by rfl)
  (hfew:((backTo cpos (starEach (e::es) X.env)).all (fun x => !x.1) && (backToKw cpos (keywordEach [] X.env)).all (fun x=>x.1.isSome)
   && decide ((e::es).length+([]:List Keyword).length+(if ([]:List Keyword).isEmpty then 0 else 1) < 30))=true:=by rfl)
  (hline:(apos.endLine == cpos.line)=true:=by rfl) (hs:starEach (e::es) X.env=(false,eval e X.env)::starEach es X.env:=by rfl) (hplain:(backTo cpos (starEach es X.env)).any (·.1)=false:=by rfl):
  PE X (.Call (.Attribute o name apos) (e::es) [] cpos) (tBM X.K T r to t):=by
 intro pins s σ H Q I h
 refine wpAny_Call_method_late hbase hfew hline rfl (thn (ho pins s σ H _ I h) fun v s1 ⟨x,H1,I1,r1,ty,q1⟩ => ?_)
 obtain⟨h1,h2⟩:=zgy I1 r1 ty
 refine⟨T,id,pa,slot,hty,h1,h2,?_⟩
 have hA:=ha cpos pins s1 σ H1 _ I1 q1
 rw[hs] at hA ⊢
 refine Calls.callWith_builtin (by show (false || (backTo cpos (starEach es X.env)).any (·.1))=false; rw[hplain] <;> rfl) (Calls.evalArgs_plain ?_)
 exact thn hA fun us s2 ⟨vs,H2,I2,r2,q2⟩=>hm pins s2 σ H2 x vs v us Q I2 r1 r2 q2
end
end L2
namespace L2
open PySem PySem.Spec PyProof.Rows
noncomputable def MtM (X:Cx)(id:String)(r:V->List V->Hp->VK->Prop):Prop:=
 ∀ (pins:List (Addr × Obj)) (s:Shared) (σ:St) (H:Hp) (x:V) (xs:List V) (v:Value) (us:List Value) (Q:VK),Inv X pins σ H s->RelV x v->Vals xs us->r x xs H Q->
  wpAny (model X.prog X.w) X.A (call (.builtin id) (v::us)) (EP X pins σ Q) X.xe s
theorem Vals.one:∀ {x:V}{us:List Value},Vals [x] us->∃ u,us=[u]/\RelV x u
 | _,_,.cons r .nil=>⟨_,rfl,r⟩
theorem Vals.reverse {xs:List V}{us:List Value}(h:Vals xs us):Vals xs.reverse us.reverse:=by
 induction h with
 | nil=>exact .nil
 | cons r t ih=>rw[List.reverse_cons,List.reverse_cons]; exact Vals.append ih (.cons r .nil)
section
variable {X:Cx}{pins:List (Addr × Obj)}{σ:St}{H:Hp}{s:Shared}{l b:Addr}{xs ys zs:List V}
theorem Inv.lset {its its':List Value}{n:Nat}{f:Array Value->Array Value}{t':Nat}(I:Inv X pins σ H s)(hH:H l=some (.lst xs))
  (e:s.heap.get? l=some { cls :=.type "list",data :=.seq its.toArray n }) (hf:f its.toArray=its'.toArray) (hv:Vals ys its') (hz:ys.length<=sizeLine):
  Inv X pins σ (upd H l (.lst ys)) { s with heap:=s.heap.update l (Obj.mapSeq f),toks:=t' }:=by
 have q:=PySem.IsL.update e f
 rw[hf] at q
 refine I.write (x:=l) (e:=l) (by rw[hH]; exact trivial) (.inl rfl) (fun b' u hb hu=>(Heap.get?_update_other s.heap (Obj.mapSeq f) (Ne.symm hb)).trans hu) ⟨_,q⟩ ?_
 exact⟨hz,its',_,hv,q⟩
theorem Inv.lnew {its:List Value}{t':Nat}(I:Inv X pins σ H s)(hv:Vals ys its)(hz:ys.length<=sizeLine):
  Inv X pins σ (upd H s.heap.objs.size (.lst ys)) { s with heap:=s.heap.push { cls :=.type "list",data :=.seq its.toArray },toks:=t' }:=
 I.laid (fun _ _ q=>Heap.get?_push_of_some _ q) (Nat.le_refl _) ⟨hz,its,0,hv,Heap.get?_push_size _ rfl⟩
theorem Inv.fresh (I:Inv X pins σ H s):H s.heap.objs.size=none:=I.hok.fresh (Nat.le_refl _)
theorem Inv.lstM (I:Inv X pins σ H s)(hH:H l=some (.lst xs)):xs.length<=sizeLine/\∃ (its:List Value) (n:Nat),Vals xs its/\xs.length=its.length/\s.heap.get? l=some { cls :=.type "list",data :=.seq its.toArray n }:=by
 obtain⟨z,its,n,r,e⟩:=I.hok l _ hH
 exact⟨z,its,n,r,r.length,e⟩
theorem zee {n:Nat}(h:n<=sizeLine):Builtin.List.listTooLong n=false:=by
 unfold Builtin.List.listTooLong
 exact decide_eq_false (by omega)
end
section
variable {X:Cx}
noncomputable def zcp:V->List V->Hp->VK->Prop:=fun x vs H Q=>∃ l xs y,x = .ref l/\vs=[y]/\H l=some (.lst xs)/\xs.length < sizeLine/\Q .non (upd H l (.lst (xs++[y])))
theorem zcV:MtM X "list.append" zcp:=by
 intro pins s σ H x vs v us Q I rx rv h
 obtain⟨l,xs,y,rfl,rfl,hH,hz,q⟩:=h
 cases rx
 obtain⟨u,rfl,ru⟩:=rv.one
 obtain⟨z,its,n,r,hl,e⟩:=I.lstM hH
 refine call_meets F.slot_list_append ⟨_,e,rfl⟩ F.entry_list_append (F.args_list_append_2 _ _) (PySem.list_append l its.toArray n u (by rw[List.size_toArray]; omega)) ⟨e,?_⟩
 refine⟨.non,_,I.lset (its':=its++[u]) hH e (by simp) (r.append (.cons ru .nil)) ?_,rfl,q⟩
 rw[List.length_append,List.length_singleton]
 omega
noncomputable def zfz:V->List V->Hp->VK->Prop:=fun x vs H Q=>∃ l b xs zs,x = .ref l/\vs=[.ref b]/\H l=some (.lst xs)/\H b=some (.lst zs)/\xs.length+zs.length<=sizeLine/\Q .non (upd H l (.lst (xs++zs)))
theorem zcU:MtM X "list.extend" zfz:=by
 intro pins s σ H x vs v us Q I rx rv h
 obtain⟨l,b,xs,zs,rfl,rfl,hH,hB,hz,q⟩:=h
 cases rx
 obtain⟨u,rfl,ru⟩:=rv.one
 cases ru
 obtain⟨z,its,n,r,hl,e⟩:=I.lstM hH
 obtain⟨z2,its2,n2,r2,hl2,e2⟩:=I.lstM hB
 have hsz:its.toArray.size+its2.toArray.size<=sizeLine:=by rw[List.size_toArray,List.size_toArray]; omega
 have hlong:¬ (!its.toArray.isEmpty && Builtin.List.listTooLong (its.toArray.size+its2.toArray.size))=true:=by
  rw[zee hsz,Bool.and_false]
  exact Bool.false_ne_true
 refine call_meets F.slot_list_extend ⟨_,e,rfl⟩ F.entry_list_extend (F.args_list_extend_2 _ _)
  (AutoSeq1.list_extend_list_list_0 l its.toArray n b its2.toArray n2 hlong (by rw[List.size_toArray]; omega) (by omega)) ⟨e,e2,?_⟩
 refine⟨.non,_,I.lset (its':=its++its2) hH e (by simp) (r.append r2) ?_,rfl,q⟩
 rw[List.length_append]
 omega
end
end L2
namespace Att
open PySem PySem.W PySem.Calls PyProof.Rows
theorem z8d {P:Params}{h:Heap}:∀ (ns:List Int) (vs:List Value),WellAll P h vs (ns.map WData.int)->IntsAre vs ns:=by
 intro ns
 induction ns with
 | nil=>
  intro vs w
  rw[List.map_nil] at w
  cases w
  exact .nil
 | cons n ns ih=>
  intro vs w
  rw[List.map_cons] at w
  cases w with
  | cons a b=>
   cases a
   exact .cons _ _ (ih _ b)
theorem zcf {l:OpenLaw}{n:Nat}(hn:l.most=some n){P:Params}{h:Heap}{args:List WData}{vals:List Value}
  (hpre:l.row.toRowW.claim.pre args=true) (hwl:WellAll P h vals args):
  ∃ a vs ns,vals=[Value.ref a]/\args=[WData.list (ns.map WData.int)]/\h.get? a=some { cls :=.type "list",data :=.seq vs.toArray }/\IntsAre vs ns/\ns.length<=n:=by
 have hsh:WShape.hasAll [] args [.list .int]=true:=(pre_splitW hpre).1
 have hc:l.pre.holds [] { args:=args }=true:=(pre_splitW hpre).2
 obtain⟨d,r,rfl,h1,h2⟩:=hasAllW_cons hsh
 obtain rfl:=hasAllW_nil h2
 obtain⟨xs,rfl,h3⟩:=hasW_list h1
 obtain⟨ns,rfl⟩:=items_int h3
 have hlen:ns.length<=n:=by
  unfold OpenLaw.pre at hc
  have h4:(WTm.not (.lt (.lit (.int (n:Int))) (.len (.arg 0)))).holds [] { args:=[.list (ns.map .int)] }=true:=by
   have h4:=(holds_andW hc).1
   rw[hn] at h4
   exact h4
  have h5:=condW_of h4 (w_not (w_lt w_lit (w_len_list (w_arg rfl))))
  rw[List.length_map] at h5
  refine Nat.le_of_not_lt fun q => ?_
  have q':(n:Int) < ((ns.length:Nat):Int):=by omega
  first
   | (rw[decide_eq_true q'] at h5; exact absurd h5 (by decide))
   | (simp at h5; omega)
 cases hwl with
 | cons w1 w2=>
  cases w2
  cases w1 with
  | list ho hall=>exact⟨_,_,ns,rfl,rfl,ho,z8d ns _ hall,hlen⟩
theorem zcB (l:OpenLaw)(args:List WData):l.row.toRowW.claim.post args (.bool true) args=true:=
 postW_of (r:=l.row.toRowW) (X:=(true == true))
  (show WShape.has [] (.bool true) .bool=true by first | rfl | decide | simp[WShape.has,WShape.arms,WShape.armsAll])
  (show (WTm.eq .res (.lit (.bool true))).value [] { args:=args,res:=some (.bool true),after:=args }=some (.bool (true == true)) from w_eq_bool (w_res rfl) w_lit) rfl
theorem zb1 {l:OpenLaw}{n:Nat}{q:Program}{loose:List Str}{XP:(Str->Option Value)->Heap->Prop}{YP:World->Heap->Prop}{d:DefRec}
  (hn:l.most=some n) (hdf:d.params.defaults=[])
  (call:∀ (w:World) (s₀ s₁:Shared) (mg mb:Str->Option Value) (fa:Addr) (o:Obj) (pm cd doc:Value) (a:Addr) (vs:List Value) (ns:List Int),
   Ground q loose [] XP w s₀ mg mb s₁.heap->YP w s₁.heap->
   s₁.heap.get? fa=some o->o.data = .func (docDef d.name d.params d.body d.scope pm cd doc)->s₁.heap.CodeRec cd d.name->mg d.name=some (.ref fa)->
   s₁.heap.get? a=some { cls :=.type "list",data :=.seq vs.toArray }->IntsAre vs ns->ns.length<=n->s₁.gens = #[]->
   codeAny (model l.prog w) callerA (.call (.ref fa) ⟨[.ref a],[]⟩) (fun r s'=>r = .ok (.ret (.bool true))/\OldK s₁.heap s'.heap/\s'.os=s₁.os/\AllBare s'.gens) s₁):
  WalkO q loose XP YP l.row.toRowW d [] (fun f vs=>PySem.call f vs):=by
 intro w s₀ s₁ mg mb G Y fa o pm cd doc dV kV ho hd hcd hD hmg hg args vals as hpre hlay hrd hwl hlo
 obtain rfl:dV = .none:=Dflts.none hD hdf
 obtain rfl:kV = .none:=Dflts.noKw hD
 obtain⟨a,vs,ns,rfl,rfl,hobj,hints,hlen⟩:=zcf hn hpre hwl
 refine enter_call (codeAny_mono (call w s₀ s₁ mg mb fa o pm cd doc a vs ns G Y ho (fd_plain hd) hcd hmg hobj hints hlen hg) fun r s' hq => ?_)
 obtain⟨rfl,h2,h3,h4⟩:=hq
 exact⟨.inl ⟨.bool true,.bool true,[],rfl,fun _=>rfl,.bool true,zcB l _,fun _=>⟨List.Pairwise.nil,fun _ hm=>(nomatch hm)⟩⟩,h2,h3,h4⟩
end Att
namespace L2
open PySem PySem.Spec PyProof.Rows
theorem z9Z:∀ {vs:List Value}{ns:List Int},IntsAre vs ns->Vals (ns.map V.int) vs
 | _,_,.nil =>.nil
 | _,_,.cons n t h =>.cons ⟨t,rfl⟩ (z9Z h)
noncomputable def Only (H:Hp):Prop:=∀ b,H b=none\/∃ o xs,H b=some (.frz o (.lst xs))
theorem zel {P:Program}{w:World}{K:W.Frag}{mg mb:Str->Option Value}{CX:CXT}{k:Nat}{fa a:Addr}{fd:FuncData}{x:Str}{sp:Sp}{s₁:Shared}{vs:List Value}{ns:List Int}
  (KX:K.In s₁.heap) (hns:s₁.heap.Ns mainGlobals mg) (hb:s₁.heap.Ns builtinsNs mb) (hbb:∀ x:Str,x≠"__name__"->mb x=bootBuiltins x) (hlim:s₁.heap.NoLimit) (hg:s₁.gens = #[])
  (ha:s₁.heap.get? a=some { cls :=.type "list",data :=.seq vs.toArray }) (hi:IntsAre vs ns) (hl:ns.length<=sizeLine) (hr:Room k callerA)
  (F:∀ base:Heap,K.In base->base.Ns mainGlobals mg->FnOk P w K mg base CX k fa fd [x] sp) (hbind:∀ (s:Shared) (u:Value),BindsTo s fd ⟨[u],[]⟩ [(x,u)])
  (hsp:∀ H:Hp,Only H->SqL K H a (ns.map V.int)->sp [.ref a] H (fun v _=>v = .bl true) fun _ _ _=>False)
  (hCX:∀ H e s',CX [] H s₁ (fun _ _ _=>False) e s'->False):
  codeAny (model P w) callerA (.call (.ref fa) ⟨[.ref a],[]⟩) (fun r s'=>r = .ok (.ret (.bool true))/\OldK s₁.heap s'.heap/\s'.os=s₁.os/\AllBare s'.gens) s₁:=by
 have rv:=z9Z hi
 have lenV:=hi.length
 have core:∀ H:Hp,Only H->SqL K H a (ns.map V.int)->HOk P w H s₁.heap->(∀ b,H b≠none->b=a)->(H a≠none->K.lookup a=none)->
   codeAny (model P w) callerA (.call (.ref fa) ⟨[.ref a],[]⟩) (fun r s'=>r = .ok (.ret (.bool true))/\OldK s₁.heap s'.heap/\s'.os=s₁.os/\AllBare s'.gens) s₁:=by
  intro H hO hS hok hA hK
  have base_of:∀ {b:Addr}{o:Obj},s₁.heap.get? b=some o->H b=none->(hidT s₁.heap H).get? b=some o:=fun e n=>zep e n
  have noA:∀ {b:Addr}{o:Obj}{es:Array DictEntry}{ep:Nat},s₁.heap.get? b=some o->o.data = .dict es ep->H b=none:=fun {b o es ep} e d=>by
   cases q:H b with
   | none=>rfl
   | some u=>
    have e':b=a:=hA b (by rw[q]; simp)
    subst e'
    rw[ha] at e; cases e
    have d':Data.seq vs.toArray _=Data.dict es ep:=d
    cases d'
  have nsK:∀ {b:Addr}{m:Str->Option Value},s₁.heap.Ns b m->(hidT s₁.heap H).Ns b m:=fun {b m} ⟨o,es,ep,e,d,r⟩=>⟨o,es,ep,base_of e (noA e d),d,r⟩
  have hKb:K.In (hidT s₁.heap H):=fun b o e=>base_of (KX b o e) (by
   cases q:H b with
   | none=>rfl
   | some u=>
    have e':b=a:=hA b (by rw[q]; simp)
    subst e'
    rw[hK (by rw[q]; simp)] at e; cases e)
  have hM:Mod K mg (hidT s₁.heap H):=⟨hKb,nsK hns,⟨mb,nsK hb,hbb⟩,let ⟨mc,h1,h2⟩:=hlim; ⟨mc,nsK h1,h2⟩⟩
  have e0:Env0 P w K mg (hidT s₁.heap H) callerA [] s₁ H:=⟨rfl,hM,fun b o e=>zg5 e,Nat.le_of_eq (zd5 _ _),trivial,fun b hb=>absurd (show b∈([]:List Addr) from hb) (by simp),hok,.of_eq hg⟩
  refine codeAny_mono ((F _ hKb (nsK hns)).run callerA [] s₁ H ⟨[.ref a],[]⟩ [.ref a] [.ref a] _ _ hr e0 (hbind s₁ (.ref a)) (.cons rfl .nil) (hsp H hO hS)) fun r s' h => ?_
  cases r with
  | error e=>exact(hCX H e s' h).elim
  | ok fl=>
   cases fl with
   | next=>exact False.elim h
   | brk=>exact False.elim h
   | cont=>exact False.elim h
   | ret u=>
    obtain⟨v,H',os,bare,un,hok',r',q⟩:=h
    have q':v = .bl true:=q
    subst q'
    obtain rfl:u=Value.bool true:=r'
    refine⟨rfl,OldK.of_keep fun b o e => ?_,os,bare⟩
    cases q:H b with
    | none=>exact un.keep b o e q (by intro z; exact absurd (show b∈([]:List Addr) from z) (by simp)) (by simp)
    | some u=>
     rcases hO b with z | ⟨ob,xs,z⟩
     ·rw[q] at z; cases z
     ·have z2:=un.frzs b ob _ z
      obtain⟨e1,_⟩:=hok b _ z
      obtain⟨e2,_⟩:=hok' b _ z2
      rw[e] at e1; cases e1
      exact e2
 cases hk:K.lookup a with
 | some o=>
  have e:=KX a o hk
  rw[ha] at e
  cases e
  refine core (fun _=>none) (fun _ =>.inl rfl) (.inr ⟨_,vs.toArray,_,hk,rfl,rfl,rfl,by rw[List.size_toArray,lenV]; exact hl,by simpa using rv⟩) (fun b u z=>by have z':(none:Option HO)=some u:=z; cases z') (fun b z=>absurd rfl z) fun z=>absurd rfl z
 | none=>
  refine core (fun b=>if b=a then some (.frz { cls :=.type "list",data :=.seq vs.toArray } (.lst (ns.map V.int))) else none) (fun b => ?_) (.inl (.inr ⟨{ cls :=.type "list",data :=.seq vs.toArray },if_pos rfl⟩)) (fun b u z => ?_) (fun b z => ?_) fun _=>hk
  ·by_cases hb:b=a
   ·exact .inr ⟨_,_,if_pos hb⟩
   ·exact .inl (if_neg hb)
  ·by_cases hb:b=a
   ·have z':=(if_pos hb).symm.trans z
    cases z'
    subst hb
    exact⟨ha,by rw[List.length_map]; exact hl,vs,_,rv,ha⟩
   ·have z':=(if_neg hb).symm.trans z
    cases z'
  ·by_cases hb:b=a
   ·exact hb
   ·exact absurd (if_neg hb) z
end L2
namespace L2
open PySem PySem.Spec PyProof.Rows
theorem zfg {l:PySem.W.OpenLaw}{n k:Nat}{q:Program}{loose:List Str}{XP:(Str->Option Value)->Heap->Prop}{YP:World->Heap->Prop}{d:DefRec}{K:Params->W.Frag}{CX:World->CXT}{sp:World->Sp}{x:Str}
  (hn:l.most=some n) (hn2:n<=sizeLine) (hdf:d.params.defaults=[]) (hr:Room k callerA)
  (hY:∀ (w:World) (h:Heap),YP w h->(K w.params).In h)
  (F:∀ (w:World) (mg:Str->Option Value) (fa:Addr) (h:Heap),(K w.params).In h->h.Ns mainGlobals mg->mg d.name=some (.ref fa)->
   ∃ fd:FuncData,(∀ (s:Shared) (u:Value),BindsTo s fd ⟨[u],[]⟩ [(x,u)])/\
    ∀ base:Heap,(K w.params).In base->base.Ns mainGlobals mg->FnOk l.prog w (K w.params) mg base (CX w) k fa fd [x] (sp w))
  (hsp:∀ (w:World) (H:Hp) (a:Addr) (ns:List Int),ns.length<=n->Only H->SqL (K w.params) H a (ns.map V.int)->sp w [.ref a] H (fun v _=>v = .bl true) fun _ _ _=>False)
  (hCX:∀ (w:World) (H:Hp) (s:Shared) (e:Value) (s':Shared),CX w [] H s (fun _ _ _=>False) e s'->False):
  PySem.W.WalkO q loose XP YP l.row.toRowW d [] (fun f vs=>PySem.call f vs):=by
 refine Att.zb1 hn hdf fun w s₀ s₁ mg mb fa o pm cd doc a vs ns G Y ho hd hcd hmg hobj hints hlen hg => ?_
 have KX:=hY w _ Y
 obtain⟨fd,hb,hF⟩:=F w mg fa _ KX G.T.g hmg
 exact zel KX G.T.g G.T.b G.T.builtins G.T.nolimit hg hobj hints (Nat.le_trans hlen hn2) hr hF hb (fun H hO hS=>hsp w H a ns hlen hO hS) fun H e s'=>hCX w H s₁ e s'
end L2
namespace L2
open PySem PySem.Spec PyProof.Rows
noncomputable def z5W (s:Stmt):Arguments:=match s with
 | .FunctionDef _ a _ _ _ _ _ _ _ _=>a
 | _=>{ posonlyargs:=[],args:=[],vararg:=none,kwonlyargs:=[],kw_defaults:=[],kwarg:=none,defaults:=[] }
noncomputable def z3k (s:Stmt):List Stmt:=match s with
 | .FunctionDef _ _ b _ _ _ _ _ _ _=>b
 | _=>[]
noncomputable def z01 (s:Stmt):Scope:=match s with
 | .FunctionDef _ _ _ _ _ _ sc _ _ _=>sc
 | _=>{ kind :=.function,names:=[],isGenerator:=false,isCoroutine:=false }
noncomputable abbrev E0:XK:=fun _ _ _=>False
structure Fun (K:W.Frag)(x qual:Str)(st:Stmt)(f:Addr)(fd:FuncData):Prop where
 ex:∃ (oc:Value) (od:Option Addr) (kV doc pm:Value) (an:Option Addr) (cdv ct:Value) (osl:Array (Option Value)),
  fd=PySem.W.fnOf x qual (z5W st) (z3k st) (z01 st) .none kV doc pm an cdv ct/\K.lookup f=some ⟨oc,od,.func fd,osl⟩/\PySem.W.codeIn K cdv qual=true
 kp:PySem.W.keepIn K (.ref f)=true
section
variable {P:Program}{w:World}{K:W.Frag}{mg:Str->Option Value}{base:Heap}
theorem Fun.binds {x qual:Str}{st:Stmt}{f:Addr}{fd:FuncData}{ps:List Str}(F:Fun K x qual st f fd)
  (h:∀ (kV doc pm:Value) (an:Option Addr) (cdv ct:Value) (us:List Value),us.length=ps.length->bindArgs (PySem.W.fnOf x qual (z5W st) (z3k st) (z01 st) .none kV doc pm an cdv ct) ⟨us,[]⟩=pure (ps.zip us)):zc1 K fd ps []:=by
 obtain⟨oc,od,kV,doc,pm,an,cdv,ct,osl,rfl,lk,hcd⟩:=F.ex
 exact .all (h kV doc pm an cdv ct)
theorem zfa {x qual:Str}{st:Stmt}{f:Addr}{oc:Value}{od an:Option Addr}{osl:Array (Option Value)}{kV doc pm cdv ct:Value}(l:K.lookup f=some ⟨oc,od,.func (PySem.W.fnOf x qual (z5W st) (z3k st) (z01 st) .none kV doc pm an cdv ct),osl⟩)
  (c:PySem.W.codeIn K cdv qual=true) (k:PySem.W.keepIn K (.ref f)=true):Fun K x qual st f (PySem.W.fnOf x qual (z5W st) (z3k st) (z01 st) .none kV doc pm an cdv ct):=⟨⟨oc,od,kV,doc,pm,an,cdv,ct,osl,rfl,l,c⟩,k⟩
end
theorem iteF {A B:Prop}(h:B):if false=true then A else B:=by
 rw[if_neg Bool.false_ne_true]
 exact h
theorem iteT {A B:Prop}(h:A):if true=true then A else B:=by
 rw[if_pos rfl]
 exact h
noncomputable def Same (H H':Hp):Prop:=∀ b o,H b=some o->H' b=some o
theorem Same.seq {K:W.Frag}{H H':Hp}{a:Addr}{xs:List V}(e:Same H H')(h:SqL K H a xs):SqL K H' a xs:=by
 rcases h with (h | ⟨o,h⟩) | h
 ·exact .inl (.inl (e _ _ h))
 ·exact .inl (.inr ⟨o,e _ _ h⟩)
 ·exact .inr h
end L2
set_option maxHeartbeats 4000000
namespace L2
open PySem PySem.Spec PyProof.Rows
open Builtin.Int (intBits)
noncomputable abbrev Bt (n:Nat)(i:Int):Prop:=intBits i<=n
theorem Bt.le {m n:Nat}{i:Int}(h:Bt m i)(q:m<=n:=by decide):Bt n i:=Nat.le_trans h q
theorem z0F {n:Nat}{i:Int}(h:i.natAbs < 2 ^ n):Bt n i:=PySem.intBits_le_iff.mpr h
theorem Bt.of_abs {n:Nat}{i j:Int}(h:Bt n j)(q:i.natAbs<=j.natAbs):Bt n i:=PySem.intBits_le_of_natAbs q h
theorem Bt.add {m n:Nat}{i j:Int}(h:Bt m i)(q:Bt n j):Bt (max m n+1) (i+j):=PySem.intBits_add_le h q
theorem Bt.sub {m n:Nat}{i j:Int}(h:Bt m i)(q:Bt n j):Bt (max m n+1) (i - j):=PySem.intBits_sub_le h q
theorem Bt.mul {m n:Nat}{i j:Int}(h:Bt m i)(q:Bt n j):Bt (m+n) (i*j):=PySem.intBits_mul_le h q
theorem Bt.neg {m:Nat}{i:Int}(h:Bt m i):Bt m (-i):=PySem.intBits_neg_le h
noncomputable def zgs (i j:Int):Prop:=Bt 60000000 i/\Bt 60000000 j
noncomputable def ziN (_ j:Int):Prop:=j≠0/\Bt 9000 j
theorem zd0 {j:Int}(h0:j≠0)(h:Bt 9000 j):j.natAbs.log2 < 9000:=by
 have e:intBits j=j.natAbs.log2+1:=by
  unfold Builtin.Int.intBits
  rw[if_neg (by simpa using h0)]
 have h':intBits j<=9000:=h
 omega
section
variable {X:Cx}{a b c:Expr}{ta tb tc:TE}{pos:Pos}
theorem zg1:OpR X (binaryOp .Mult) (rI zgs fun i j =>.int (i*j)):=opI fun _ _ _ _ _ _ _ hc q=>mul_int q (IntMulOk.of_le hc.1 hc.2 (by decide))
theorem ze4:OpR X (binaryOp .FloorDiv) (rI ziN fun i j =>.int (i.fdiv j)):=opI fun _ _ _ _ _ _ _ hc q=>floordiv_int hc.1 q (.inl (PyProof.noPylong_of_log2 (zd0 hc.1 hc.2)))
end
mutual
noncomputable def Rp (K:W.Frag)(H:Hp):PyData->V->Prop
 | .none,v=>v = .non
 | .bool b,v=>v = .bl b
 | .int i,v=>v = .int i
 | .str x,v=>v = .str x
 | .list ds,v=>∃ a xs,v = .ref a/\SqL K H a xs/\RpL K H ds xs
 | .tuple ds,v=>∃ a xs,v = .ref a/\SqT K H a xs/\RpL K H ds xs
 | .dict _,_=>False
noncomputable def RpL (K:W.Frag)(H:Hp):List PyData->List V->Prop
 | [],xs=>xs=[]
 | d::ds,xs=>∃ x r,xs=x::r/\Rp K H d x/\RpL K H ds r
end
theorem Same.seqT {K:W.Frag}{H H':Hp}{a:Addr}{xs:List V}(e:Same H H')(h:SqT K H a xs):SqT K H' a xs:=by
 rcases h with (h | ⟨o,h⟩) | h
 ·exact .inl (.inl (e _ _ h))
 ·exact .inl (.inr ⟨o,e _ _ h⟩)
 ·exact .inr h
mutual
theorem Rp.same {K:W.Frag}{H H':Hp}(e:Same H H'):∀ (d:PyData) {v:V},Rp K H d v->Rp K H' d v
 | .none,_,h=>by simpa[Rp] using h
 | .bool _,_,h=>by simpa[Rp] using h
 | .int _,_,h=>by simpa[Rp] using h
 | .str _,_,h=>by simpa[Rp] using h
 | .list ds,_,h=>by
  rw[Rp] at h ⊢
  obtain⟨a,xs,h1,h2,h3⟩:=h
  exact⟨a,xs,h1,e.seq h2,RpL.same e ds h3⟩
 | .tuple ds,_,h=>by
  rw[Rp] at h ⊢
  obtain⟨a,xs,h1,h2,h3⟩:=h
  exact⟨a,xs,h1,e.seqT h2,RpL.same e ds h3⟩
 | .dict _,_,h=>by simp[Rp] at h
theorem RpL.same {K:W.Frag}{H H':Hp}(e:Same H H'):∀ (ds:List PyData) {xs:List V},RpL K H ds xs->RpL K H' ds xs
 | [],_,h=>by simpa[RpL] using h
 | d::ds,_,h=>by
  rw[RpL] at h ⊢
  obtain⟨x,r,h1,h2,h3⟩:=h
  exact⟨x,r,h1,Rp.same e d h2,RpL.same e ds h3⟩
end
section
variable {X:Cx}{pins:List (Addr × Obj)}{σ:St}{H:Hp}{s:Shared}
mutual
theorem Rp.reads (I:Inv X pins σ H s):∀ (d:PyData) {v:V}{u:Value},Rp X.K H d v->RelV v u->∃ as,Reads s.heap u d as
 | .none,v,u,h,r=>by
  rw[Rp] at h; subst h
  cases (show u=Value.none from r); exact⟨_,.none⟩
 | .bool b,v,u,h,r=>by
  rw[Rp] at h; subst h
  cases (show u=Value.bool b from r); exact⟨_,.bool b⟩
 | .int i,v,u,h,r=>by
  rw[Rp] at h; subst h
  obtain⟨t,rfl⟩:=(show ∃ t,u=Value.int i t from r); exact⟨_,.int i t⟩
 | .str x,v,u,h,r=>by
  rw[Rp] at h; subst h
  obtain⟨t,rfl⟩:=(show ∃ t,u=Value.str x t from r); exact⟨_,.str x t⟩
 | .list ds,v,u,h,r=>by
  rw[Rp] at h
  obtain⟨a,xs,rfl,h2,h3⟩:=h
  cases (show u=Value.ref a from r)
  obtain⟨its,hv,⟨o,n,e,hc,_,hd⟩,_⟩:=I.list h2
  obtain⟨as,q⟩:=RpL.reads I ds h3 hv
  exact⟨_,.list e hc hd (by simpa using q)⟩
 | .tuple ds,v,u,h,r=>by
  rw[Rp] at h
  obtain⟨a,xs,rfl,h2,h3⟩:=h
  cases (show u=Value.ref a from r)
  obtain⟨its,hv,⟨o,e,hc,n,hd⟩,_⟩:=I.tuple h2
  obtain⟨as,q⟩:=RpL.reads I ds h3 hv
  exact⟨_,.tuple e hc hd (by simpa using q)⟩
 | .dict _,v,u,h,r=>by simp[Rp] at h
theorem RpL.reads (I:Inv X pins σ H s):∀ (ds:List PyData) {xs:List V}{us:List Value},RpL X.K H ds xs->Vals xs us->∃ as,ReadsAll s.heap us ds as
 | [],xs,us,h,r=>by
  rw[RpL] at h; subst h
  cases r; exact⟨_,.nil⟩
 | d::ds,xs,us,h,r=>by
  rw[RpL] at h
  obtain⟨x,t,rfl,h2,h3⟩:=h
  cases r with
  | cons r1 r2=>
   obtain⟨as,q⟩:=Rp.reads I d h2 r1
   obtain⟨bs,q'⟩:=RpL.reads I ds h3 r2
   exact⟨_,.cons q q'⟩
end
end
section
variable {X:Cx}
noncomputable def rEqD (K:W.Frag)(neg:Bool):R2:=fun x y H Q=>∃ d e,Rp K H d x/\Rp K H e y/\PySem.SeqAt.shaped d=true/\PySem.SeqAt.shaped e=true/\Q (.bl (if neg then !PyData.eqv d e else PyData.eqv d e)) H
theorem zhP (hu:X.A.units+64 < cLine):OpR X (compareOp .Eq) (rEqD X.K false):=by
 intro pins s σ H x y v u Q I rx ry h
 obtain⟨d,e,h1,h2,h3,h4,q⟩:=h
 obtain⟨as,r1⟩:=Rp.reads I d h1 rx
 obtain⟨bs,r2⟩:=Rp.reads I e h2 ry
 exact eq_dataH r1 r2 h3 h4 hu ⟨.bl (PyData.eqv d e),H,I,rfl,q⟩
theorem zhK (hu:X.A.units+64 < cLine):OpR X (compareOp .NotEq) (rEqD X.K true):=by
 intro pins s σ H x y v u Q I rx ry h
 obtain⟨d,e,h1,h2,h3,h4,q⟩:=h
 obtain⟨as,r1⟩:=Rp.reads I d h1 rx
 obtain⟨bs,r2⟩:=Rp.reads I e h2 ry
 exact ne_dataH r1 r2 h3 h4 hu ⟨.bl (!PyData.eqv d e),H,I,rfl,q⟩
end
structure Cal (P:Program)(w:World)(K:W.Frag)(mg:Str->Option Value)(base:Heap)(CX:CXT)(k:Nat)(x:Str)(ps:List Str)(sp:Sp):Prop where
 ex:∃ f fd,FnOk P w K mg base CX k f fd ps sp/\mg x=some (.ref f)/\PySem.W.keepIn K (.ref f)=true/\zc1 K fd ps []
section
variable {X:Cx}{CX:CXT}{k:Nat}{ps:List Str}{sp:Sp}{E:XK}{x:Str}{p pos:Pos}{e:Expr}{es:List Expr}{t:TA}
theorem zjo (C:Cal X.prog X.w X.K X.mg X.base CX k x ps sp)(hr:Room k X.A)(hx:z8I CX X E)(ha:PA X (e::es) t)(hg:Gl X x:=by rfl)
  (hdb:(x == ("__debug__":Str))=false:=by decide) (he:starEach (e::es) X.env=(false,eval e X.env)::starEach es X.env:=by rfl) (hpl:(backTo pos (starEach es X.env)).any (·.1)=false:=by rfl):
  PE X (.Call (.Name x p) (e::es) [] pos) (zfn sp [] E t):=by
 obtain⟨f,fd,F,hm,hk,hb⟩:=C.ex
 exact zfY F hr hg hm hk hb .nil hx ha hdb he hpl
end
end L2
namespace L2
open PySem PySem.Spec PyProof.Rows
section
variable {P:Program}{w:World}{H:Hp}{h h':Heap}{a:Addr}{o:HO}
theorem HOk.track (x:HOk P w H h)(hn:H a=none)(new:z2S P w (upd H a o) h a o):HOk P w (upd H a o) h:=fun b u e=>by
 by_cases hb:b=a
 ·subst hb; rw[z0U] at e; cases e; exact new
 ·rw[z0q hb] at e
  exact(x b u e).stay (fun c v _ q=>q) (fun c q=>by rw[z0q (z0R q hn)]; exact q) fun c xs q=>by rw[z0q (z0R q hn)]; exact q
theorem HOk.other (x:HOk P w H h)(hn:H a=none)(k:∀ b u,b≠a->h.get? b=some u->h'.get? b=some u):HOk P w H h':=fun b u e=>by
 have nit:∀ c v,H c=some v->c≠a:=fun c v q z=>by rw[z,hn] at q; cases q
 refine(x b u e).stay (fun c v hc q=>k c v ?_ q) (fun _ q=>q) fun _ _ q=>q
 rcases hc with z | z
 ·rw[z]; exact nit b u e
 ·exact nit c _ z
end
end L2
namespace Mth
theorem z5V {t b:Int}(h:0 < b):(0:Int) < (Int.gcd t b:Int)/\t=(Int.gcd t b:Int)*(t / (Int.gcd t b:Int))/\b=(Int.gcd t b:Int)*(b / (Int.gcd t b:Int))/\1<=b / (Int.gcd t b:Int)/\Int.gcd (t / (Int.gcd t b:Int)) (b / (Int.gcd t b:Int))=1:=by
 have p:=(Int.gcd_pos_iff (a:=t) (b:=b)).mpr (.inr (by omega))
 have e1:t=(Int.gcd t b:Int)*(t / (Int.gcd t b:Int)):=(Int.mul_ediv_cancel' (Int.gcd_dvd_left t b)).symm
 have e2:b=(Int.gcd t b:Int)*(b / (Int.gcd t b:Int)):=(Int.mul_ediv_cancel' (Int.gcd_dvd_right t b)).symm
 refine⟨by omega,e1,e2,?_,?_⟩
 ·rcases(show b / (Int.gcd t b:Int) < 1\/1<=b / (Int.gcd t b:Int) by omega) with q | q
  ·have:(Int.gcd t b:Int)*(b / (Int.gcd t b:Int))<=0:=Int.mul_nonpos_of_nonneg_of_nonpos (by omega) (by omega)
   omega
  ·exact q
 ·have q:=Int.gcd_mul_left (Int.gcd t b:Int) (t / (Int.gcd t b:Int)) (b / (Int.gcd t b:Int))
  rw[<- e1, <- e2,Int.natAbs_natCast] at q
  have q':Int.gcd t b*1=Int.gcd t b*Int.gcd (t / (Int.gcd t b:Int)) (b / (Int.gcd t b:Int)):=by rw[Nat.mul_one]; exact q
  exact(Nat.eq_of_mul_eq_mul_left p q').symm
theorem z0s {a b:Int}(hb:0 < b):(a / b).natAbs<=a.natAbs:=by
 rw[<- Int.fdiv_eq_ediv_of_nonneg a (Int.le_of_lt hb)]
 exact PySem.natAbs_fdiv_le a b
end Mth
namespace L2
open PySem PySem.Spec PyProof.Rows
theorem zbx {i:Int}(h1 : -(2 ^ 64) < i)(h2:i < 2 ^ 64):Bt 9000 i:=Nat.le_trans (PySem.intBits_le_64 h1 h2) (by decide)
theorem bt_k {i:Int}(h:i.natAbs < 2 ^ 640):Bt 640 i:=z0F h
theorem bt_n {i:Int}(h0:0<=i)(h:i < 2 ^ 640):Bt 640 i:=z0F (by omega)
noncomputable def zgE (t:TA):TE:=fun σ H Q=>t σ H fun xs H1=>xs.length<=sizeLine/\∀ p H2,Same H1 H2->H2 p=some (.tup xs)->Q (.ref p) H2
theorem z1p {H:Hp}{p:Addr}(h:H p=none)(o:HO):Same H (upd H p o):=fun b u q=>by rw[z0q (z0R q h)]; exact q
theorem PE.imp {X:Cx}{e:Expr}{t t':TE}(h:PE X e t)(i:∀ σ H Q,t' σ H Q->t σ H Q):PE X e t':=fun pins s σ H Q I q=>h pins s σ H Q I (i σ H Q q)
theorem OpR.imp {X:Cx}{f:Value->Value->Sem Value}{r r':R2}(h:OpR X f r)(i:∀ x y H Q,r' x y H Q->r x y H Q):OpR X f r':=fun pins s σ H x y v u Q I rx ry q=>h pins s σ H x y v u Q I rx ry (i x y H Q q)
section
variable {X:Cx}{es:List Expr}{t:TA}{pos:Pos}
theorem zfV {x1}(h:PA X es t):PE X (.Tuple es x1 pos) (zgE t):=by
 intro pins s σ H Q I hq
 refine wpAny_Tuple_spliced (thn (h pos pins s σ H _ I hq) fun us s1 ⟨xs,H1,I1,r,z,q⟩=>⟨by rw[<- r.length]; exact z,?_⟩)
 have hf:H1 s1.heap.objs.size=none:=I1.hok.fresh (Nat.le_refl _)
 refine⟨.ref s1.heap.objs.size,upd H1 s1.heap.objs.size (.tup xs),I1.laid (t':=s1.toks) (fun b u e=>Heap.get?_push_of_some _ e) (Nat.le_refl _) ?_,rfl,q _ _ (z1p hf _) z0U⟩
 exact⟨z,us,r,⟨_,Heap.get?_push_size _ rfl,rfl,_,rfl⟩⟩
theorem SlR.imp {r r':V->Option Int->Option Int->Hp->VK->Prop}(h:SlR X r)(i:∀ x lo hi H Q,r' x lo hi H Q->r x lo hi H Q):SlR X r':=by
 unfold SlR at h ⊢
 intros
 apply h
 all_goals first | assumption | (apply i; assumption)
end
end L2
namespace L2
open PySem PySem.Spec PyProof.Rows
end L2
namespace L2
open PySem PySem.Spec PyProof.Rows
structure QE (X:Cx)(e:Expr)(t:TE):Prop where
 p:PE X e t
structure QT (X:Cx)(e:Expr)(t:TT):Prop where
 p:PT X e t
structure QW (X:Cx)(e:Expr)(t:TT):Prop where
 p:PW X e t
structure QA (X:Cx)(es:List Expr)(t:TA):Prop where
 p:PA X es t
structure QS (X:Cx)(st:Stmt)(t:TS):Prop where
 p:PS X st t
structure QSs (X:Cx)(st:List Stmt)(t:TS):Prop where
 p:PSs X st t
structure QG (X:Cx)(e:Expr)(t:TG):Prop where
 p:PG X e t
structure QGs (X:Cx)(es:List Expr)(t:TGs):Prop where
 p:PGs X es t
structure QI (X:Cx)(tg e:Expr)(t:TI):Prop where
 p:PI X tg e t
structure QO (X:Cx)(e:Option Expr)(t:TO):Prop where
 p:PO X e t
section
variable {X:Cx}{a b c e f o:Expr}{ta tb tc te:TE}{pos pos2 p2:Pos}{tA tB':TT}{rest:List Expr}{es:List Expr}{aa:TA}
theorem zhi {i j pos}:QE X (.Constant (.int i) j pos) (tC (.int i)):=⟨zhD⟩
theorem zjg {i j pos}:QE X (.Constant (.bool i) j pos) (tC (.bl i)):=⟨zjq⟩
theorem zhf {j pos}:QE X (.Constant .none j pos) (tC .non):=⟨zhA⟩
theorem qv (i:Nat){x:Str}{pos:Pos}(hN:X.N[i]? = some x:=by rfl)(hv:Vis X.env.scope x:=by first | exact Or.inl rfl | exact Or.inr (Or.inl rfl) | exact Or.inr (Or.inr rfl))(hd:(x == ("__debug__":Str))=false:=by decide)
  (hcd:(x == ("__classdict__":Str))=false:=by decide):QE X (.Name x pos) (tVar i):=⟨zf2 hN hv hd hcd⟩
theorem zjd {op:Operator}{r:R2}(ho:OpR X (binaryOp op) r)(ha:QE X a ta)(hb:QE X b tb):QE X (.BinOp a op b pos) (tOp r ta tb):=⟨zjm ho ha.p hb.p⟩
theorem zjc {op:UnaryOp}{r:V->Hp->VK->Prop}(ho:UnR X (unaryOp op) r)(ha:QE X a ta):QE X (.UnaryOp op a pos) (tUn r ta):=⟨zjl ho ha.p⟩
theorem zhe (ha:QE X a ta):QE X (.UnaryOp .Not a pos) (zgH ta):=⟨zhz ha.p⟩
theorem zhd {op}{t:TE}(h:QE X a t):QE X (.BoolOp op [a] pos) t:=⟨zhy h.p⟩
theorem zhk (ha:QE X a ta)(hb:QE X (.BoolOp .And (b::rest) pos) tb):QE X (.BoolOp .And (a::b::rest) pos) (zgL ta tb):=⟨zhE ha.p hb.p⟩
theorem zfN {op:CmpOp}{r:R2}(ho:OpR X (compareOp op) r)(ha:QE X a ta)(hb:QE X b tb)(hm:behindInMarks op b=false):QE X (.Compare a [op] [b] pos) (tOp r ta tb):=⟨zfX ho ha.p hb.p hm⟩
theorem zfG {op:CmpOp}{r:R2}(ho:OpR X (compareOp op) r)(ha:QE X a ta)(hb:QE X b tb)(hm:behindInMarks op b=false):QT X (.Compare a [op] [b] pos) (zfm (tOp r ta tb)):=⟨zfQ ho ha.p hb.p hm⟩
theorem zh7 {t:TE}(h:QE X e t)(he:∀ whole,isTrue e X.env whole=(do let v <- whole; standAt e.pos; holding [v] (truthy v)):=by intro _; rfl):QT X e (tB t):=⟨zhn h.p he⟩
theorem zh8 (ha:QT X a tA):QT X (.UnaryOp .Not a pos) (tNot tA):=⟨zho ha.p⟩
theorem zfF (ha:QT X a tA):QW X (.BoolOp .And [a] pos) tA:=⟨zfP ha.p⟩
theorem zh5 (ha:QT X a tA):QW X (.BoolOp .Or [a] pos) tA:=⟨zhl ha.p⟩
theorem zh6 (ha:QT X a tA)(hb:QW X (.BoolOp .And (b::rest) pos) tB'):QW X (.BoolOp .And (a::b::rest) pos) (tAnd tA tB'):=⟨zhm ha.p hb.p⟩
theorem zja (ha:QT X a tA)(hb:QW X (.BoolOp .Or (b::rest) pos) tB'):QW X (.BoolOp .Or (a::b::rest) pos) (tOr tA tB'):=⟨zjh ha.p hb.p⟩
theorem QW.pt {t:TT}(h:QW X e t):QT X e t:=⟨h.p.pt⟩
theorem zcy {x:Str}{v:V}{u:Value}(hg:Gl X x)(hm:X.mg x=some u)(r:RelV v u)(hd:(x == ("__debug__":Str))=false:=by decide):QE X (.Name x pos) (tC v):=⟨zfW hg hm r hd⟩
theorem z4M {x:Str}{v:V}{u:Value}(hg:Gl X x)(hm:X.mg x=none)(hv:bootBuiltins x=some u)(r:RelV v u)(hn:x≠"__name__":=by decide)(hd:(x == ("__debug__":Str))=false:=by decide):QE X (.Name x pos) (tC v):=⟨zfZ hg hm hv r hn hd⟩
theorem z9e:QA X [] tNil:=⟨zf3⟩
theorem z5G (ha:QE X e te)(hr:QA X es aa)(hs:starEach (e::es) X.env=(false,eval e X.env)::starEach es X.env:=by rfl):QA X (e::es) (zgK te aa):=⟨zcI ha.p hr.p hs⟩
theorem zjf {CX:CXT}{k:Nat}{ps:List Str}{sp:Sp}{E:XK}{x:Str}{pp:Pos}(C:Cal X.prog X.w X.K X.mg X.base CX k x ps sp)(hr:Room k X.A)(hx:z8I CX X E)(ha:QA X (e::es) aa)(hg:Gl X x:=by rfl)
  (hdb:(x == ("__debug__":Str))=false:=by decide) (he:starEach (e::es) X.env=(false,eval e X.env)::starEach es X.env:=by rfl) (hpl:(backTo pos (starEach es X.env)).any (·.1)=false:=by rfl):QE X (.Call (.Name x pp) (e::es) [] pos) (zfn sp [] E aa):=⟨zjo C hr hx ha.p hg hdb he hpl⟩
theorem z9w {x:Str}{pp:Pos}{id:String}{r:List V->Hp->VK->Prop}(hc:z2w X (.builtin id) r)(hg:Gl X x)(hm:X.mg x=none)(hv:bootBuiltins x=some (.builtin id))(ha:QA X (e::es) aa)(hn:x≠"__name__":=by decide)(hdb:(x == ("__debug__":Str))=false:=by decide)
  (he:starEach (e::es) X.env=(false,eval e X.env)::starEach es X.env:=by rfl) (hpl:(backTo pos (starEach es X.env)).any (·.1)=false:=by rfl):QE X (.Call (.Name x pp) (e::es) [] pos) (tCB r aa):=⟨ze2 hc hg hm hv ha.p hn hdb he hpl⟩
theorem z85 {x:Str}{pp:Pos}{id:String}{r:List V->Hp->VK->Prop}(hc:z2w X (.type id) r)(hg:Gl X x)(hm:X.mg x=none)(hv:bootBuiltins x=some (.type id))(ha:QA X (e::es) aa)(hn:x≠"__name__":=by decide)(hdb:(x == ("__debug__":Str))=false:=by decide)
  (he:starEach (e::es) X.env=(false,eval e X.env)::starEach es X.env:=by rfl) (hpl:(backTo pos (starEach es X.env)).any (·.1)=false:=by rfl):QE X (.Call (.Name x pp) (e::es) [] pos) (tCB r aa):=⟨zcG hc hg hm hv ha.p hn hdb he hpl⟩
theorem zje {r:R2}(hr:IxR X r)(ha:QE X a ta)(hb:QE X b tb)(hs:zb3 b):QE X (.Subscript a b pos) (tOp r ta tb):=⟨zjn hr ha.p hb.p hs⟩
theorem zfL:QO X none zcb:=⟨zfT⟩
theorem zfK (h:QE X e te):QO X (some e) (zgG te):=⟨zfS h.p⟩
theorem zdW {r:V->Option Int->Option Int->Hp->VK->Prop}{lo hi:Option Expr}{tl th:TO}(hr:SlR X r)(he:QE X e te)(hl:QO X lo tl)(hu:QO X hi th):QE X (.Subscript e (.Slice lo hi none p2) pos) (tSl r te tl th):=⟨ze1 hr he.p hl.p hu.p⟩
theorem zfM {x1}(h:QA X es aa):QE X (.Tuple es x1 pos) (zgE aa):=⟨zfV h.p⟩
theorem zhj {T id:String}{name:Str}{apos cpos:Pos}{r:V->List V->Hp->VK->Prop}(pa:PlainAttrs T)(slot:Slot T name id)(hty:typeOf (.builtin id)=pure (.type "method_descriptor"))(hm:MtR X id r)(ho:QE X o te)(ha:QA X (e::es) aa)
  (hbase:attributeBase o name X.env (eval o X.env)=eval o X.env:=by rfl)
  (hfew:((backTo cpos (starEach (e::es) X.env)).all (fun x => !x.1) && (backToKw cpos (keywordEach [] X.env)).all (fun x=>x.1.isSome)
   && decide ((e::es).length+([]:List Keyword).length+(if ([]:List Keyword).isEmpty then 0 else 1) < 30))=true:=by rfl)
  (hline:(apos.endLine == cpos.line)=true:=by rfl) (hs:starEach (e::es) X.env=(false,eval e X.env)::starEach es X.env:=by rfl) (hplain:(backTo cpos (starEach es X.env)).any (·.1)=false:=by rfl):
  QE X (.Call (.Attribute o name apos) (e::es) [] cpos) (tBM X.K T r te aa):=⟨zjp pa slot hty hm ho.p ha.p hbase hfew hline hs hplain⟩
end
section
variable {X:Cx}{st:Stmt}{rest body a b:List Stmt}{t u tb:TS}{e tg c iter:Expr}{te:TE}{tc:TT}{pos:Pos}{g:TG}{wi:TI}{aa:TA}
theorem zfI:QSs X [] zgI:=⟨zfR⟩
theorem zdT (h1:QS X st t)(h2:QSs X rest u):QSs X (st::rest) (tSeq t u):=⟨zdX h1.p h2.p⟩
theorem zfH (h1:QS X st t):QSs X [st] t:=⟨zcz h1.p⟩
theorem zha (he:QE X e te):QS X (.Return (some e) pos) (tRet te):=⟨zhp he.p⟩
theorem zcu (he:QE X e te)(hs:swapsWith e none pos.line X.env=pure false:=by rfl):QS X (.Expr e pos) (zgJ te):=⟨zcA he.p hs⟩
theorem zjb (hc:QT X c tc)(ha:QSs X a t)(hb:QSs X b u):QS X (.If c a b pos) (tIfS tc t u):=⟨zji hc.p ha.p hb.p⟩
theorem zdU (hp:PassesOwn (model X.prog X.w) X.A X.env X.xe)(hc:QT X c tc)(hb:QSs X body tb):QS X (.While c body [] pos) (zeR tc tb):=⟨zdY hp hc.p hb.p⟩
theorem zf0 (hp:PassesOwn (model X.prog X.w) X.A X.env X.xe)(hc:X.calm=true)(hi:QI X tg iter wi)(hg:QG X tg g)(hb:QSs X body tb)
  (hs:∀ x,foldedSetIterable iter X.env x=pure x:=by intro _; rfl):QS X (.For tg iter body [] pos) (tFor wi g tb):=⟨zhr hp hc hi.p hg.p hb.p hs⟩
theorem zcw (he:QE X e te)(hg:QG X tg g)(hs:swapsWithSole [tg] e pos.line X.env=pure false:=by rfl)(hw:swappedStores [tg] e X.env=pure none:=by rfl)
  (h1:(assignEach [tg] X.env).map (·.2)=[assign tg X.env]:=by rfl):QS X (.Assign [tg] e pos) (tAsg te g):=⟨zhs he.p hg.p hs hw h1⟩
theorem z4L:QGs X [] gNil:=⟨zfU⟩
theorem z1o {es:List Expr}{t:TG}{u:TGs}(h1:QG X e t)(h2:QGs X es u)
  (hs:(assignEach (e::es) X.env).map (·.2)=assign e X.env::(assignEach es X.env).map (·.2):=by rfl):QGs X (e::es) (zeu t u):=⟨ze0 h1.p h2.p hs⟩
theorem z6H {es:List Expr}{k:Nat}{t:TGs}{n:Nat}(hc:X.calm=true)(h:QGs X es t)
  (hn:(assignEach es X.env).length=n:=by rfl) (hst:(assignEach es X.env).findIdx? (·.1)=none:=by rfl):QG X (.Tuple es k pos) (gTup X.K n t):=⟨zhu hc h.p hn hst⟩
theorem zad {a:Expr}{p:Pos}(hg:Gl X "range")(hm:X.mg "range"=none)(ha:QA X [a] aa)(hs:starEach [a] X.env=[(false,eval a X.env)]:=by rfl):QI X tg (.Call (.Name "range" p) [a] [] pos) (zis aa):=⟨zcE hg hm ha.p hs⟩
end
end L2
namespace Mth
end Mth
namespace L2
open PySem PySem.Spec PyProof.Rows
theorem eqv2 {a b c d:Int}:PyData.eqv (.tuple [.int a,.int b]) (.tuple [.int c,.int d])=decide (a=c/\b=d):=by
 simp[PyData.eqv,PyData.eqvAll]
 by_cases h1:a=c <;> by_cases h2:b=d <;> simp[h1,h2]
end L2
namespace Mth
noncomputable def g3 (x y b:Int):Int:=((Int.gcd ((Int.gcd b x:Nat):Int) y:Nat):Int)
theorem z7b (x y b:Int):g3 x y b ∣ b:=Int.dvd_trans (Int.gcd_dvd_left _ _) (Int.gcd_dvd_left b x)
theorem zbr (x y b:Int):g3 x y b ∣ x:=Int.dvd_trans (Int.gcd_dvd_left _ _) (Int.gcd_dvd_right b x)
theorem zbq (x y b:Int):g3 x y b ∣ y:=Int.gcd_dvd_right _ _
theorem zas {x y b:Int}(h:0 < b):0 < g3 x y b:=by
 have p:=(Int.gcd_pos_iff (a:=b) (b:=x)).mpr (.inl (by omega))
 have p2:=(Int.gcd_pos_iff (a:=((Int.gcd b x:Nat):Int)) (b:=y)).mpr (.inl (by omega))
 unfold g3
 omega
structure Plc (x y b u v t:Int):Prop where
 pos:1<=t
 cop:Int.gcd ((Int.gcd u v:Nat):Int) t=1
 cx:u*b=x*t
 cy:v*b=y*t
 lu:u.natAbs<=x.natAbs
 lv:v.natAbs<=y.natAbs
 lt:t.natAbs<=b.natAbs
theorem z3u (a b c:Int):Int.gcd ((Int.gcd a b:Nat):Int) c=Nat.gcd (Nat.gcd a.natAbs b.natAbs) c.natAbs:=rfl
theorem zcD {x y b:Int}(h:0 < b):Plc x y b (x / g3 x y b) (y / g3 x y b) (b / g3 x y b):=by
 have hg:=zas (x:=x) (y:=y) h
 have ex:x=g3 x y b*(x / g3 x y b):=(Int.mul_ediv_cancel' (zbr x y b)).symm
 have ey:y=g3 x y b*(y / g3 x y b):=(Int.mul_ediv_cancel' (zbq x y b)).symm
 have eb:b=g3 x y b*(b / g3 x y b):=(Int.mul_ediv_cancel' (z7b x y b)).symm
 have ee:g3 x y b=((Nat.gcd (Nat.gcd b.natAbs x.natAbs) y.natAbs:Nat):Int):=rfl
 refine⟨?_,?_,?_,?_,z0s hg,z0s hg,z0s hg⟩
 ·generalize b / g3 x y b=t at eb
  rcases(show t < 1\/1<=t by omega) with q | q
  ·have:g3 x y b*t<=0:=Int.mul_nonpos_of_nonneg_of_nonpos (by omega) (by omega)
   omega
  ·exact q
 ·rw[z3u]
  generalize hu:x / g3 x y b=u at ex
  generalize hv:y / g3 x y b=v at ey
  generalize ht:b / g3 x y b=t at eb
  have nx:=congrArg Int.natAbs ex
  have ny:=congrArg Int.natAbs ey
  have nb:=congrArg Int.natAbs eb
  rw[Int.natAbs_mul] at nx ny nb
  have ng:(g3 x y b).natAbs=Nat.gcd (Nat.gcd b.natAbs x.natAbs) y.natAbs:=by rw[ee,Int.natAbs_natCast]
  generalize hG:(g3 x y b).natAbs=G at nx ny nb ng
  have hGp:0 < G:=by omega
  rw[nx,ny,nb,Nat.gcd_mul_left,Nat.gcd_mul_left] at ng
  have e1:G*1=G*Nat.gcd (Nat.gcd t.natAbs u.natAbs) v.natAbs:=by rw[Nat.mul_one]; exact ng
  have e2:=Nat.eq_of_mul_eq_mul_left hGp e1
  rw[Nat.gcd_comm (Nat.gcd u.natAbs v.natAbs), <- Nat.gcd_assoc]
  exact e2.symm
 ·have:x / g3 x y b*b=x / g3 x y b*(g3 x y b*(b / g3 x y b)):=congrArg _ eb
  rw[this,Int.mul_left_comm, <- Int.mul_assoc, <- ex]
 ·have:y / g3 x y b*b=y / g3 x y b*(g3 x y b*(b / g3 x y b)):=congrArg _ eb
  rw[this,Int.mul_left_comm, <- Int.mul_assoc, <- ey]
end Mth
namespace L2
open PySem PySem.Spec PyProof.Rows
theorem zhH {K:W.Frag}{h0:Heap}{mg:Str->Option Value}{x:Str}{C:Addr}{bmB:List Value}{newId:String}(X:K.In h0)(hm:mg x=some (.ref C))(q:PySem.W.excIn K C bmB newId=true):OwnCls x C bmB newId mg h0:=by
 refine⟨hm,?_⟩
 unfold PySem.W.excIn at q
 split at q
 ·rename_i dd cd sl ho
  split at q
  ·rename_i C' bm k0 k1 k2 k3 n k5 hm hs
   simp only[Bool.and_eq_true,beq_iff_eq,Bool.not_eq_true'] at q
   obtain⟨⟨⟨⟨⟨rfl,rfl⟩,hdel⟩,ht⟩,hok⟩,hni⟩:=q
   obtain⟨nm,bs,mro,ns,qn,hd,sn,sub,ab,col,del⟩:=cd
   dsimp only at hm hdel hok hni
   subst hm hdel
   have hsl:sl = #[k0,k1,k2,k3,some (.builtin n),k5]:=by
    obtain⟨l⟩:=sl
    simp only at hs
    rw[hs]
   subst hsl
   exact⟨bm,ns,nm,qn,bs,hd,sn,sub,ab,col,dd,k0,k1,k2,k3,k5,_,X _ _ ho,.of_isNs (PySem.W.isNs_of_in X hok),PySem.W.nsMap_none_of_in X hok hni,PySem.W.tail_of_in X ht⟩
  ·cases q
 ·cases q
structure Fly (P:Program)(w:World)(outer:List Env)(H:Hp)(h0:Heap)(Cv:Value)(H':Hp)(ea t:Addr)(B h:Heap):Prop where
 fl:Heap.FlyingW B outer ea Cv (.ref t) h
 un:Un (frs outer) [] H H' h0 h
 hok:HOk P w H' h
 trk:∀ b o,H' b=some o->∃ ob,B.get? b=some ob
 kep:∀ b o,h0.get? b=some o->b ∉ frs outer->∃ ob,B.get? b=some ob
noncomputable def CXe (P:Program)(w:World):CXT:=fun outer H s E e s'=>∃ (ea t:Addr) (Cv:Value) (H':Hp) (B:Heap),e = .ref ea/\Fly P w outer H s.heap Cv H' ea t B s'.heap/\AllBare s'.gens/\s'.os=s.os/\E Cv none H'
section
variable {P:Program}{w:World}{outer:List Env}{H H':Hp}{h0 h h2:Heap}{Cv:Value}{ea t:Addr}{B:Heap}
theorem z2S.there {a:Addr}{o:HO}(x:z2S P w H h a o):∃ ob,h.get? a=some ob:=by
 cases o with
 | lst xs=>obtain⟨_,_,_,_,e⟩:=x; exact⟨_,e⟩
 | tup xs=>obtain⟨_,_,_,ob,e,_⟩:=x; exact⟨_,e⟩
 | dK kvs=>obtain⟨_,_,_,_,o,_,_,e,_⟩:=x; exact⟨_,e⟩
 | dT kvs=>obtain⟨_,_,_,_,o,_,_,e,_⟩:=x; exact⟨_,e⟩
 | set S n=>obtain⟨o,_,_,_,e,_⟩:=x; exact⟨_,e⟩
 | ins C dx fs=>obtain⟨_,_,_,e,_⟩:=x; exact⟨_,e⟩
 | own y=>obtain⟨_,e⟩:=x; exact⟨_,e⟩
 | xd fs=>obtain⟨_,⟨_,_,_,e,_⟩,_⟩:=x; exact⟨_,e⟩
 | rng lo hi=>obtain⟨_,_,_,e⟩:=x; exact⟨_,e⟩
 | frz ob u=>obtain⟨e,_⟩:=x; exact⟨_,e⟩
 | tbl ps=>exact⟨_,(show h.get? a=some _ from x)⟩
 | met f y=>exact⟨_,(show h.get? a=some _ from x)⟩
 | ext φ=>obtain⟨_,⟨_,e⟩,_⟩:=x; exact⟨_,e⟩
theorem HOk.over (ok:HOk P w H' h)(trk:∀ b o,H' b=some o->∃ ob,B.get? b=some ob)(k1:B.StaysIn h)(k2:B.StaysIn h2):HOk P w H' h2:=fun a o e=>
 (ok a o e).stay (fun b u hb q=>by
  have hb':∃ o',H' b=some o':=by
   rcases hb with z | z
   ·exact⟨o,by rw[z]; exact e⟩
   ·exact⟨_,z⟩
  obtain⟨o',hb'⟩:=hb'
  obtain⟨ob,z⟩:=trk b o' hb'
  have z1:=k1 b ob z
  rw[q] at z1
  cases z1
  exact k2 b u z) (fun _ q=>q) fun _ _ q=>q
theorem Fly.free (x:Fly P w outer H h0 Cv H' ea t B h):H' ea=none:=by
 cases q:H' ea with
 | none=>rfl
 | some o=>
  obtain⟨ob,z⟩:=x.trk ea o q
  have:=x.fl.2.1
  rw[z] at this
  cases this
theorem Fly.on (x:Fly P w outer H h0 Cv H' ea t B h)(f:B.StaysIn h2)(sm:h.UpToSlots h2):Un (frs outer) [] H H' h0 h2/\HOk P w H' h2:=by
 have fr:∀ b∈frs outer,∃ o,h.get? b=some o/\∀ vs,o.data ≠ .fields vs:=fun b hb=>(x.fl.2.2.1.mem hb).2
 refine⟨⟨fun b o e n hb hx => ?_,fun b o e n hb hx => ?_,x.un.free,fun b o e hx => ?_,x.un.tups,x.un.frzs,x.un.tbls⟩,x.hok.over x.trk x.fl.1 f⟩
 ·obtain⟨ob,z⟩:=x.kep b o e hb
  have z1:=x.fl.1 b ob z
  rw[x.un.keep b o e n hb hx] at z1
  cases z1
  exact f b _ z
 ·obtain⟨sl,z⟩:=x.un.slot b o e n hb hx
  obtain⟨o',z',d⟩:=fr b hb
  rw[z] at z'
  cases z'
  obtain⟨sl',z2⟩:=sm b _ z d
  exact⟨sl',z2⟩
 ·by_cases hb:b∈frs outer
  ·obtain⟨o',z',d⟩:=fr b hb
   obtain⟨sl',z2⟩:=sm b _ z' d
   exact⟨_,z2⟩
  ·obtain⟨ob,z⟩:=x.kep b o e hb
   exact⟨ob,f b ob z⟩
end
section
variable {P:Program}{w:World}{K:W.Frag}{mg:Str->Option Value}{base:Heap}{N:List Str}{qual:Str}{sc:Scope}{f:Addr}{cdv:Value}{A:Around}{outer:List Env}{s:Shared}{H:Hp}{E:XK}
theorem zaQ:z8I (CXe P w) ((cxOf (CXe P w) P w K mg base N qual sc f cdv A outer s H E).wish (cxOf (CXe P w) P w K mg base N qual sc f cdv A outer s H E).xe) E:=by
 intro pins σ H1 s1 e s' I hx
 obtain⟨ea,t,Cv,H',B,rfl,F,hb,ho,q⟩:=hx
 show wpAny (model P w) _ (leaving _ (.ref ea)) _ _ s'
 have hfr:=I.ok.frames
 refine wpAny_leaves_onW hfr rfl F.fl fun h2 hfl2 sm => ?_
 obtain⟨un2,hok2⟩:=F.on hfl2.1 sm
 have u1:Un (frs outer) [] H H1 s.heap s1.heap:=I.base
 have sz:∀ b o,s.heap.get? b=some o->b≠s.heap.objs.size:=fun b o e=>Nat.ne_of_lt (Heap.lt_size e)
 have nin:∀ b o,s.heap.get? b=some o->b ∉ frs outer->b ∉ frs (envOfC qual sc s.heap.objs.size f cdv::outer):=fun b o e hb z=>by
  rcases List.mem_cons.mp (I.stkSub b z) with y | y
  ·exact sz b o e y
  ·exact hb y
 refine⟨ea,t,Cv,H',B,rfl,⟨hfl2,⟨fun b o e n hb _ => ?_,fun b o e n hb _ => ?_,fun b o e n _ => ?_,fun b o e _ => ?_,fun b xs e=>un2.tups b xs (u1.tups b xs e),fun b o u e=>un2.frzs b o u (u1.frzs b o u e),fun b ps e => ?_⟩,hok2,F.trk,fun b o e hb => ?_⟩,hb,ho.trans I.os,q⟩
 ·exact un2.keep b o (u1.keep b o e n hb (by simp)) (u1.free b o e n (by simp)) (nin b o e hb) (by simp)
 ·obtain⟨sl,z⟩:=u1.slot b o e n hb (by simp)
  obtain⟨sl2,z2⟩:=un2.any z (u1.free b o e n (by simp)) (by simp)
  exact⟨sl2,z2⟩
 ·obtain⟨o',z⟩:=u1.there b o e (by simp)
  exact un2.free b o' z (u1.free b o e n (by simp)) (by simp)
 ·obtain⟨o',z⟩:=u1.there b o e (by simp)
  exact un2.there b o' z (by simp)
 ·obtain⟨m1,e1⟩:=u1.tbls b ps e
  obtain⟨m2,e2⟩:=un2.tbls b _ e1
  exact⟨m1++m2,by rw[e2,Array.append_assoc]⟩
 ·obtain⟨o',z⟩:=u1.there b o e (by simp)
  exact F.kep b o' z (nin b o e hb)
end
section
variable {P:Program}{w:World}{K:W.Frag}{mg:Str->Option Value}{base:Heap}{N:List Str}{qual:Str}{sc:Scope}{f:Addr}{cdv:Value}{A:Around}{outer:List Env}{s:Shared}{H:Hp}{E:XK}
structure Exc (K:W.Frag)(mg:Str->Option Value)(x:Str)(C:Addr):Prop where
 nm:mg x=some (.ref C)
 ok:∃ newId initId bm,ExcBaseFacts "ValueError" newId initId bm/\PySem.W.excIn K C bm newId=true
noncomputable def zgF (E:XK)(C:Addr):TS:=fun _ _ H=>E (.ref C) none H
theorem zdV {x:Str}{C:Addr}{m:Str}{np cpos pos p2:Pos}{j}(T:Exc K mg x C)(hg:Gl ((cxOf (CXe P w) P w K mg base N qual sc f cdv A outer s H E).wish (cxOf (CXe P w) P w K mg base N qual sc f cdv A outer s H E).xe) x)(hdb:(x == ("__debug__":Str))=false:=by decide):
  QS ((cxOf (CXe P w) P w K mg base N qual sc f cdv A outer s H E).wish (cxOf (CXe P w) P w K mg base N qual sc f cdv A outer s H E).xe) (.Raise (some (.Call (.Name x np) [.Constant (.str m) j p2] [] cpos)) none pos) (zgF E C):=by
 constructor
 intro pins s1 σ H1 D I q
 obtain⟨newId,initId,bmB,FB,hex⟩:=T.ok
 obtain⟨bm,Nn,nm,qn,bs,hdct,sn,sub,ab,col,dd,k0,k1,k2,k3,k5,mN,hC,hN,hni,TT⟩:=(zhH I.mod.kin T.nm hex).obj
 refine wpAny_Raise_call_subT (C:=C) (nm:=nm) (q:=qn) (N:=Nn) (bs:=bs) (bm:=bm) (hdct:=hdct) (sn:=sn) (sub:=sub) (ab:=ab) (col:=col) (dd:=dd) (k0:=k0) (k1:=k1) (k2:=k2) (k3:=k3) (k5:=k5) FB (mN:=mN) (TT.hasType FB.hasBase) (I.ok.hd rfl) rfl hni (z8c I hg T.nm ⟨rfl,?_⟩ hdb)
 refine Calls.evalArgs_plain (wpAny_mono ((zcI zhx zf3) cpos pins s1 σ H1 (fun vs H2=>vs=[V.str m]/\H2=H1) I ⟨rfl,rfl⟩) (fun us s2 h2 => ?_) fun _ _ y=>y)
 obtain⟨vs,H2,I2,rv,rfl,rfl⟩:=h2
 obtain⟨u,rfl,_⟩:=z9n rv
 refine⟨rfl,(by show 1<=sizeLine; decide),I2.bk _ _ hC,hN.keeps I2.bk,TT.keeps I2.bk,fun h' e hx => ?_⟩
 show wpAny (model P w) _ (leaving _ (.ref e)) _ _ _
 have fin:∀ env∈(envOfC qual sc s.heap.objs.size f cdv::outer),∀ b,env.frame=some b->b∈frs (envOfC qual sc s.heap.objs.size f cdv::outer):=fun env he b hb=>List.mem_filterMap.mpr ⟨env,he,hb⟩
 refine wpAny_leaves_madeW (base:=PySem.W.hideAll s2.heap (frs (envOfC qual sc s.heap.objs.size f cdv::outer))) (h:=s2.heap) I2.ok.frames rfl (fun b o q=>PySem.W.of_hideAll _ q) (PySem.W.funFrames_hide I2.stack fin) hx fun h2 t x1 x2 x3 x4 => ?_
 have u1:Un (frs outer) [] H H2 s.heap s2.heap:=I2.base
 have sz:∀ b o,s.heap.get? b=some o->b≠s.heap.objs.size:=fun b o e=>Nat.ne_of_lt (Heap.lt_size e)
 have nin:∀ b o,s.heap.get? b=some o->b ∉ frs outer->b ∉ frs (envOfC qual sc s.heap.objs.size f cdv::outer):=fun b o e hb z=>by
  rcases List.mem_cons.mp (I2.stkSub b z) with y | y
  ·exact sz b o e y
  ·exact hb y
 have inB:∀ b o,s2.heap.get? b=some o->b ∉ frs (envOfC qual sc s.heap.objs.size f cdv::outer)->(PySem.W.hideAll s2.heap (frs (envOfC qual sc s.heap.objs.size f cdv::outer))).get? b=some o:=fun b o e hb=>PySem.W.hideAll_get _ e hb
 have trk:∀ b o,H2 b=some o->∃ ob,(PySem.W.hideAll s2.heap (frs (envOfC qual sc s.heap.objs.size f cdv::outer))).get? b=some ob:=fun b o e=>by
  obtain⟨ob,z⟩:=(I2.hok b o e).there
  refine⟨ob,inB b ob z fun y => ?_⟩
  rw[I2.stkFree b y] at e
  cases e
 have stay:=x1.1
 have hok2:HOk P w H2 h2:=I2.hok.over trk (fun b o q=>PySem.W.of_hideAll _ q) stay
 have fr:∀ b∈frs outer,∃ o,s2.heap.get? b=some o/\∀ vs,o.data ≠ .fields vs:=fun b hb=>(I2.stack.mem (List.mem_cons_of_mem _ hb)).2
 have up:s2.heap.UpToSlots h2:=(Heap.UpToSlots.of_keeps hx.keeps).trans x4
 refine⟨e,t,.ref C,H2,_,rfl,⟨x1,⟨fun b o e n hb _ => ?_,fun b o e n hb _ => ?_,u1.free,fun b o e _ => ?_,u1.tups,u1.frzs,u1.tbls⟩,hok2,trk,fun b o e hb => ?_⟩,I2.bare,I2.os,q⟩
 ·exact stay b o (inB b o (u1.keep b o e n hb (by simp)) (nin b o e hb))
 ·obtain⟨sl,z⟩:=u1.slot b o e n hb (by simp)
  obtain⟨o',z',d⟩:=fr b hb
  rw[z] at z'
  cases z'
  obtain⟨sl',z2⟩:=up b _ z d
  exact⟨sl',z2⟩
 ·obtain⟨o',z⟩:=u1.there b o e (by simp)
  by_cases hb:b∈frs outer
  ·obtain⟨o2,z',d⟩:=fr b hb
   obtain⟨sl',z2⟩:=up b _ z' d
   exact⟨_,z2⟩
  ·exact⟨o',stay b o' (inB b o' z (nin b o e hb))⟩
 ·obtain⟨o',z⟩:=u1.there b o e (by simp)
  exact⟨o',inB b o' z (nin b o e hb)⟩
theorem Fun.okE {x:Str}{st:Stmt}{fd:FuncData}{ps:List Str}{k:Nat}{sp:Sp}(F:Fun K x qual st f fd)(S:z0z N ps (z01 st))(len:∀ vs H Q E,sp vs H Q E->vs.length=ps.length)
  (hbody:∀ (cdv:Value) (A:Around) (outer:List Env) (s:Shared) (H:Hp) (vs:List V) (Q:VK) (E:XK),Room k (A.deeper (envOfC qual (z01 st) s.heap.objs.size f cdv))->sp vs H Q E->
   ∃ t,QSs ((cxOf (CXe P w) P w K mg base N qual (z01 st) f cdv A outer s H E).wish (cxOf (CXe P w) P w K mg base N qual (z01 st) f cdv A outer s H E).xe) (z3k st) t/\t { nx:=fun _ H'=>Q .non H',rt:=Q } (z7J N vs) H):FnOk P w K mg base (CXe P w) (k+1) f fd ps sp:=by
 obtain⟨oc,od,kV,doc,pm,an,cdv,ct,osl,rfl,lk,hcd⟩:=F.ex
 refine ziu lk hcd S len fun A outer s H vs Q E hr hsp => ?_
 obtain⟨t,h,q⟩:=hbody cdv A outer s H vs Q E hr hsp
 exact⟨t,h.p,q⟩
theorem Fun.okN {x:Str}{st:Stmt}{fd:FuncData}{ps:List Str}{k:Nat}{sp:Sp}(F:Fun K x qual st f fd)(S:z0z N ps (z01 st))(len:∀ vs H Q E,sp vs H Q E->vs.length=ps.length)
  (hbody:∀ (cdv:Value) (A:Around) (outer:List Env) (s:Shared) (H:Hp) (vs:List V) (Q:VK) (E:XK),Room k (A.deeper (envOfC qual (z01 st) s.heap.objs.size f cdv))->sp vs H Q E->
   ∃ t,QSs ((cxOf (CXe P w) P w K mg base N qual (z01 st) f cdv A outer s H E).wish fun _ _=>False) (z3k st) t/\t { nx:=fun _ H'=>Q .non H',rt:=Q } (z7J N vs) H):FnOk P w K mg base (CXe P w) (k+1) f fd ps sp:=by
 obtain⟨oc,od,kV,doc,pm,an,cdv,ct,osl,rfl,lk,hcd⟩:=F.ex
 refine ziu lk hcd S len fun A outer s H vs Q E hr hsp => ?_
 obtain⟨t,h,q⟩:=hbody cdv A outer s H vs Q E hr hsp
 exact⟨t,h.p.nox,q⟩
theorem z0b {X:Cx}:z8I (CXe P w) X E0:=fun _ _ _ _ _ _ _ ⟨_,_,_,_,_,_,_,_,_,q⟩=>q.elim
end
end L2
namespace L2
open PySem PySem.Spec PyProof.Rows
@[reducible] noncomputable def Cx.suite (X:Cx)(ea:Addr):Cx:={ X with A:=X.A.mark (some (.ref ea)),calm:=false,xe:=fun _ _=>False }
@[reducible] noncomputable def Cx.within (X:Cx)(pins:List (Addr × Obj))(xe:Value->Shared->Prop):Cx:={ X with pn:=X.pn++pins,xe:=xe }
section
variable {X:Cx}{pins:List (Addr × Obj)}{σ:St}{H:Hp}{s:Shared}{ea:Addr}{xe:Value->Shared->Prop}
theorem Cx.Ok.suite (o:X.Ok):(X.suite ea).Ok:=⟨o.mod,o.kind,o.glob,o.blt,o.above,o.inj,o.has,o.cab,(fun z=>by cases z),o.frames,o.stk,o.exf,o.bs,o.bsz,o.noex,o.exfs,o.funs,o.frf⟩
theorem Cx.Ok.within (o:X.Ok):(X.within pins xe).Ok:=⟨o.mod,o.kind,o.glob,o.blt,o.above,o.inj,o.has,o.cab,o.hd,o.frames,o.stk,o.exf,o.bs,o.bsz,o.noex,o.exfs,o.funs,o.frf⟩
theorem Inv.suite (I:Inv X pins σ H s):Inv (X.suite ea) pins σ H s:=⟨I.ok.suite,I.os,I.bare,I.base,I.loc,I.cell,I.free,I.freeC,I.pin,I.hok,I.len⟩
theorem Inv.within (I:Inv X pins σ H s):Inv (X.within pins xe) [] σ H s:=⟨I.ok.within,I.os,I.bare,I.base,I.loc,I.cell,I.free,I.freeC,(fun p hp=>I.pin p (by simpa using hp)),I.hok,I.len⟩
theorem Inv.out {pins':List (Addr × Obj)}(ok:X.Ok)(I:Inv (X.within pins xe) pins' σ H s):Inv X pins σ H s:=⟨ok,I.os,I.bare,I.base,I.loc,I.cell,I.free,I.freeC,(fun p hp=>I.pin p (List.mem_append_left _ hp)),I.hok,I.len⟩
theorem SP.out {pins':List (Addr × Obj)}(ok:X.Ok){D:Ends}{f:Flow}(h:SP (X.within pins xe) pins' D f s):SP X pins D f s:=by
 cases f with
 | next=>obtain⟨σ',H',I,q⟩:=h; exact⟨σ',H',I.out ok,q⟩
 | brk=>obtain⟨σ',H',I,q⟩:=h; exact⟨σ',H',I.out ok,q⟩
 | cont=>obtain⟨σ',H',I,q⟩:=h; exact⟨σ',H',I.out ok,q⟩
 | ret u=>obtain⟨v,σ',H',I,r,q⟩:=h; exact⟨v,σ',H',I.out ok,r,q⟩
theorem Inv.unsuite (ok:X.Ok)(I:Inv (X.suite ea) pins σ H s):Inv X pins σ H s:=⟨ok,I.os,I.bare,I.base,I.loc,I.cell,I.free,I.freeC,I.pin,I.hok,I.len⟩
theorem SP.unsuite (ok:X.Ok){D:Ends}{f:Flow}(h:SP (X.suite ea) pins D f s):SP X pins D f s:=by
 cases f with
 | next=>obtain⟨σ',H',I,q⟩:=h; exact⟨σ',H',I.unsuite ok,q⟩
 | brk=>obtain⟨σ',H',I,q⟩:=h; exact⟨σ',H',I.unsuite ok,q⟩
 | cont=>obtain⟨σ',H',I,q⟩:=h; exact⟨σ',H',I.unsuite ok,q⟩
 | ret u=>obtain⟨v,σ',H',I,r,q⟩:=h; exact⟨v,σ',H',I.unsuite ok,r,q⟩
end
section
variable {X:Cx}{k:Nat}{ps:List Str}{sp:Sp}{x g cx:Str}{e:Expr}{es:List Expr}{ta:TA}{C2:Addr}{b0:Stmt}{suite:List Stmt}{ts:TS}{p1 p2 p3 p4 p5 p6 pos:Pos}
theorem zh9 {i:Nat}{x:Str}{e:Expr}{te:TE}{p1 pos:Pos}(hN:X.N.Nodup)(hi:X.N[i]? = some x)(hx:Loc X.env.scope x)(he:QE X e te)(hs:swapsWith e (some (.Name x p1)) pos.line X.env=pure false:=by rfl)(hf:X.fn x=true\/X.env.scope.names.lookup x=some .local:=by first | exact .inl rfl | exact .inr rfl | assumption):
  QS X (.Assign [.Name x p1] e pos) (tAsg te (z6z i)):=⟨zf1 hN hi hx he.p hs hf⟩
end
end L2
namespace L2
open PySem PySem.Spec PyProof.Rows
noncomputable def z2P (K:W.Frag)(C:Addr):Bool:=
 (PySem.W.findIn K (.ref C) "__getattribute__" == some (some (.builtin "BaseException.__getattribute__"))) && ((PySem.W.findIn K (.ref C) "__getattr__").isSome) &&
 (PySem.W.findIn K (.ref C) "__class__" == some (some (.builtin "object.__class__"))) && (PySem.W.subIn K (.ref C) (.type "BaseException") == some true) && (PySem.W.subIn K (.ref C) (.type "object") == some true) && (PySem.W.clsIn K C).isSome
noncomputable def z5z (a C:Addr)(h:Heap):Prop:=∃ o,h.get? a=some o/\o.cls = .ref C/\∃ vs,o.data = .fields vs
theorem z5z.ty {M:Model}{a C:Addr}{h:Heap}(x:z5z a C h):PySem.W.Looks M h (typeOf (.ref a)) (.ref C):=by
 obtain⟨o,h1,h2,_⟩:=x
 rw[<- h2]
 exact(PySem.W.Looks.ld h1).andThen .now
theorem zbS {K:W.Frag}{M:Model}{C:Addr}{h:Heap}(X:K.In h)(e:(PySem.W.clsIn K C).isSome=true):PySem.W.Looks M h (isType (.ref C)) true:=by
 obtain⟨cd,hc⟩:=Option.isSome_iff_exists.mp e
 unfold PySem.W.clsIn at hc
 split at hc
 ·rename_i c' d' cd' sl' ho
  intro A' Q' E' s' k q
  unfold isType loadHead
  exact wpAny_bind (wpAny_loadPart (k _ _ (X _ _ ho)) (wpAny_pure q))
 ·cases hc
section
open PySem.W
variable {prog:Program}{w:World}{A:Around}{E:Value->Shared->Prop}{s:Shared}{K:W.Frag}{a C:Addr}
theorem zey {tp:Value}{R:Result->Shared->Prop}(X:K.In s.heap)(x:z5z a C s.heap)(hm:PySem.W.subIn K (.ref C) (.type "object")=some true)(h:R (.ok (.ret (.ref C))) s):
  codeAny (model prog w) A (.call (.builtin "getset_descriptor.__get__") ⟨[.builtin "object.__class__",.ref a,tp],[]⟩) R s:=by
 obtain⟨hh,g,dr,t,os⟩:=s
 have L0:=x.ty (M:=model prog w)
 have L1:=looks_subIn (M:=model prog w) X hm
 refine codeAny_call_builtin KF.slot_gs.plain KF.entry_gs (KF.slot_gs.check _ _ _ _ _ _ _ _ KF.type_class (KF.args_gs _ _ _) ?_)
 unfold Builtin.«getset_descriptor.__get__» Builtin.Getset_descriptor.descrGet
 rw[dga_obj]
 refine wpAny_bind (wpAny_pure ?_)
 unfold Builtin.Getset_descriptor.descrGetter Builtin.Getset_descriptor.descrCheckInstance Builtin.Getset_descriptor.descrNameAndClass isInstance
 simp only[KF.owner_class]
 repeat lk
 refine⟨Code.quiet_builtin _ (by decide +kernel),codeAny_builtin KF.entry_class ?_⟩
 unfold Builtin.«object.__class__» shownTypeOf
 repeat lk
 exact h
end
end L2
namespace L2
open PySem PySem.Spec PyProof.Rows
section
open PySem.W
variable {prog:Program}{w:World}{A:Around}{E:Value->Shared->Prop}{s:Shared}{K:W.Frag}{a C:Addr}
theorem zix {tk:Tok}{Q:Fin->Shared->Prop}(X:K.In s.heap)(x:z5z a C s.heap)(hm:PySem.W.subIn K (.ref C) (.type "object")=some true)(ha:PySem.W.findIn K (.ref C) "__class__"=some (some (.builtin "object.__class__")))
  (h:Q (.done (.ret (.ref C))) s):wpAny (model prog w) A (Builtin.«object.__getattribute__» ⟨[.ref a,.str "__class__" tk],[]⟩) Q E s:=by
 obtain⟨hh,g,dr,t,os⟩:=s
 have L0:=x.ty (M:=model prog w)
 have L1:=looks_findIn (M:=model prog w) X ha
 have f5:=F.typeOf_object_class
 have f6:=F.slot_gs_get.lookup
 have f7:=F.slot_gs_set.lookup
 have hT5:(⟨hh,g,dr,t,os⟩:Shared).TypeIs (.builtin "object.__class__") "getset_descriptor":=F.typeOf_object_class
 repeat (any_goals (first | assumption | with_reducible refine Looks.at L0 ?_ | with_reducible refine Looks.at L1 ?_ | wp_step))
 refine zey X x hm ?_
 repeat (any_goals (first | assumption | wp_step))
theorem zdd {Q:Option Value->Shared->Prop}(hL:z2P K C=true)(X:K.In s.heap)(x:z5z a C s.heap)(h:Q (some (.ref C)) { s with toks:=s.toks+1 }):wpAny (model prog w) A (getAttr? (.ref a) "__class__") Q E s:=by
 unfold z2P at hL
 simp only[Bool.and_eq_true,beq_iff_eq] at hL
 obtain⟨⟨⟨⟨⟨h1,h2⟩,h3⟩,h4⟩,h5⟩,h6⟩:=hL
 obtain⟨r2,h2⟩:=Option.isSome_iff_exists.mp h2
 obtain⟨hh,g,dr,t,os⟩:=s
 have L0:=x.ty (M:=model prog w)
 have L1:=looks_findIn (M:=model prog w) X h1
 have L2':=looks_findIn (M:=model prog w) X h2
 unfold getAttr? getAttrBy? getAttrBy
 refine wpAny_bind (wpAny_mkText (wpAny_bind (wpAny_attempt (wpAny_holding (wpAny_bind (L0.at (wpAny_bind (L1.at ?_))))))))
 dsimp only
 rw[show (onTheHeap (Value.ref C) && Value.builtin "BaseException.__getattribute__" == Value.builtin "object.__getattribute__")=false from by rw[show (Value.builtin "BaseException.__getattribute__" == Value.builtin "object.__getattribute__")=false from by decide +kernel,Bool.and_false],if_neg (by decide)]
 unfold getAttrByItsOwn hookBefore
 refine wpAny_bind (L2'.at (wpAny_bind (wpAny_attempt (wpAny_holding ?_))))
 unfold callGetattribute
 rw[show (false && onTheHeap (Value.builtin "BaseException.__getattribute__"))=false from rfl,if_neg (by decide)]
 unfold boundAndCalled
 rw[F.attrBase_ValueError.ga.bind]
 refine wpAny_bind (wpAny_pure ?_)
 show wpAny _ _ (call (.builtin "BaseException.__getattribute__") [.ref a,.str "__class__" t]) _ _ _
 refine wpAny_call ?_
 refine codeAny_call_builtin F.attrBase_ValueError.ga.plain F.entry_bexc_ga ?_
 refine @check_slot (model prog w) _ _ ⟨hh,g,dr,t+1,os⟩ "BaseException.__getattribute__" "BaseException" "__getattribute__" (.ref a) [.str "__class__" t] [] _ (by decide +kernel) (by decide +kernel) (L0.andThen (looks_subIn X h4)) (F.args_bexc_ga (.ref a) (.str "__class__" t)) ?_
 refine zix (s:=⟨hh,g,dr,t+1,os⟩) X x h5 h3 ?_
 exact wpAny_pure (wpAny_pure h)
theorem z9H (hL:z2P K C=true):KitX K (.ref a) (.ref C) (z5z a C) where
 ty:=fun _ _ _ x=>x.ty
 it:=fun _ _ X _=>zbS X (by
  unfold z2P at hL
  simp only[Bool.and_eq_true] at hL
  exact hL.2)
 ne:=fun h tp dd its n sl X htp=>by
  unfold z2P at hL
  simp only[Bool.and_eq_true] at hL
  obtain⟨cd,hc⟩:=Option.isSome_iff_exists.mp hL.2
  refine Bool.eq_false_iff.mpr fun q => ?_
  have e:C=tp:=Value.ref.inj (beq_iff_eq.mp q)
  subst e
  unfold clsIn at hc
  split at hc
  ·rename_i c' d' cd' sl' ho
   have z:=(X _ _ ho).symm.trans htp
   cases z
  ·cases hc
 ca:=fun X x k=>zdd hL X x k
end
end L2
namespace L2
open PySem PySem.Spec PyProof.Rows
section
variable {X:Cx}
theorem z9Y:∀ (cs:List Addr) {us:List Value},Vals (cs.map V.ref) us->us=cs.map Value.ref
 | [],_,r=>by cases r; rfl
 | c::cs,_,r=>by
  cases r with
  | cons r1 r2=>
   rw[z9Y cs r2]
   cases (show _=Value.ref c from r1)
   rfl
noncomputable def zj6 (K:W.Frag):List V->Hp->VK->Prop:=fun xs H Q=>∃ (ea C:Addr) (y:V) (b:Bool),xs=[.ref ea,y]/\H ea=some (.ext (z5z ea C))/\z2P K C=true/\
 ((∃ C2,y = .ref C2/\PySem.W.kitOne K (.ref C) (.ref C2)=some b)\/(∃ T,y = .ty T/\PySem.W.kitOne K (.ref C) (.type T)=some b)\/(∃ (tp:Addr) (cs:List Addr),y = .ref tp/\SqT K H tp (cs.map V.ref)/\PySem.W.kitAny K (.ref C) (cs.map Value.ref)=some b))/\Q (.bl b) H
theorem zds:z2w X (.builtin "isinstance") (zj6 X.K):=by
 intro pins s σ H xs us Q I r h
 obtain⟨ea,C,y,b,rfl,he,hL,hy,q⟩:=h
 obtain⟨u,v,rfl,rx,ry⟩:=zfh r
 cases (show u=Value.ref ea from rx)
 have hx:z5z ea C s.heap:=(show z2S X.prog X.w H s.heap ea (.ext (z5z ea C)) from I.hok ea _ he).1
 have fin:∀ tk,∃ w H',Inv X pins σ H' { s with toks:=tk }/\RelV w (Value.bool b)/\Q w H':=fun tk=>⟨.bl b,H,I.tok tk,rfl,q⟩
 rcases hy with ⟨C2,rfl,e⟩ | ⟨T,rfl,e⟩ | ⟨tp,cs,rfl,hs,e⟩
 ·cases (show v=Value.ref C2 from ry)
  exact PySem.W.kia_one (z9H hL) I.kIn hx e (fun z=>nomatch z) fin
 ·cases (show v=Value.type T from ry)
  exact PySem.W.kia_one (z9H hL) I.kIn hx e (fun z=>nomatch z) fin
 ·cases (show v=Value.ref tp from ry)
  obtain⟨its,hv,⟨o,e1,hc,n,hd⟩,_⟩:=I.tuple hs
  cases z9Y cs hv
  obtain⟨oc,od,odt,osl⟩:=o
  dsimp only at hc hd
  subst hc hd
  exact PySem.W.kia_tup (z9H hL) I.kIn hx e1 e (fun z=>nomatch z) fin
end
theorem zfi {fs:List Addr}{H1 H2:Hp}{h1 h2:Heap}{a:Addr}{o:HO}(u:Un fs [] H1 H2 h1 h2)(hn:h1.get? a=none)(h0:H2 a=none):Un fs [] H1 (upd H2 a o) h1 h2:=by
 have ne:∀ b ob,h1.get? b=some ob->b≠a:=fun b ob e z=>by rw[z,hn] at e; cases e
 have nt:∀ b x,H2 b=some x->b≠a:=fun b x e z=>by rw[z,h0] at e; cases e
 refine⟨u.keep,u.slot,fun b ob e n hx => ?_,u.there,fun b xs e => ?_,fun b ob v e => ?_,fun b ps e => ?_⟩
 ·rw[z0q (ne b ob e)]; exact u.free b ob e n hx
 ·have:=u.tups b xs e; rw[z0q (nt b _ this)]; exact this
 ·have:=u.frzs b ob v e; rw[z0q (nt b _ this)]; exact this
 ·obtain⟨m,z⟩:=u.tbls b ps e
  exact⟨m,by rw[z0q (nt b _ z)]; exact z⟩
theorem zeo {P:Program}{w:World}{H:Hp}{h:Heap}{a C:Addr}(k:HOk P w H h)(h0:H a=none)(x:z5z a C h):HOk P w (upd H a (.ext (z5z a C))) h:=fun b u e=>by
 by_cases hb:b=a
 ·subst hb
  rw[z0U] at e
  cases e
  refine⟨x,⟨_,x.choose_spec.1⟩,fun h1 h2 y z => ?_⟩
  obtain⟨o,e1,e2⟩:=y
  exact⟨o,z o e1,e2⟩
 ·rw[z0q hb] at e
  exact(k b u e).stay (fun _ _ _ q=>q) (fun c q=>by rw[z0q (z0R q h0)]; exact q) fun c xs q=>by rw[z0q (z0R q h0)]; exact q
theorem zdJ {H:Hp}{a:Addr}{o:HO}(h:H a=none):Same H (upd H a o):=fun b u e=>by rw[z0q (fun z=>by rw[z,h] at e; cases e)]; exact e
theorem Fly.out {P:Program}{w:World}{outer:List Env}{H H':Hp}{h0 h:Heap}{Cv:Value}{ea t:Addr}{B:Heap}(x:Fly P w outer H h0 Cv H' ea t B h):h0.get? ea=none:=by
 cases q:h0.get? ea with
 | none=>rfl
 | some o=>
  exfalso
  by_cases hb:ea∈frs outer
  ·obtain⟨o',z,d⟩:=(x.fl.2.2.1.mem hb).2
   obtain⟨oe,vs,he,_,hd,_⟩:=x.fl.first
   rw[he] at z
   cases z
   exact d vs hd
  ·obtain⟨ob,z⟩:=x.kep ea o q hb
   rw[x.fl.2.1] at z
   cases z
theorem z9M {X:Cx}{pins:List (Addr × Obj)}{σ:St}{H:Hp}{s:Shared}{M:Model}{A:Around}{E:Value->Shared->Prop}{i:Nat}{x:Str}{pos:Pos}{Q:Unit->Shared->Prop}(I:Inv X pins σ H s)(hN:X.N.Nodup)(hi:X.N[i]? = some x)(hk:X.env.scope.names.lookup x=some .local)
  (h:∀ s',Inv X pins (σ.set i none) H s'->Q () s'):wpAny M A (do bindName X.env x .none; unbindBehindTheSuite X.env x pos) Q E s:=by
 obtain⟨m,hn,hl⟩:=id I.loc
 have hcls:(X.env.scope.kind == .class || (X.env.scope.kind == .module && X.env.locals != X.env.globals))=false:=by rw[I.ok.kind]; rfl
 have cne:=I.cne
 have hiσ:i < σ.length:=by rw[I.len]; exact(List.getElem?_eq_some_iff.mp hi).1
 refine wpAny_nameGoes_keeps hk hn hcls fun h' v hn' hs => ?_
 obtain⟨oL,_,_,hoL,_⟩:=id hn
 have hok':HOk X.prog X.w H h':=fun b ob e=>by
  refine(I.hok b ob e).stay (fun c w' hc q=>(hs.2 c ?_).trans q) (fun _ q=>q) fun _ _ q=>q
  rintro rfl
  rcases hc with z | hc
  ·rw[<- z,I.free] at e; cases e
  ·rw[I.free] at hc; cases hc
 refine h _ ⟨I.ok,I.os,I.bare,⟨fun b o e n hb hx => ?_,fun b o e n hb hx => ?_,I.base.free,fun b o e hx => ?_,I.base.tups,I.base.frzs,I.base.tbls⟩,⟨_,hn',fun j y v' e1 e2 e3 => ?_⟩,fun y c e => ?_,I.free,I.freeC,fun p hp => ?_,hok',by simpa using I.len⟩
 ·exact(hs.2 b (Nat.ne_of_lt (Nat.lt_of_lt_of_le (Heap.lt_size e) I.ok.above))).trans (I.base.keep b o e n hb hx)
 ·obtain⟨sl,e1⟩:=I.base.slot b o e n hb hx
  exact⟨sl,(hs.2 b (Nat.ne_of_lt (Nat.lt_of_lt_of_le (Heap.lt_size e) I.ok.above))).trans e1⟩
 ·obtain⟨o',e1⟩:=I.base.there b o e hx
  exact⟨o',(hs.2 b (Nat.ne_of_lt (Nat.lt_of_lt_of_le (Heap.lt_size e) I.ok.above))).trans e1⟩
 ·by_cases hj:j=i
  ·subst hj
   rw[List.getElem?_set_self hiσ] at e2
   cases e2
  ·rw[List.getElem?_set_ne (Ne.symm hj)] at e2
   obtain⟨u',r',q⟩:=hl j y v' e1 e2 e3
   refine⟨u',r',?_⟩
   rcases q with ⟨k,e⟩ | ⟨k,c,e,z⟩
   ·refine .inl ⟨k,?_⟩
    have:y≠x:=fun e=>hj (z9G hN e1 (e ▸ hi))
    simp[this,e]
   ·exact .inr ⟨k,c,e,z.sameBut hs (cne y c e)⟩
 ·obtain⟨w',z⟩:=I.cell y c e
  exact⟨w',z.sameBut hs (cne y c e)⟩
 ·obtain⟨e,n,ne,nf,d⟩:=I.pin p hp
  exact⟨(hs.2 p.1 ne).trans e,n,ne,nf,d⟩
@[reducible] noncomputable def Ends.less (D:Ends)(j:Nat):Ends:={ nx:=fun σ H=>D.nx (σ.set j none) H,rt:=D.rt,bk:=fun σ H=>D.bk (σ.set j none) H,ct:=fun σ H=>D.ct (σ.set j none) H }
end L2
namespace L2
open PySem PySem.Spec PyProof.Rows
end L2
namespace L2
open PySem PySem.Spec PyProof.Rows
open Builtin.Str
section
variable {X:Cx}
noncomputable def rAll (K:W.Frag):List V->Hp->VK->Prop:=fun xs H Q=>∃ (a:Addr) (bs:List Bool),xs=[.ref a]/\SqL K H a (bs.map V.bl)/\Q (.bl (bs.all id)) H
theorem zb6:∀ (bs:List Bool) {us:List Value},Vals (bs.map V.bl) us->us=bs.map Value.bool
 | [],_,r=>by cases r; rfl
 | b::bs,_,r=>by
  cases r with
  | cons r1 r2=>
   rw[zb6 bs r2]
   cases (show _=Value.bool b from r1)
   rfl
theorem zdw (bs:List Bool):(List.range bs.length).all (fun i=>bs[i]?.getD true)=bs.all id:=by
 apply Bool.eq_iff_iff.mpr
 simp only[List.all_eq_true,List.mem_range,id]
 constructor
 ·intro h b hb
  obtain⟨i,hi,e⟩:=List.mem_iff_getElem.mp hb
  have:=h i hi
  rw[List.getElem?_eq_getElem hi] at this
  simpa[e] using this
 ·intro h i hi
  rw[List.getElem?_eq_getElem hi]
  exact h _ (List.getElem_mem hi)
theorem zdt (hc:X.calm=true):z2w X (.builtin "all") (rAll X.K):=by
 intro pins s σ H xs us Q I r h
 obtain⟨a,bs,rfl,hs,q⟩:=h
 obtain⟨u,rfl,ru⟩:=z9n r
 cases (show u=Value.ref a from ru)
 obtain⟨its,hv,pl,_⟩:=I.list hs
 cases zb6 bs hv
 have hl:=pl.isList
 refine call_all_walk (wpAny_pyIter_list hl ?_)
 have hne:a≠s.heap.objs.size:=by
  obtain⟨o,n,e,_⟩:=pl
  exact Nat.ne_of_lt (Heap.lt_size e)
 refine⟨s.heap.objs.size,_,_,_,_,_,fun i=>bs[i]?.getD true,rfl,Walks.list (A:=X.A.in1) (I.ok.hd hc) s.heap.objs.size a hne (bs.map Value.bool).toArray,⟨⟨_,Heap.get?_push_size _ rfl,rfl,rfl⟩,(pl.keeps fun b o e=>Heap.get?_push_of_some _ e).isList⟩,?_,fun h' tk hk => ?_⟩
 ·intro i v s' Q' E' hP hQ
  have hP':(bs.map Value.bool)[i]? = some v:=by simpa using hP
  rw[List.getElem?_map] at hP'
  obtain⟨b,hb,rfl⟩:=Option.map_eq_some_iff.mp hP'
  have hQ':Q' (bs[i]?.getD true) s':=hQ
  rw[hb] at hQ'
  exact wpAny_pure hQ'
 ·have e:(List.range (bs.map Value.bool).toArray.size).all (fun i=>bs[i]?.getD true)=bs.all id:=by
   rw[List.size_toArray,List.length_map]
   exact zdw bs
  rw[e]
  refine⟨.bl _,H,I.kept (t':=tk) fun b o eb=>hk b o ?_ (Heap.get?_push_of_some _ eb),rfl,q⟩
  intro z
  rw[List.mem_singleton.mp z] at eb
  exact absurd (Heap.lt_size eb) (Nat.lt_irrefl _)
noncomputable def rSlS:V->Option Int->Option Int->Hp->VK->Prop:=fun x lo hi H Q=>∃ y,x = .str y/\y.length<=sizeLine/\Q (.str (Txt.slice y lo hi)) H
theorem zgN:SlR X rSlS:=by
 intro pins s σ H x v vl vu lo hi sl Q I rx hs pl pu h
 obtain⟨y,rfl,hz,q⟩:=h
 obtain⟨t,rfl⟩:=rx
 refine⟨"str",_,F.slot_str_getitem.lookup,typeIs_str _ _ _,?_⟩
 obtain⟨o,ho,hc,hd⟩:=hs
 have fin:∀ (l u:Option (Int × Tok)),l.map (·.1)=lo->u.map (·.1)=hi->vl=partValue l->vu=partValue u->wpAny (model X.prog X.w) X.A (getItem (.str y t) (.ref sl)) (EP X pins σ Q) X.xe s:=fun l u e1 e2 e3 e4=>by
  subst e1 e2 e3 e4
  exact wpAny_getItem_str_slice (l:=l) (u:=u) (st:=none) ⟨o,ho,hc,hd⟩ rfl (post_val_or_str ⟨Nat.le_trans (Txt.slice_le y _ _) hz,fun t' k=>⟨.str _,H,I.tok k,⟨t',rfl⟩,q⟩⟩)
 cases pl with
 | none=>
  cases pu with
  | none=>exact fin none none rfl rfl rfl rfl
  | int j u=>exact fin none (some (j,u)) rfl rfl rfl rfl
 | int i w=>
  cases pu with
  | none=>exact fin (some (i,w)) none rfl rfl rfl rfl
  | int j u=>exact fin (some (i,w)) (some (j,u)) rfl rfl rfl rfl
noncomputable def Its (x:Str):It:=⟨fun i _=>i < x.cps.size,fun i H v H'=>H'=H/\∃ c,x.cps[i]? = some c/\v = .str ⟨#[c]⟩,fun i _=>x.cps.size<=i⟩
theorem zb7 {P:Program}{w:World}{K:W.Frag}{tg:Expr}(x:Str)(t:Tok)(it:Addr){ty:String}(hty:["enumerate","zip","dict_itemiterator","dict_reverseitemiterator","odict_iterator","itertools.zip_longest","itertools.pairwise"].contains ty=false)
  (W:∀ A':Around,A'.handled=none->Walks P w A' it [it] [it] x.cps.size (SignAt x) (fun i h=>h.IsStrIter it ty x t i)) (hs:∀ (A:Around) (i:Nat) (s:Shared) (Q:Value->Shared->Prop) (E:Value->Shared->Prop),s.heap.IsStrIter it ty x t i->Q (.ref it) s->wpAny (model P w) A (pyIter (.ref it)) Q E s):
  Turn P w K tg (Its x) [it] it (fun i h=>i<=x.cps.size/\h.IsStrIter it ty x t i) where
 mem:=by simp
 obj:=fun i h st b hb=>by
  have e:b=it:=by simpa using hb
  subst e
  obtain⟨_,o,e,c,d⟩:=st
  exact⟨o,e,fun v z=>by rw[d] at z; cases z⟩
 keep:=fun i h h' st k=>⟨st.1,(W { } rfl).frame i h h' st.2 k⟩
 item:=by
  intro X hP hw hK hc i pins s σ H E I hf st hg
  subst hP hw hK
  obtain⟨f0,f1,f2,f3,f4,f5⟩:=hf it (by simp)
  refine(W X.A (I.ok.hd hc)).item i s _ _ hg st.2 fun v h' tk hv st' kk => ?_
  obtain⟨c,u,hc',rfl⟩:=hv
  have I1:Inv X pins σ H { s with heap:=h',toks:=tk }:=I.turned (fun b o hb e=>kk b o (by simpa using hb) e) f0 f1 f3 f4 f5
  obtain⟨o,e1,e2,e3⟩:=id st'
  exact⟨_,rfl,zer (s:={ s with heap:=h',toks:=tk }) e1 e2 e3 hty ⟨.str ⟨#[c]⟩,H,I1,⟨u,rfl⟩,⟨rfl,c,hc',rfl⟩,⟨hg,st'⟩,fun b hb=>(hf b hb).1⟩⟩
 done:=by
  intro X hP hw hK hc i pins s σ H E I hf st hg
  subst hP hw hK
  obtain⟨f0,f1,f2,f3,f4,f5⟩:=hf it (by simp)
  have e:i=x.cps.size:=Nat.le_antisymm st.1 hg
  subst e
  exact(W X.A (I.ok.hd hc)).done s _ _ st.2 fun h' tk kk=>⟨rfl,I.turned (fun b o hb e=>kk b o (by simpa using hb) e) f0 f1 f3 f4 f5⟩
 self:=fun A i s Q E st h=>hs A i s Q E st.2 h
variable {tg:Expr}
theorem zhg {es:List Expr}{aa:TA}{pos:Pos}(h:QA X es aa):QE X (.List es pos) (tLst aa):=⟨zhB h.p⟩
theorem z8S:MtR X "list.append" zcp:=zcV
end
end L2
namespace Tx
open PySem PySem.NumText PyProof.Rows L2
noncomputable abbrev st (l:List Nat):Str:=⟨l.toArray⟩
noncomputable def dl (m:Nat):List Nat:=(Nat.toDigits 10 m).map Char.toNat
end Tx
namespace Tx
open PySem PySem.NumText PyProof.Rows L2
end Tx
namespace Tx
open PySem PySem.NumText PyProof.Rows L2
end Tx
namespace L2
open PySem PySem.Spec PyProof.Rows Tx
end L2
namespace L2
open PySem PySem.Spec PyProof.Rows
end L2
namespace Tx
open PySem PySem.NumText PyProof.Rows L2
open Builtin.Str
end Tx
namespace L2
open PySem PySem.Spec PyProof.Rows Tx
end L2
namespace L2
open PySem PySem.Spec PyProof.Rows Tx
end L2
namespace Tx
open PySem PySem.NumText PyProof.Rows L2
end Tx
namespace L2
open PySem PySem.Spec PyProof.Rows Tx
end L2
namespace Mth
theorem z7q {a b:Nat}(h:∀ p,p ∣ a->p ∣ b->p ∣ 1):Nat.Coprime a b:=
 Nat.dvd_one.mp (h _ (Nat.gcd_dvd_left a b) (Nat.gcd_dvd_right a b))
theorem zaW {p:Nat}{x:Int}:p ∣ x.natAbs↔(p:Int) ∣ x:=by rw[<- Int.natAbs_dvd_natAbs,Int.natAbs_natCast]
theorem z9S {p z c:Nat}{x a:Int}(hzc:Nat.Coprime z c)(pz:p ∣ z)(h:(p:Int) ∣ x*(c:Int)+a*(z:Int)):p ∣ x.natAbs:=by
 have h1:(p:Int) ∣ a*(z:Int):=Int.dvd_trans (Int.natCast_dvd_natCast.mpr pz) (Int.dvd_mul_left _ _)
 have h2:(p:Int) ∣ x*(c:Int):=(Int.dvd_add_left h1).mp h
 have h3:p ∣ x.natAbs*c:=by
  have:=zaW.mpr h2
  rw[Int.natAbs_mul,Int.natAbs_natCast] at this
  exact this
 exact(Nat.Coprime.coprime_dvd_left pz hzc).dvd_of_dvd_mul_right h3
theorem zae {x y z a b c:Int}(hz:0 < z)(hc:0 < c)(h1:Int.gcd ((Int.gcd x y:Nat):Int) z=1)(h2:Int.gcd ((Int.gcd a b:Nat):Int) c=1)
  {g u v r:Int}(eg:g=((Int.gcd z c:Nat):Int)) (eu:u=x*(c / g)+a*(z / g)) (ev:v=y*(c / g)+b*(z / g)) (er:r=((Int.gcd ((Int.gcd g u:Nat):Int) v:Nat):Int)):
  0 < g/\0 < r/\g.natAbs<=z.natAbs/\r.natAbs<=z.natAbs/\Plc (x*c+a*z) (y*c+b*z) (z*c) (u / r) (v / r) (z / g*(c / r)):=by
 have gp:=(Int.gcd_pos_iff (a:=z) (b:=c)).mpr (.inl (by omega))
 have hg:0 < g:=by omega
 have gz:g ∣ z:=eg ▸ Int.gcd_dvd_left z c
 have gc:g ∣ c:=eg ▸ Int.gcd_dvd_right z c
 have e3:r=g3 u v g:=er
 have hr:0 < r:=e3 ▸ zas hg
 have rg:r ∣ g:=e3 ▸ z7b u v g
 have ru:r ∣ u:=e3 ▸ zbr u v g
 have rv:r ∣ v:=e3 ▸ zbq u v g
 obtain⟨z',ez⟩:=gz
 obtain⟨c',ec⟩:=gc
 obtain⟨g',eg'⟩:=rg
 obtain⟨u',eu'⟩:=ru
 obtain⟨v',ev'⟩:=rv
 have q1:z / g=z':=by rw[ez]; exact Int.mul_ediv_cancel_left z' (by omega)
 have q2:c / g=c':=by rw[ec]; exact Int.mul_ediv_cancel_left c' (by omega)
 have q3:u / r=u':=by rw[eu']; exact Int.mul_ediv_cancel_left u' (by omega)
 have q4:v / r=v':=by rw[ev']; exact Int.mul_ediv_cancel_left v' (by omega)
 have q5:c / r=g'*c':=by rw[ec,eg',Int.mul_assoc]; exact Int.mul_ediv_cancel_left _ (by omega)
 rw[q1,q2] at eu ev
 rw[q1,q3,q4,q5]
 have hz':0 < z':=by
  rcases(show z'<=0\/0 < z' by omega) with h | h
  ·have:=Int.mul_nonpos_of_nonneg_of_nonpos (Int.le_of_lt hg) h; omega
  ·exact h
 have hc':0 < c':=by
  rcases(show c'<=0\/0 < c' by omega) with h | h
  ·have:=Int.mul_nonpos_of_nonneg_of_nonpos (Int.le_of_lt hg) h; omega
  ·exact h
 have hg':0 < g':=by
  rcases(show g'<=0\/0 < g' by omega) with h | h
  ·have:=Int.mul_nonpos_of_nonneg_of_nonpos (Int.le_of_lt hr) h; omega
  ·exact h
 have czc:Nat.Coprime z'.natAbs c'.natAbs:=by
  have q:=Int.gcd_mul_left g z' c'
  rw[<- ez, <- ec] at q
  have q':g.natAbs*1=g.natAbs*Int.gcd z' c':=by omega
  exact(Nat.eq_of_mul_eq_mul_left (by omega) q').symm
 have cg:Nat.gcd (Nat.gcd g'.natAbs u'.natAbs) v'.natAbs=1:=by
  have n1:=congrArg Int.natAbs eg'
  have n2:=congrArg Int.natAbs eu'
  have n3:=congrArg Int.natAbs ev'
  rw[Int.natAbs_mul] at n1 n2 n3
  have er':r.natAbs=Nat.gcd (Nat.gcd g.natAbs u.natAbs) v.natAbs:=by rw[er,Int.natAbs_natCast,z3u]
  rw[n1,n2,n3,Nat.gcd_mul_left,Nat.gcd_mul_left] at er'
  have:r.natAbs*1=r.natAbs*Nat.gcd (Nat.gcd g'.natAbs u'.natAbs) v'.natAbs:=by omega
  exact(Nat.eq_of_mul_eq_mul_left (by omega) this).symm
 have hzn:((z'.natAbs:Nat):Int)=z':=Int.natAbs_of_nonneg (by omega)
 have hcn:((c'.natAbs:Nat):Int)=c':=Int.natAbs_of_nonneg (by omega)
 have big:∀ {p:Nat},p ∣ u'.natAbs->(p:Int) ∣ u:=fun h=>eu' ▸ Int.dvd_trans (zaW.mp h) (Int.dvd_mul_left _ _)
 have big2:∀ {p:Nat},p ∣ v'.natAbs->(p:Int) ∣ v:=fun h=>ev' ▸ Int.dvd_trans (zaW.mp h) (Int.dvd_mul_left _ _)
 have k1:Nat.Coprime (Nat.gcd u'.natAbs v'.natAbs) z'.natAbs:=by
  refine z7q fun p p1 p2 => ?_
  have pu:=big (Nat.dvd_trans p1 (Nat.gcd_dvd_left _ _))
  have pv:=big2 (Nat.dvd_trans p1 (Nat.gcd_dvd_right _ _))
  rw[eu, <- hzn, <- hcn] at pu
  rw[ev, <- hzn, <- hcn] at pv
  have pz:p ∣ z.natAbs:=by rw[ez,Int.natAbs_mul]; exact Nat.dvd_trans p2 (Nat.dvd_mul_left _ _)
  have:=Nat.dvd_gcd (Nat.dvd_gcd (z9S czc p2 pu) (z9S czc p2 pv)) pz
  rw[z3u] at h1
  rw[h1] at this
  exact this
 have k2:Nat.Coprime (Nat.gcd u'.natAbs v'.natAbs) c'.natAbs:=by
  refine z7q fun p p1 p2 => ?_
  have pu:=big (Nat.dvd_trans p1 (Nat.gcd_dvd_left _ _))
  have pv:=big2 (Nat.dvd_trans p1 (Nat.gcd_dvd_right _ _))
  rw[eu, <- hzn, <- hcn,Int.add_comm] at pu
  rw[ev, <- hzn, <- hcn,Int.add_comm] at pv
  have pz:p ∣ c.natAbs:=by rw[ec,Int.natAbs_mul]; exact Nat.dvd_trans p2 (Nat.dvd_mul_left _ _)
  have:=Nat.dvd_gcd (Nat.dvd_gcd (z9S czc.symm p2 pu) (z9S czc.symm p2 pv)) pz
  rw[z3u] at h2
  rw[h2] at this
  exact this
 have k3:Nat.Coprime (Nat.gcd u'.natAbs v'.natAbs) g'.natAbs:=by
  refine z7q fun p p1 p2 => ?_
  have:=Nat.dvd_gcd (Nat.dvd_gcd p2 (Nat.dvd_trans p1 (Nat.gcd_dvd_left _ _))) (Nat.dvd_trans p1 (Nat.gcd_dvd_right _ _))
  rw[cg] at this
  exact this
 have eX:x*c+a*z=g*r*u':=by rw[Int.mul_assoc, <- eu',eu,ec,ez]; grind
 have eY:y*c+b*z=g*r*v':=by rw[Int.mul_assoc, <- ev',ev,ec,ez]; grind
 have eZ:z*c=g*r*(z'*(g'*c')):=by rw[ez,ec]; generalize g=G at eg' ⊢; subst eg'; grind
 have hgr:0 < g*r:=Int.mul_pos hg hr
 have small:∀ k:Int,k.natAbs<=(g*r*k).natAbs:=fun k=>by
  rw[Int.natAbs_mul]
  exact Nat.le_mul_of_pos_left _ (by omega)
 refine⟨hg,hr,Nat.le_of_dvd (by omega) (Int.natAbs_dvd_natAbs.mpr ⟨z',ez⟩),Nat.le_of_dvd (by omega) (Int.natAbs_dvd_natAbs.mpr ⟨g'*z',by rw[ez,eg',Int.mul_assoc]⟩),?_,?_,?_,?_,?_,?_,?_⟩
 ·have:=Int.mul_pos hz' (Int.mul_pos hg' hc')
  omega
 ·rw[z3u,Int.natAbs_mul,Int.natAbs_mul]
  exact Nat.Coprime.mul_right k1 (Nat.Coprime.mul_right k3 k2)
 ·rw[eX,eZ]; grind
 ·rw[eY,eZ]; grind
 ·rw[eX]; exact small _
 ·rw[eY]; exact small _
 ·rw[eZ]; exact small _
end Mth
namespace L2
open PySem PySem.Spec PyProof.Rows
section
variable {prog:Program}{w:World}{A:Around}{R:Result->Shared->Prop}{s:Shared}
noncomputable def zeM (M:Model)(A:Around)(ct:Option Expr)(env:Env)(Q:Bool->Shared->Prop)(E:Value->Shared->Prop)(s:Shared):Prop:=
 match ct with
 | none=>Q true s
 | some c=>wpAny M A (isTrue c env (eval c env)) Q E s
theorem z7I {elt target iter:Expr}{ct:Option Expr}{scope:Scope}{pos:Pos}{it acc:Value}{env:Env}(I:Nat->Shared->Prop)
  (turn:∀ n s,I n s->wpAny (model prog w) A (pyNext it) (fun r s1=>match r with
   | none=>R (.ok .next) s1
   | some v=>wpAny (model prog w) A (letOwnedTupleGo target it v) (fun _ s5=>wpAny (model prog w) A (assign target env v) (fun _ s2=>zeM (model prog w) A ct env (fun ok s3=>if ok=true then wpAny (model prog w) A (eval elt env) (fun x s4=>
     wpAny (model prog w) A (call (.builtin "list.append") [acc,x]) (fun _ s6=>∃ m,m < n/\I m s6) (notedBy (model prog w) A env fun e s'=>R (.error e) s') s4)
     (notedBy (model prog w) A env fun e s'=>R (.error e) s') s3 else ∃ m,m < n/\I m s3) (notedBy (model prog w) A env fun e s'=>R (.error e) s') s2) (notedBy (model prog w) A env fun e s'=>R (.error e) s') s5) (notedBy (model prog w) A env fun e s'=>R (.error e) s') s1) (notedBy (model prog w) A env fun e s'=>R (.error e) s') s)
  (n:Nat) (h:I n s):
  codeAny (model prog w) A (.compLoop (.ListComp elt [⟨target,iter,ct.toList,0⟩] scope pos) 0 it acc env) R s:=by
 refine codeAny_loop rfl I (fun n s hI => ?_) n h
 show wpAny _ _ ((compTurn (.ListComp elt [⟨target,iter,ct.toList,0⟩] scope pos) 0 it acc env).onRaise (fun x=>do noteFrame x env; theTreesLotGoes x)) _ _ s
 refine wpAny_noted ?_
 rw[compTurn_list]
 refine wpAny_bind (wpAny_standAt (wpAny_bind (wpAny_mono (turn n s hI) (fun r s1 h1 => ?_) fun _ _ h'=>h')))
 cases r with
 | none=>exact wpAny_pure h1
 | some v=>
  refine wpAny_bind (wpAny_mono h1 (fun _ s5 h5 => ?_) fun _ _ h'=>h')
  refine wpAny_bind (wpAny_mono h5 (fun _ s2 h2 => ?_) fun _ _ h'=>h')
  cases ct with
  | none=>
   refine wpAny_bind (wpAny_mono (wpAny_tests_nil (Q:=fun ok s3=>ok=true/\s3=s2) ⟨rfl,rfl⟩) (fun ok s3 h3 => ?_) fun _ _ h'=>h')
   obtain⟨rfl,rfl⟩:=h3
   have h2':=h2
   simp only[zeM,if_true] at h2'
   exact wpAny_bind (wpAny_bind (wpAny_mono h2' (fun x s4 h4=>wpAny_bind (wpAny_mono h4 (fun _ s6 h6=>wpAny_pure (wpAny_pure ⟨rfl,h6⟩)) fun _ _ h'=>h')) fun _ _ h'=>h'))
  | some c=>
   refine wpAny_bind (wpAny_tests_one (wpAny_mono (show wpAny (model prog w) A (isTrue c env (eval c env)) _ _ _ from h2) (fun okb s3 h3 => ?_) fun _ _ h'=>h'))
   cases okb with
   | false=>exact wpAny_pure ⟨rfl,by simpa using h3⟩
   | true=>
    have h3':=h3
    simp only[if_true] at h3'
    exact wpAny_bind (wpAny_bind (wpAny_mono h3' (fun x s4 h4=>wpAny_bind (wpAny_mono h4 (fun _ s6 h6=>wpAny_pure (wpAny_pure ⟨rfl,h6⟩)) fun _ _ h'=>h')) fun _ _ h'=>h'))
end
noncomputable def z5y (env:Env)(names:List (Str × NameKind))(acc:List (Str × Addr)):List (Str × Addr):=names.foldl (fun c x=>if x.2 == .free then (x.1,(env.cells.lookup x.1).getD 0)::c else c) acc
theorem z9g {α β:Type}{f:α->β->Sem (ForInStep β)}{g:α->β->β}:∀ (l:List α) (b:β),(∀ x∈l,∀ c,f x c=pure (.yield (g x c)))->forIn l b f=(pure (l.foldl (fun c x=>g x c) b):Sem β)
 | [],b,_=>rfl
 | x::l,b,h=>by
  rw[List.forIn_cons,h x List.mem_cons_self,pure_bind]
  exact z9g l (g x b) fun y hy=>h y (List.mem_cons_of_mem _ hy)
theorem z7i {scope:Scope}{env:Env}(h:∀ x∈scope.names,x.2 = .free->∃ c,env.cells.lookup x.1=some c):closureFor scope env=pure (z5y env scope.names []):=by
 simp only[closureFor]
 rw[z9g (g:=fun x c=>if x.2 == .free then (x.1,(env.cells.lookup x.1).getD 0)::c else c) scope.names [] (fun x hx c=>by
  obtain⟨n,kind⟩:=x
  by_cases hk:kind = .free
  ·subst hk
   obtain⟨a,ha⟩:=h _ hx rfl
   have e:cellOf env n=pure a:=by unfold cellOf; rw[ha]
   simp[e,ha]
  ·have:(kind == NameKind.free)=false:=by simpa using hk
   simp[this])]
 rfl
theorem zaT {env:Env}{y:Str}{c:Addr}:∀ {names:List (Str × NameKind)}{acc:List (Str × Addr)},(y,c)∈z5y env names acc↔(y,c)∈acc\/((y,NameKind.free)∈names/\c=(env.cells.lookup y).getD 0)
 | [],acc=>by simp[z5y]
 | (n,k)::r,acc=>by
  show (y,c)∈z5y env r (if k == .free then (n,(env.cells.lookup n).getD 0)::acc else acc)↔_
  rw[zaT]
  by_cases hk:k = .free
  ·subst hk
   simp only[beq_self_eq_true,if_true,List.mem_cons,Prod.mk.injEq]
   constructor
   ·rintro((⟨rfl,rfl⟩ | h) | ⟨h1,h2⟩)
    ·exact .inr ⟨.inl (by simp),rfl⟩
    ·exact .inl h
    ·exact .inr ⟨.inr h1,h2⟩
   ·rintro(h | ⟨⟨rfl,_⟩ | h1,h2⟩)
    ·exact .inl (.inr h)
    ·exact .inl (.inl ⟨rfl,h2⟩)
    ·exact .inr ⟨h1,h2⟩
  ·have:(k == NameKind.free)=false:=by simpa using hk
   simp only[this,Bool.false_eq_true,if_false,List.mem_cons,Prod.mk.injEq]
   constructor
   ·rintro(h | ⟨h1,h2⟩)
    ·exact .inl h
    ·exact .inr ⟨.inr h1,h2⟩
   ·rintro(h | ⟨⟨_,h⟩ | h1,h2⟩)
    ·exact .inl h
    ·exact absurd h.symm hk
    ·exact .inr ⟨h1,h2⟩
theorem z2Y {β:Type}{y:Str}{c:β}:∀ {l:List (Str × β)},l.lookup y=some c->(y,c)∈l
 | [],h=>by simp at h
 | (n,j)::r,h=>by
  rw[List.lookup_cons] at h
  by_cases e:y=n
  ·subst e
   simp at h
   subst h
   exact List.mem_cons_self
  ·have:(y == n)=false:=by simpa using e
   rw[this] at h
   exact List.mem_cons_of_mem _ (z2Y h)
theorem z5I {β:Type}{y:Str}{c:β}:∀ {l:List (Str × β)},(y,c)∈l->∃ d,l.lookup y=some d
 | (n,j)::r,h=>by
  rw[List.lookup_cons]
  by_cases e:y=n
  ·subst e
   simp
  ·have:(y == n)=false:=by simpa using e
   rw[this]
   rcases List.mem_cons.mp h with h | h
   ·exact absurd (congrArg Prod.fst h) e
   ·exact z5I h
theorem z4i {env:Env}:∀ {names:List (Str × NameKind)}{x:Str}{k:NameKind},(names.map fun(n,k)=>if (k == NameKind.free && env.scope.kind == .function && env.kindOf n == some .cell) then (n,NameKind.cell) else (n,k)).lookup x=some k->
  names.lookup x=some k\/(k = .cell/\names.lookup x=some .free)
 | [],_,_,h=>by simp at h
 | (n,j)::r,x,k,h=>by
  have ih := @z4i env r x k
  have h':List.lookup x ((if (j == NameKind.free && env.scope.kind == .function && env.kindOf n == some .cell)=true then (n,NameKind.cell) else (n,j))::(r.map fun(n,k)=>if (k == NameKind.free && env.scope.kind == .function && env.kindOf n == some .cell) then (n,NameKind.cell) else (n,k)))=some k:=h
  by_cases hc:(j == NameKind.free && env.scope.kind == .function && env.kindOf n == some .cell)=true
  ·rw[if_pos hc] at h'
   have hj:j = .free:=by
    have:=hc
    simp only[Bool.and_eq_true,beq_iff_eq] at this
    exact this.1.1
   cases hx:x == n with
   | true=>
    simp only[List.lookup_cons,hx] at h' ⊢
    exact .inr ⟨(Option.some.inj h').symm,by rw[hj]⟩
   | false=>
    simp only[List.lookup_cons,hx] at h' ⊢
    exact ih h'
  ·rw[if_neg hc] at h'
   cases hx:x == n with
   | true=>
    simp only[List.lookup_cons,hx] at h' ⊢
    exact .inl h'
   | false=>
    simp only[List.lookup_cons,hx] at h' ⊢
    exact ih h'
theorem z3I {env:Env}:∀ {names:List (Str × NameKind)}{x:Str},names.lookup x=some .free->
  (names.map fun(n,k)=>if (k == NameKind.free && env.scope.kind == .function && env.kindOf n == some .cell) then (n,NameKind.cell) else (n,k)).lookup x=some .cell\/
  (names.map fun(n,k)=>if (k == NameKind.free && env.scope.kind == .function && env.kindOf n == some .cell) then (n,NameKind.cell) else (n,k)).lookup x=some .free
 | [],_,h=>by simp at h
 | (n,j)::r,x,h=>by
  have ih := @z3I env r x
  show List.lookup x ((if (j == NameKind.free && env.scope.kind == .function && env.kindOf n == some .cell)=true then (n,NameKind.cell) else (n,j))::_)=_\/List.lookup x ((if (j == NameKind.free && env.scope.kind == .function && env.kindOf n == some .cell)=true then (n,NameKind.cell) else (n,j))::_)=_
  cases hx:x == n with
  | true=>
   simp only[List.lookup_cons,hx] at h
   cases h
   by_cases hc:(NameKind.free == NameKind.free && env.scope.kind == .function && env.kindOf n == some .cell)=true
   ·rw[if_pos hc]; simp[List.lookup_cons,hx]
   ·rw[if_neg hc]; simp[List.lookup_cons,hx]
  | false=>
   simp only[List.lookup_cons,hx] at h
   by_cases hc:(j == NameKind.free && env.scope.kind == .function && env.kindOf n == some .cell)=true
   ·rw[if_pos hc]; simp only[List.lookup_cons,hx]; exact ih h
   ·rw[if_neg hc]; simp only[List.lookup_cons,hx]; exact ih h
@[reducible] noncomputable def Cx.compG (X:Cx)(scope:Scope)(N':List Str)(C:Addr)(s:Shared)(H:Hp)(fp:List Addr):Cx:=
 { X with N:=N',s₀:=s,H₀:=H,env:=compEnvC scope (z5y X.env scope.names []) C X.env,outer:=X.stack,stack:=X.stack,ex:=fp,pn:=[],fn:=fun y=>((z5y X.env scope.names []).lookup y).isNone,xe:=fun _ _=>False }
noncomputable def z7Y:TT:=fun _ H Q=>Q true H
noncomputable def LcG (J:It)(g:TG)(tc:TT)(te:TE)(Q:VK)(σ0:St)(H1:Hp):Prop:=∃ W:Nat->Nat->List V->St->Hp->Prop,(∃ m,W 0 m [] σ0 H1)/\∀ i m ys σ H,W i m ys σ H->
 ys.length < sizeLine/\((J.stop i H/\∀ p,H p=none->Q (.ref p) (upd H p (.lst ys)))\/(J.go i H/\∀ x H',J.yld i H x H'->g x σ H' fun σ1 H1=>tc σ1 H1 fun b H2=>if b=true then te σ1 H2 fun y H3=>∃ m',m' < m/\W (i+1) m' (ys++[y]) σ1 H3 else ∃ m',m' < m/\W (i+1) m' ys σ1 H2))
noncomputable def tLcG (wi:TI)(g:TG)(tc:TT)(te:TE)(nt:Nat)(js:List Nat):TE:=fun σ H Q=>wi σ H fun J H1=>LcG J g tc te Q (List.replicate nt none++js.map fun j=>(σ[j]?).getD none) H1
noncomputable def z7R (N' xn:List Str)(nt:Nat)(js:List Nat)(names onames:List (Str × NameKind)):Bool:=
 N'.length == nt+js.length && (js.zipIdx.all fun p=>match N'[nt+p.2]? with
  | some y=>xn[p.1]? == some y && names.lookup y == some .free
  | none=>false) && names.all (fun x=>x.2 != .cell && (x.2 != .local || names.lookup x.1 == some .local) && (x.2 != .free || ((onames.lookup x.1 == some .cell || onames.lookup x.1 == some .free))))
section
variable {X:Cx}{pins:List (Addr × Obj)}{σ:St}{H:Hp}{s:Shared}
structure z7j (X:Cx)(N':List Str)(nt:Nat)(js:List Nat)(scope:Scope):Prop where
 len:N'.length=nt+js.length
 cap:∀ k j,js[k]? = some j->∃ y,N'[nt+k]? = some y/\X.N[j]? = some y/\scope.names.lookup y=some .free
 nocell:∀ y∈scope.names,y.2 ≠ .cell
 loc:∀ y∈scope.names,y.2 = .local->scope.names.lookup y.1=some .local
 free:∀ y∈scope.names,y.2 = .free->X.env.kindOf y.1=some .cell\/X.env.kindOf y.1=some .free
theorem z7R.ok {N' xn:List Str}{nt:Nat}{js:List Nat}{scope osc:Scope}(hxn:X.N=xn)(hosc:X.env.scope=osc)(h:z7R N' xn nt js scope.names osc.names=true):z7j X N' nt js scope:=by
 unfold z7R at h
 simp only[Bool.and_eq_true,beq_iff_eq] at h
 obtain⟨⟨h1,h2⟩,h3⟩:=h
 rw[List.all_eq_true] at h2 h3
 have h3':∀ y∈scope.names,y.2 ≠ .cell/\(y.2 = .local->scope.names.lookup y.1=some .local)/\(y.2 = .free->osc.names.lookup y.1=some .cell\/osc.names.lookup y.1=some .free):=fun y hy=>by
  have:=h3 y hy
  simp only[Bool.and_eq_true,Bool.or_eq_true,bne_iff_ne,beq_iff_eq] at this
  refine⟨this.1.1,fun z => ?_,fun z => ?_⟩
  ·rcases this.1.2 with q | q
   ·exact absurd z q
   ·exact q
  ·rcases this.2 with q | q
   ·exact absurd z q
   ·exact q
 refine⟨h1,fun k j hk => ?_,fun y hy=>(h3' y hy).1,fun y hy=>(h3' y hy).2.1,fun y hy z => ?_⟩
 ·have hm:(j,k)∈js.zipIdx:=by
   rw[List.mem_zipIdx_iff_getElem?]
   exact hk
  have:=h2 (j,k) hm
  cases e:N'[nt+k]? with
  | none=>simp only[e] at this; cases this
  | some y=>
   simp only[e,Bool.and_eq_true,beq_iff_eq] at this
   exact⟨y,rfl,by rw[hxn]; exact this.1,this.2⟩
 ·show X.env.scope.names.lookup y.1=some .cell\/X.env.scope.names.lookup y.1=some .free
  rw[hosc]
  exact(h3' y hy).2.2 z
theorem z7j.cells {N':List Str}{nt:Nat}{js:List Nat}{scope:Scope}(c:z7j X N' nt js scope)(I:Inv X pins σ H s):∀ x∈scope.names,x.2 = .free->∃ a,X.env.cells.lookup x.1=some a:=fun x hx hf=>I.ok.has x.1 (c.free x hx hf)
theorem z7j.clo {N':List Str}{nt:Nat}{js:List Nat}{scope:Scope}(c:z7j X N' nt js scope)(I:Inv X pins σ H s){y:Str}{a:Addr}(h:(z5y X.env scope.names []).lookup y=some a):X.env.cells.lookup y=some a/\(y,NameKind.free)∈scope.names:=by
 rcases zaT.mp (z2Y h) with z | ⟨z1,z2⟩
 ·simp at z
 ·obtain⟨b,hb⟩:=c.cells I (y,.free) z1 rfl
  have hb':X.env.cells.lookup y=some b:=hb
  rw[hb'] at z2
  exact⟨by rw[hb',z2]; rfl,z1⟩
theorem z7j.has {N':List Str}{nt:Nat}{js:List Nat}{scope:Scope}(c:z7j X N' nt js scope)(I:Inv X pins σ H s){y:Str}(h:(y,NameKind.free)∈scope.names):∃ a,(z5y X.env scope.names []).lookup y=some a:=
 z5I (c:=(X.env.cells.lookup y).getD 0) (zaT.mpr (.inr ⟨h,rfl⟩))
theorem Inv.compG {scope:Scope}{N':List Str}{nt:Nat}{js:List Nat}{C:Addr}{fp:List Addr}{h1:Heap}{t1:Nat}(I:Inv X pins σ H s)(hk:scope.kind = .function)(c:z7j X N' nt js scope)
  (hC:s.heap.objs.size<=C) (hfp:∀ b∈fp,FpOk X pins H b) (hfo:∀ b∈fp,b < s.heap.objs.size) (keep:∀ b o,s.heap.get? b=some o->h1.get? b=some o) (hns:∃ m,h1.Ns C m) (hc:X.calm=true):
  Inv (X.compG scope N' C s H fp) [] (List.replicate nt none++js.map fun j=>(σ[j]?).getD none) H { s with heap:=h1,toks:=t1 }:=by
 have nofs:∀ b∈fp,b ∉ frs X.stack:=fun b hb z=>by
  rcases List.mem_cons.mp (I.stkSub b z) with q | q
  ·exact(hfp b hb).2.1 q
  ·exact(hfp b hb).2.2.1 q
 have nobase:∀ b o,X.base.get? b=some o->b ∉ fp:=fun b o e hb=>by
  have e2:=(I.ok.bs b o e).1
  rcases(hfp b hb).2.2.2.1 with z | z
  ·exact I.ok.noex b o e z
  ·exact absurd (Nat.lt_of_lt_of_le (Heap.lt_size e2) z) (Nat.lt_irrefl _)
 have kd:∀ {y:Str},((compEnvC scope (z5y X.env scope.names []) C X.env).kindOf y=some .cell\/(compEnvC scope (z5y X.env scope.names []) C X.env).kindOf y=some .free)->(y,NameKind.free)∈scope.names:=fun {y} q=>by
  rcases q with q | q
  ·rcases z4i (env:=X.env) q with z | ⟨_,z⟩
   ·exact absurd rfl (c.nocell _ (z2Y z))
   ·exact z2Y z
  ·rcases z4i (env:=X.env) q with z | ⟨z,_⟩
   ·exact z2Y z
   ·cases z
 have cell:∀ {a:Addr}{v:Option Value},s.heap.IsCell a v->h1.IsCell a v:=fun⟨o,ho,hd⟩=>⟨o,keep _ _ ho,hd⟩
 obtain⟨m1,hm1⟩:=hns
 refine⟨⟨I.ok.mod,hk,I.ok.glob,I.ok.blt,hC,(fun y z a e1 e2=>I.ok.inj y z a (c.clo I e1).1 (c.clo I e2).1),(fun y q=>c.has I (kd q)),(fun y a hf e => ?_),(fun _=>I.ok.hd hc),I.ok.frames,.inl rfl,(fun b hb=>⟨Nat.ne_of_lt (Nat.lt_of_lt_of_le (hfo b hb) hC),(fun y a e=>(hfp b hb).2.2.2.2.1 y a (c.clo I e).1)⟩),(fun b o e=>⟨I.bk b o e,(I.bs b o e).2⟩),Nat.le_trans I.ok.bsz I.sz,nobase,nofs,I.stack,I.stkFree⟩,
  rfl,I.bare,Un.kept keep,⟨m1,hm1,(fun i y v e1 e2 hv => ?_)⟩,(fun y a e => ?_),I.hok.fresh hC,(fun y a e=>I.freeC y a (c.clo I e).1),(fun p hp=>by simp at hp),I.hok.kept keep,?_⟩
 ·have hf':((z5y X.env scope.names []).lookup y).isNone=true:=hf
  have e':(z5y X.env scope.names []).lookup y=some a:=e
  rw[e'] at hf'
  cases hf'
 ·rcases Nat.lt_or_ge i nt with hi | hi
  ·rw[List.getElem?_append_left (by simpa using hi),List.getElem?_replicate] at e2
   rw[if_pos hi] at e2
   cases e2
  ·rw[List.getElem?_append_right (by simpa using hi),List.length_replicate,List.getElem?_map] at e2
   cases ej:js[i - nt]? with
   | none=>rw[ej] at e2; cases e2
   | some j=>
    rw[ej] at e2
    obtain⟨y',q1,q2,q3⟩:=c.cap _ _ ej
    have hi':nt+(i - nt)=i:=by omega
    rw[hi'] at q1
    have e1':N'[i]? = some y:=e1
    rw[q1] at e1'
    cases e1'
    have e2:some ((σ[j]?).getD none)=some (some v):=e2
    have hσ:σ[j]? = some (some v):=by
     cases ez:σ[j]? with
     | none=>rw[ez] at e2; cases e2
     | some z=>rw[ez] at e2; exact congrArg some (Option.some.inj e2)
    have hkX:=c.free _ (z2Y q3) rfl
    obtain⟨m,hn,hl⟩:=I.loc
    obtain⟨u,r,l⟩:=hl j y v q2 hσ (.inr hkX)
    refine⟨u,r,.inr ⟨z3I (env:=X.env) q3,?_⟩⟩
    rcases l with ⟨l,_⟩ | ⟨_,a,ha,hcell⟩
    ·have l':X.env.kindOf y=some .local:=l
     rcases hkX with z | z
     ·rw[l'] at z; cases z
     ·rw[l'] at z; cases z
    ·obtain⟨b,hb⟩:=c.has I (z2Y q3)
     have:=(c.clo I hb).1
     rw[ha] at this
     cases this
     exact⟨a,hb,cell hcell⟩
 ·obtain⟨v,z⟩:=I.cell y a (c.clo I e).1
  exact⟨v,cell z⟩
 ·show (List.replicate nt none++js.map fun j=>(σ[j]?).getD none).length=N'.length
  rw[List.length_append,List.length_replicate,List.length_map,c.len]
theorem zhC {elt iter target:Expr}{ct:Option Expr}{pos:Pos}{scope:Scope}{wi:TI}{g:TG}{tc:TT}{te:TE}{N':List Str}{nt:Nat}{js:List Nat}(hc:X.calm=true)(hi:PI X target iter wi)(hk:scope.kind = .function)(cp:z7j X N' nt js scope)
  (hg:∀ (C:Addr) (s:Shared) (H:Hp) (fp:List Addr),PG (X.compG scope N' C s H fp) target g)
  (ht:match ct with
   | none=>tc=z7Y
   | some c=>∀ (C:Addr) (s:Shared) (H:Hp) (fp:List Addr),PT (X.compG scope N' C s H fp) c tc)
  (he:∀ (C:Addr) (s:Shared) (H:Hp) (fp:List Addr),PE (X.compG scope N' C s H fp) elt te) (hs:∀ x,foldedSetIterable iter X.env x=pure x:=by intro _; rfl):PE X (.ListComp elt [⟨target,iter,ct.toList,0⟩] scope pos) (tLcG wi g tc te nt js):=by
 intro pins s σ H Q I h
 rw[eval_ListComp]
 refine wpAny_comprehension_free (use:=none) rfl hs (z7i (cp.cells I)) hk cp.loc (thn (hi pins s σ H _ I h) fun v s1 h1=>thn h1 fun itv s2 h2 => ?_)
 obtain⟨it,fp,tn,J,H2,e,I2,T,st2,f2,W,⟨m0,w0⟩,turn⟩:=h2
 subst e
 have hfo:∀ b∈fp,b < s2.heap.objs.size:=fun b hb=>by
  obtain⟨o,e,_⟩:=T.obj _ _ st2 b hb
  exact Heap.lt_size e
 refine wpAny_newObj_type (wpAny_newFunctionEnv cp.nocell (by intro y hy; simp at hy) (fun g1 hns1 hsb1 => ?_) hk)
 dsimp only at hns1 hsb1 ⊢
 generalize hG2:s2.heap.push { cls :=.type "list",dict:=none,data :=.seq ([]:List Value).toArray }=G2 at hns1 hsb1 ⊢
 have hC:G2.objs.size=s2.heap.objs.size+1:=by rw[<- hG2,Heap.size_push]
 have hDC:s2.heap.objs.size≠G2.objs.size:=by rw[hC]; exact Nat.ne_of_lt (Nat.lt_succ_self _)
 have below:∀ b,b < s2.heap.objs.size->b≠G2.objs.size/\b≠s2.heap.objs.size:=fun b hb=>⟨by rw[hC]; exact Nat.ne_of_lt (Nat.lt_succ_of_lt hb),Nat.ne_of_lt hb⟩
 have old:∀ b o,s2.heap.get? b=some o->g1.get? b=some o:=fun b o e=>hsb1.extBut b o (below b (Heap.lt_size e)).1 (Heap.get?_push_of_some _ (hG2 ▸ Heap.get?_push_of_some _ e))
 have hacc:g1.get? s2.heap.objs.size=some { cls :=.type "list",data :=.seq ([]:List Value).toArray 0 }:=hsb1.extBut _ _ hDC (Heap.get?_push_of_some _ (hG2 ▸ Heap.get?_push_size _ rfl))
 have hCge:s2.heap.objs.size<=G2.objs.size:=by rw[hC]; exact Nat.le_succ _
 have cellD:∀ y a,X.env.cells.lookup y=some a->a < s2.heap.objs.size:=fun y a e=>by
  obtain⟨v,o,ho,_⟩:=I2.cell y a e
  exact Heap.lt_size ho
 generalize hCC:G2.objs.size=C at*
 generalize hDD:s2.heap.objs.size=D at*
 let Y:Cx:=X.compG scope N' C s2 H2 fp
 have IY:Inv Y [] (List.replicate nt none++js.map fun j=>(σ[j]?).getD none) H2 { s2 with heap:=g1,toks:=s2.toks+([]:List (Str × Value)).length }:=I2.compG hk cp (by rw[hDD]; exact hCge) f2 (by rw[hDD]; exact hfo) old ⟨_,hns1⟩ hc
 have fpD:∀ b∈fp,b≠D:=fun b hb=>(below b (hfo b hb)).2
 have fpC:∀ b∈fp,b≠C:=fun b hb=>(below b (hfo b hb)).1
 have H2D:H2 D=none:=I2.hok.fresh (by rw[hDD]; exact Nat.le_refl _)
 have Dnf:D ∉ frs X.stack:=fun z=>by
  obtain⟨_,o,e,_⟩:=I2.stack.mem z
  exact absurd (Heap.lt_size e) (by rw[hDD]; exact Nat.lt_irrefl _)
 have stat:∀ {H':Hp}{pl:List (Addr × Obj)},(∀ b∈fp,H' b=none)->(∀ p∈pl,p.1=D)->∀ b∈fp,FpOk Y pl H' b:=fun hn hp b hb=>⟨hn b hb,fpC b hb,(fun z=>IY.ok.exfs b hb z),.inl hb,(fun y a e=>(f2 b hb).2.2.2.2.1 y a (cp.clo I2 e).1),fun p hp' z=>fpD b hb (z.symm.trans (hp p (by simpa[Y] using hp')))⟩
 have loop:∀ s3:Shared,s3={ s2 with heap:=g1,toks:=s2.toks+([]:List (Str × Value)).length }->
   codeAny (model X.prog X.w) X.A (.compLoop (.ListComp elt [⟨target,iter,ct.toList,0⟩] scope pos) 0 (.ref it) (.ref D) (compEnvC scope (z5y X.env scope.names []) C X.env)) (compPost (model X.prog X.w) X.A X.xe none (EP X pins σ Q) (.ref D) C) s3:=by
  intro s3 e3
  refine z7I (fun n s'=>∃ i ys its σ' H',Inv Y [] σ' H' s'/\s'.heap.get? D=some { cls :=.type "list",data :=.seq (its:List Value).toArray its.length }/\Vals ys its/\H' D=none/\tn i s'.heap/\(∀ b∈fp,H' b=none)/\W i n ys σ' H') ?_ m0 ⟨0,[],[],_,H2,e3 ▸ IY,?_,.nil,H2D,?_,fun b hb=>(f2 b hb).1,w0⟩
  ·rintro n s4 ⟨i,ys,its,σ4,H4,I4,hD4,hv4,hn4,st4,fr4,w4⟩
   obtain⟨hsz,step⟩:=turn i n ys σ4 H4 w4
   have hl4:ys.length=its.length:=hv4.length
   have I4p:Inv Y [(D,{ cls :=.type "list",data :=.seq its.toArray its.length })] σ4 H4 s4:=I4.pins_of fun p hp=>by
    rw[List.mem_singleton.mp hp]
    exact⟨hD4,hn4,hDC,Dnf,fun v z=>by cases z⟩
   have one:∀ p∈[((D:Addr),({ cls :=.type "list",data :=.seq its.toArray its.length }:Obj))],p.1=D:=fun p hp=>by rw[List.mem_singleton.mp hp]
   rcases step with ⟨stop,qn⟩ | ⟨go,step⟩
   ·refine wpAny_mono (T.done Y rfl rfl rfl hc i _ s4 σ4 H4 (fun _ _=>False) I4p (stat fr4 one) st4 stop) (fun r s5 hr => ?_) fun _ _ z=>z.elim
    obtain⟨rfl,I5⟩:=hr
    have hD5:s5.heap.get? D=some { cls :=.type "list",data :=.seq its.toArray its.length }:=(I5.pin (D,_) (by simp)).1
    obtain⟨m5,hm5,_⟩:=I5.loc
    refine⟨m5,hm5,fun h' sb => ?_⟩
    have U:Un (frs X.stack) fp H2 H4 s2.heap s5.heap:=I5.base
    have nC:∀ b o,s2.heap.get? b=some o->b≠C:=fun b o e=>(below b (hDD ▸ Heap.lt_size e)).1
    have nD:∀ b o,s2.heap.get? b=some o->b≠D:=fun b o e=>(below b (hDD ▸ Heap.lt_size e)).2
    have ex:∀ b o,b≠C->s5.heap.get? b=some o->h'.get? b=some o:=fun b o n e=>sb.extBut b o n e
    have U':Un (frs X.stack) fp H2 (upd H4 D (.lst ys)) s2.heap h':=⟨fun b o e n hb hx'=>ex b o (nC b o e) (U.keep b o e n hb hx'),fun b o e n hb hx'=>by
      obtain⟨sl,q⟩:=U.slot b o e n hb hx'
      exact⟨sl,ex b _ (nC b o e) q⟩,fun b o e n hx'=>by rw[z0q (nD b o e)]; exact U.free b o e n hx',fun b o e hx'=>by
      obtain⟨o',q⟩:=U.there b o e hx'
      exact⟨o',ex b _ (nC b o e) q⟩,fun b xs e=>by rw[z0q (z0R (U.tups b xs e) hn4)]; exact U.tups b xs e,fun b o xs e=>by rw[z0q (z0R (U.frzs b o xs e) hn4)]; exact U.frzs b o xs e,fun b ps e=>by
      obtain⟨more,q⟩:=U.tbls b ps e
      exact⟨more,by rw[z0q (z0R q hn4)]; exact q⟩⟩
    have ok1:HOk X.prog X.w H4 h':=HOk.other I5.hok I5.free fun b u n e=>ex b u n e
    have ok2:HOk X.prog X.w (upd H4 D (.lst ys)) h':=ok1.track hn4 ⟨Nat.le_of_lt hsz,its,_,hv4,ex D _ hDC hD5⟩
    exact⟨.ref D,upd H4 D (.lst ys),I2.call' (s':={ s5 with heap:=h' }) I5.os U' ok2 I5.bare (fun b hb=>⟨(f2 b hb).2.2.2.1,(f2 b hb).2.1,(f2 b hb).2.2.2.2.1,(f2 b hb).2.2.2.2.2⟩),rfl,qn D hn4⟩
   ·refine wpAny_mono (T.item Y rfl rfl rfl hc i _ s4 σ4 H4 (fun _ _=>False) I4p (stat fr4 one) st4 go) (fun r s5 hr => ?_) fun _ _ z=>z.elim
    obtain⟨u,rfl,h5⟩:=hr
    refine wpAny_mono h5 (fun _ s6 h6 => ?_) fun _ _ z=>z.elim
    obtain⟨xv,H6,I6,r6,y6,st6,fr6⟩:=h6
    have I6p:=I6.pinned (stat fr6 one) (T.obj _ _ st6)
    have after:∀ {σ8:St}{H8:Hp}{s8:Shared},Inv Y _ σ8 H8 s8->_:=fun {σ8 H8 s8} (I8:Inv Y ([(D,{ cls :=.type "list",data :=.seq its.toArray its.length })]++z7E fp s6.heap) σ8 H8 s8)=>
     (show (s8.heap.get? D=some { cls :=.type "list",data :=.seq its.toArray its.length }/\H8 D=none)/\tn (i+1) s8.heap/\(∀ b∈fp,H8 b=none)/\Inv Y [] σ8 H8 s8 from by
      have pD:=I8.pin (D,{ cls :=.type "list",data :=.seq its.toArray its.length }) (by simp)
      refine⟨⟨pD.1,pD.2.1⟩,T.keep _ _ _ st6 fun b hb o e=>(I8.pin (b,o) (List.mem_append_right _ (List.mem_append_right _ (z3C hb e)))).1,fun b hb => ?_,I8.pins_of (pins':=[]) fun p hp=>by simp at hp⟩
      obtain⟨o,e,d⟩:=T.obj _ _ st6 b hb
      exact(I8.pin (b,o) (List.mem_append_right _ (List.mem_append_right _ (z3C hb e)))).2.1)
    refine wpAny_mono (hg C s2 H2 fp _ s6 σ4 H6 xv u _ I6p r6 (step xv H6 y6)) (fun _ s7 h7 => ?_) fun _ _ z=>z.elim
    obtain⟨σ7,H7,I7,q7⟩:=h7
    have yes:∀ s7' H7',Inv Y _ σ7 H7' s7'->(te σ7 H7' fun y H3=>∃ m',m' < n/\W (i+1) m' (ys++[y]) σ7 H3)->_:=fun s7' H7' (I7':Inv Y ([(D,{ cls :=.type "list",data :=.seq its.toArray its.length })]++z7E fp s6.heap) σ7 H7' s7') qe=>
     wpAny_mono (Q':=fun yv s8=>wpAny (model X.prog X.w) X.A (call (.builtin "list.append") [.ref D,yv]) (fun _ s6=>∃ m,m < n/\∃ i ys its σ' H',Inv Y [] σ' H' s6/\s6.heap.get? D=some { cls :=.type "list",data :=.seq (its:List Value).toArray its.length }/\Vals ys its/\H' D=none/\tn i s6.heap/\(∀ b∈fp,H' b=none)/\W i m ys σ' H') (notedBy (model X.prog X.w) X.A (compEnvC scope (z5y X.env scope.names []) C X.env) fun e s'=>compPost (model X.prog X.w) X.A X.xe none (EP X pins σ Q) (.ref D) C (.error e) s') s8) (he C s2 H2 fp _ s7' σ7 H7' _ I7' qe) (fun yv s8 h8=>by
      obtain⟨y,H8,I8,r8,m',hm',w8⟩:=h8
      obtain⟨⟨pD1,pD2⟩,st8,fr8,I8u⟩:=after I8
      refine append_at (hsz:=by rw[List.size_toArray, <- hl4]; exact Nat.le_of_lt hsz) pD1 fun h9 sb9 hD9 => ?_
      refine⟨m',hm',i+1,ys++[y],its++[yv],σ7,H8,I8u.turned (it:=D) (t':=s8.toks) (fun b o n e=>sb9.extBut b o n e) pD2 hDC (.inr (by rw[hDD]; exact Nat.le_refl _)) (fun y a e z=>by
        have:=cellD y a (cp.clo I2 e).1
        rw[z] at this
        exact Nat.lt_irrefl _ this) (fun p hp=>by simp[Y] at hp),?_,Vals.append hv4 (.cons r8 .nil),pD2,T.keep _ _ _ st8 fun b hb o e=>sb9.extBut b o (fpD b hb) e,fr8,w8⟩
      show h9.get? D=_
      rw[hD9]
      simp) (E':=notedBy (model X.prog X.w) X.A (compEnvC scope (z5y X.env scope.names []) C X.env) fun e s'=>compPost (model X.prog X.w) X.A X.xe none (EP X pins σ Q) (.ref D) C (.error e) s') (fun _ _ z=>z.elim)
    cases ct with
    | none=>
     have ht':tc=z7Y:=ht
     subst ht'
     simp only[zeM,if_true]
     have q7':if true=true then te σ7 H7 fun y H3=>∃ m',m' < n/\W (i+1) m' (ys++[y]) σ7 H3 else ∃ m',m' < n/\W (i+1) m' ys σ7 H7:=q7
     rw[if_pos rfl] at q7'
     exact yes s7 H7 I7 q7'
    | some c=>
     refine wpAny_mono (ht C s2 H2 fp _ s7 σ7 H7 _ I7 q7) (fun b s8 h8 => ?_) fun _ _ z=>z.elim
     obtain⟨H8,I8,q8⟩:=h8
     cases b with
     | true=>
      rw[if_pos rfl] at q8 ⊢
      exact yes s8 H8 I8 q8
     | false=>
      rw[if_neg Bool.false_ne_true] at q8 ⊢
      obtain⟨m',hm',w8⟩:=q8
      obtain⟨⟨pD1,pD2⟩,st8,fr8,I8u⟩:=after I8
      exact⟨m',hm',i+1,ys,its,σ7,H8,I8u,pD1,hv4,pD2,st8,fr8,w8⟩
  ·rw[e3]; exact hacc
  ·rw[e3]; exact T.keep _ _ _ st2 fun b _ o e=>old b o e
 exact codeAny_compStart_list (loop _ rfl) (T.self _ 0 _ _ _ (T.keep _ _ _ st2 fun b _ o e=>old b o e) (loop _ rfl))
theorem zhh {elt iter target:Expr}{ct:Option Expr}{pos:Pos}{scope:Scope}{wi:TI}{g:TG}{tc:TT}{te:TE}{N':List Str}{nt:Nat}{js:List Nat}(hc:X.calm=true)(hi:QI X target iter wi)(hk:scope.kind = .function)(cp:z7j X N' nt js scope)
  (hg:∀ (C:Addr) (s:Shared) (H:Hp) (fp:List Addr),QG (X.compG scope N' C s H fp) target g)
  (ht:match ct with
   | none=>tc=z7Y
   | some c=>∀ (C:Addr) (s:Shared) (H:Hp) (fp:List Addr),QT (X.compG scope N' C s H fp) c tc)
  (he:∀ (C:Addr) (s:Shared) (H:Hp) (fp:List Addr),QE (X.compG scope N' C s H fp) elt te) (hs:∀ x,foldedSetIterable iter X.env x=pure x:=by intro _; rfl):QE X (.ListComp elt [⟨target,iter,ct.toList,0⟩] scope pos) (tLcG wi g tc te nt js):=by
 refine⟨zhC hc hi.p hk cp (fun C s H fp=>(hg C s H fp).p) ?_ (fun C s H fp=>(he C s H fp).p) hs⟩
 cases ct with
 | none=>exact ht
 | some c=>exact fun C s H fp=>(ht C s H fp).p
theorem zcx {i:Nat}{x:Str}{pos:Pos}(hN:X.N.Nodup)(hi:X.N[i]? = some x)(hx:X.env.scope.names.lookup x=some .local):QG X (.Name x pos) (z6z i):=⟨zcF hN hi (.inl hx) (.inr hx)⟩
end
end L2
namespace L2
open PySem PySem.Spec PyProof.Rows
theorem zc6:∀ (ns:List Int) {us:List Value},Vals (ns.map V.int) us->∃ l:List (Int × Tok),us=l.map (fun p=>Value.int p.1 p.2)/\l.map (·.1)=ns
 | [],_,r=>by cases r; exact⟨[],rfl,rfl⟩
 | n::ns,_,r=>by
  cases r with
  | cons r1 r2=>
   obtain⟨t,rfl⟩:=(show ∃ t,_=Value.int n t from r1)
   obtain⟨l,rfl,hl⟩:=zc6 ns r2
   exact⟨(n,t)::l,rfl,by rw[List.map_cons,hl]⟩
section
variable {X:Cx}
noncomputable def zj3 (K:W.Frag):List V->Hp->VK->Prop:=fun xs H Q=>∃ (a:Addr) (ns:List Int),xs=[.ref a]/\SqL K H a (ns.map V.int)/\Q (.int ns.sum) H
theorem zdp (hc:X.calm=true):z2w X (.builtin "sum") (zj3 X.K):=by
 intro pins s σ H xs us Q I r h
 obtain⟨a,ns,rfl,hs,q⟩:=h
 obtain⟨u,rfl,ru⟩:=z9n r
 cases (show u=Value.ref a from ru)
 obtain⟨its,hv,pl,_⟩:=I.list hs
 obtain⟨l,rfl,hl⟩:=zc6 ns hv
 refine sum_intListG (xs:=l.toArray) (I.ok.hd hc) (by have:=pl.isList; simpa[intItems] using this) fun h' tk t' hk => ?_
 refine⟨.int _,H,I.kept (t':=tk) hk,⟨t',rfl⟩,?_⟩
 rw[preSum_eq,List.take_of_length_le (by simp)]
 simpa[hl] using q
end
section
variable {X:Cx}
theorem z2w.imp {f:Value}{r r':List V->Hp->VK->Prop}(h:z2w X f r)(i:∀ xs H Q,r' xs H Q->r xs H Q):z2w X f r':=fun pins s σ H xs us Q I rv q=>h pins s σ H xs us Q I rv (i xs H Q q)
end
theorem z8H {α:Type}{xs:List α}{i:Int}(h0:0<=i)(h1:i < xs.length):∃ v∈xs,atI xs i=some v:=by
 have hk:i.toNat < xs.length:=by omega
 have ek:i=((i.toNat:Nat):Int):=by omega
 refine⟨xs[i.toNat],List.getElem_mem hk,?_⟩
 have q:atI xs ((i.toNat:Nat):Int)=some xs[i.toNat]:=zgq (List.getElem?_eq_getElem hk)
 rw[<- ek] at q
 exact q
end L2
namespace L2
open PySem PySem.Spec PyProof.Rows
section
variable {X:Cx}{pins:List (Addr × Obj)}{σ:St}{H:Hp}{s:Shared}
theorem zhq {elt iter target:Expr}{ct:Option Expr}{pos spos py:Pos}{y:Str}{iy:Nat}(hN:X.N.Nodup)(hiy:X.N[iy]? = some y)(hly:X.env.scope.names.lookup y=some .local){scope:Scope}{wi:TI}{g:TG}{tc:TT}{te:TE}{N':List Str}{nt:Nat}{js:List Nat}(hc:X.calm=true)(hi:PI X target iter wi)(hk:scope.kind = .function)(cp:z7j X N' nt js scope)
  (hg:∀ (C:Addr) (s:Shared) (H:Hp) (fp:List Addr),PG (X.compG scope N' C s H fp) target g)
  (ht:match ct with
   | none=>tc=z7Y
   | some c=>∀ (C:Addr) (s:Shared) (H:Hp) (fp:List Addr),PT (X.compG scope N' C s H fp) c tc)
  (he:∀ (C:Addr) (s:Shared) (H:Hp) (fp:List Addr),PE (X.compG scope N' C s H fp) elt te) (hsw:swapsWith (.ListComp elt [⟨target,iter,ct.toList,0⟩] scope pos) (some (.Name y py)) spos.line X.env=pure true:=by rfl) (hs:∀ x,foldedSetIterable iter X.env x=pure x:=by intro _; rfl):PS X (.Assign [.Name y py] (.ListComp elt [⟨target,iter,ct.toList,0⟩] scope pos) spos) (tAsg (tLcG wi g tc te nt js) (z6z iy)):=by
 intro pins s σ H Dn I h
 rw[exec_Assign_Name_used _ _ _ _ hsw]
 refine wpAny_bind (wpAny_standAt (wpAny_bind ?_))
 show wpAny _ X.A (do let _ <- comprehension (.ListComp elt [⟨target,iter,ct.toList,0⟩] scope pos) scope X.env _ (newList []) false (eval iter X.env) (some (assign (.Name y py) X.env))) _ _ s
 refine wpAny_bind (wpAny_mono (wpAny_comprehension_free (use:=some (assign (.Name y py) X.env)) (Q:=fun _ s'=>SP X pins Dn .next s') rfl hs (z7i (cp.cells I)) hk cp.loc (thn (hi pins s σ H _ I h) fun v s1 h1=>thn h1 fun itv s2 h2 => ?_)) (fun _ s' hq=>wpAny_pure (wpAny_pure hq)) fun _ _ e=>e)
 obtain⟨it,fp,tn,J,H2,e,I2,T,st2,f2,W,⟨m0,w0⟩,turn⟩:=h2
 subst e
 have hfo:∀ b∈fp,b < s2.heap.objs.size:=fun b hb=>by
  obtain⟨o,e,_⟩:=T.obj _ _ st2 b hb
  exact Heap.lt_size e
 refine wpAny_newObj_type (wpAny_newFunctionEnv cp.nocell (by intro y hy; simp at hy) (fun g1 hns1 hsb1 => ?_) hk)
 dsimp only at hns1 hsb1 ⊢
 generalize hG2:s2.heap.push { cls :=.type "list",dict:=none,data :=.seq ([]:List Value).toArray }=G2 at hns1 hsb1 ⊢
 have hC:G2.objs.size=s2.heap.objs.size+1:=by rw[<- hG2,Heap.size_push]
 have hDC:s2.heap.objs.size≠G2.objs.size:=by rw[hC]; exact Nat.ne_of_lt (Nat.lt_succ_self _)
 have below:∀ b,b < s2.heap.objs.size->b≠G2.objs.size/\b≠s2.heap.objs.size:=fun b hb=>⟨by rw[hC]; exact Nat.ne_of_lt (Nat.lt_succ_of_lt hb),Nat.ne_of_lt hb⟩
 have old:∀ b o,s2.heap.get? b=some o->g1.get? b=some o:=fun b o e=>hsb1.extBut b o (below b (Heap.lt_size e)).1 (Heap.get?_push_of_some _ (hG2 ▸ Heap.get?_push_of_some _ e))
 have hacc:g1.get? s2.heap.objs.size=some { cls :=.type "list",data :=.seq ([]:List Value).toArray 0 }:=hsb1.extBut _ _ hDC (Heap.get?_push_of_some _ (hG2 ▸ Heap.get?_push_size _ rfl))
 have hCge:s2.heap.objs.size<=G2.objs.size:=by rw[hC]; exact Nat.le_succ _
 have cellD:∀ y a,X.env.cells.lookup y=some a->a < s2.heap.objs.size:=fun y a e=>by
  obtain⟨v,o,ho,_⟩:=I2.cell y a e
  exact Heap.lt_size ho
 generalize hCC:G2.objs.size=C at*
 generalize hDD:s2.heap.objs.size=D at*
 let Y:Cx:=X.compG scope N' C s2 H2 fp
 have IY:Inv Y [] (List.replicate nt none++js.map fun j=>(σ[j]?).getD none) H2 { s2 with heap:=g1,toks:=s2.toks+([]:List (Str × Value)).length }:=I2.compG hk cp (by rw[hDD]; exact hCge) f2 (by rw[hDD]; exact hfo) old ⟨_,hns1⟩ hc
 have fpD:∀ b∈fp,b≠D:=fun b hb=>(below b (hfo b hb)).2
 have fpC:∀ b∈fp,b≠C:=fun b hb=>(below b (hfo b hb)).1
 have H2D:H2 D=none:=I2.hok.fresh (by rw[hDD]; exact Nat.le_refl _)
 have Dnf:D ∉ frs X.stack:=fun z=>by
  obtain⟨_,o,e,_⟩:=I2.stack.mem z
  exact absurd (Heap.lt_size e) (by rw[hDD]; exact Nat.lt_irrefl _)
 have stat:∀ {H':Hp}{pl:List (Addr × Obj)},(∀ b∈fp,H' b=none)->(∀ p∈pl,p.1=D)->∀ b∈fp,FpOk Y pl H' b:=fun hn hp b hb=>⟨hn b hb,fpC b hb,(fun z=>IY.ok.exfs b hb z),.inl hb,(fun y a e=>(f2 b hb).2.2.2.2.1 y a (cp.clo I2 e).1),fun p hp' z=>fpD b hb (z.symm.trans (hp p (by simpa[Y] using hp')))⟩
 have loop:∀ s3:Shared,s3={ s2 with heap:=g1,toks:=s2.toks+([]:List (Str × Value)).length }->
   codeAny (model X.prog X.w) X.A (.compLoop (.ListComp elt [⟨target,iter,ct.toList,0⟩] scope pos) 0 (.ref it) (.ref D) (compEnvC scope (z5y X.env scope.names []) C X.env)) (compPost (model X.prog X.w) X.A X.xe (some (assign (.Name y py) X.env)) (fun _ s'=>SP X pins Dn .next s') (.ref D) C) s3:=by
  intro s3 e3
  refine z7I (fun n s'=>∃ i ys its σ' H',Inv Y [] σ' H' s'/\s'.heap.get? D=some { cls :=.type "list",data :=.seq (its:List Value).toArray its.length }/\Vals ys its/\H' D=none/\tn i s'.heap/\(∀ b∈fp,H' b=none)/\W i n ys σ' H') ?_ m0 ⟨0,[],[],_,H2,e3 ▸ IY,?_,.nil,H2D,?_,fun b hb=>(f2 b hb).1,w0⟩
  ·rintro n s4 ⟨i,ys,its,σ4,H4,I4,hD4,hv4,hn4,st4,fr4,w4⟩
   obtain⟨hsz,step⟩:=turn i n ys σ4 H4 w4
   have hl4:ys.length=its.length:=hv4.length
   have I4p:Inv Y [(D,{ cls :=.type "list",data :=.seq its.toArray its.length })] σ4 H4 s4:=I4.pins_of fun p hp=>by
    rw[List.mem_singleton.mp hp]
    exact⟨hD4,hn4,hDC,Dnf,fun v z=>by cases z⟩
   have one:∀ p∈[((D:Addr),({ cls :=.type "list",data :=.seq its.toArray its.length }:Obj))],p.1=D:=fun p hp=>by rw[List.mem_singleton.mp hp]
   rcases step with ⟨stop,qn⟩ | ⟨go,step⟩
   ·refine wpAny_mono (T.done Y rfl rfl rfl hc i _ s4 σ4 H4 (fun _ _=>False) I4p (stat fr4 one) st4 stop) (fun r s5 hr => ?_) fun _ _ z=>z.elim
    obtain⟨rfl,I5⟩:=hr
    have hD5:s5.heap.get? D=some { cls :=.type "list",data :=.seq its.toArray its.length }:=(I5.pin (D,_) (by simp)).1
    obtain⟨m5,hm5,_⟩:=I5.loc
    have U:Un (frs X.stack) fp H2 H4 s2.heap s5.heap:=I5.base
    have nC:∀ b o,s2.heap.get? b=some o->b≠C:=fun b o e=>(below b (hDD ▸ Heap.lt_size e)).1
    have nD:∀ b o,s2.heap.get? b=some o->b≠D:=fun b o e=>(below b (hDD ▸ Heap.lt_size e)).2
    have U':Un (frs X.stack) fp H2 (upd H4 D (.lst ys)) s2.heap s5.heap:=⟨U.keep,U.slot,fun b o e n hx'=>by rw[z0q (nD b o e)]; exact U.free b o e n hx',U.there,fun b xs e=>by rw[z0q (z0R (U.tups b xs e) hn4)]; exact U.tups b xs e,fun b o xs e=>by rw[z0q (z0R (U.frzs b o xs e) hn4)]; exact U.frzs b o xs e,fun b ps e=>by
      obtain⟨more,q⟩:=U.tbls b ps e
      exact⟨more,by rw[z0q (z0R q hn4)]; exact q⟩⟩
    have ok2:HOk X.prog X.w (upd H4 D (.lst ys)) s5.heap:=HOk.track I5.hok hn4 ⟨Nat.le_of_lt hsz,its,_,hv4,hD5⟩
    have I6:Inv X pins σ (upd H4 D (.lst ys)) s5:=I2.call' (s':=s5) I5.os U' ok2 I5.bare (fun b hb=>⟨(f2 b hb).2.2.2.1,(f2 b hb).2.1,(f2 b hb).2.2.2.2.1,(f2 b hb).2.2.2.2.2⟩)
    show wpAny _ X.A (assign (.Name y py) X.env (.ref D)) _ _ _
    refine wpAny_assign_Name (za2 I6 hN hiy (.inl hly) (show RelV (.ref D) (.ref D) from rfl) (fun s7 I7 hs7 => ?_) (.inr hly))
    obtain⟨c7,sb7,hc7⟩:=hs7
    have lt2:X.env.locals < D:=by rw[<- hDD]; exact I2.lt
    have c7C:c7≠C:=by
     rcases hc7 with z | z
     ·rw[z]; exact Nat.ne_of_lt (Nat.lt_of_lt_of_le lt2 hCge)
     ·exact Nat.ne_of_lt (Nat.lt_of_lt_of_le (cellD _ _ z) hCge)
    refine⟨m5,hm5.sameBut sb7 (Ne.symm c7C),fun h' sb => ?_⟩
    refine⟨_,_,I7.turned (it:=C) (t':=s7.toks) (fun b o n e=>sb.extBut b o n e) (by rw[z0q (Ne.symm hDC)]; exact I5.free) (Nat.ne_of_gt (Nat.lt_of_lt_of_le lt2 hCge)) (.inr (Nat.le_trans I2.sz (by rw[hDD]; exact hCge))) (fun x a e z => ?_) (fun p hp z => ?_),qn D hn4⟩
    ·have:=cellD x a e
     rw[z] at this
     exact absurd (Nat.lt_of_lt_of_le this hCge) (Nat.lt_irrefl _)
    ·have:=Heap.lt_size (I2.pin p hp).1
     rw[z,hDD] at this
     exact absurd (Nat.lt_of_lt_of_le this hCge) (Nat.lt_irrefl _)
   ·refine wpAny_mono (T.item Y rfl rfl rfl hc i _ s4 σ4 H4 (fun _ _=>False) I4p (stat fr4 one) st4 go) (fun r s5 hr => ?_) fun _ _ z=>z.elim
    obtain⟨u,rfl,h5⟩:=hr
    refine wpAny_mono h5 (fun _ s6 h6 => ?_) fun _ _ z=>z.elim
    obtain⟨xv,H6,I6,r6,y6,st6,fr6⟩:=h6
    have I6p:=I6.pinned (stat fr6 one) (T.obj _ _ st6)
    have after:∀ {σ8:St}{H8:Hp}{s8:Shared},Inv Y _ σ8 H8 s8->_:=fun {σ8 H8 s8} (I8:Inv Y ([(D,{ cls :=.type "list",data :=.seq its.toArray its.length })]++z7E fp s6.heap) σ8 H8 s8)=>
     (show (s8.heap.get? D=some { cls :=.type "list",data :=.seq its.toArray its.length }/\H8 D=none)/\tn (i+1) s8.heap/\(∀ b∈fp,H8 b=none)/\Inv Y [] σ8 H8 s8 from by
      have pD:=I8.pin (D,{ cls :=.type "list",data :=.seq its.toArray its.length }) (by simp)
      refine⟨⟨pD.1,pD.2.1⟩,T.keep _ _ _ st6 fun b hb o e=>(I8.pin (b,o) (List.mem_append_right _ (List.mem_append_right _ (z3C hb e)))).1,fun b hb => ?_,I8.pins_of (pins':=[]) fun p hp=>by simp at hp⟩
      obtain⟨o,e,d⟩:=T.obj _ _ st6 b hb
      exact(I8.pin (b,o) (List.mem_append_right _ (List.mem_append_right _ (z3C hb e)))).2.1)
    refine wpAny_mono (hg C s2 H2 fp _ s6 σ4 H6 xv u _ I6p r6 (step xv H6 y6)) (fun _ s7 h7 => ?_) fun _ _ z=>z.elim
    obtain⟨σ7,H7,I7,q7⟩:=h7
    have yes:∀ s7' H7',Inv Y _ σ7 H7' s7'->(te σ7 H7' fun y H3=>∃ m',m' < n/\W (i+1) m' (ys++[y]) σ7 H3)->_:=fun s7' H7' (I7':Inv Y ([(D,{ cls :=.type "list",data :=.seq its.toArray its.length })]++z7E fp s6.heap) σ7 H7' s7') qe=>
     wpAny_mono (Q':=fun yv s8=>wpAny (model X.prog X.w) X.A (call (.builtin "list.append") [.ref D,yv]) (fun _ s6=>∃ m,m < n/\∃ i ys its σ' H',Inv Y [] σ' H' s6/\s6.heap.get? D=some { cls :=.type "list",data :=.seq (its:List Value).toArray its.length }/\Vals ys its/\H' D=none/\tn i s6.heap/\(∀ b∈fp,H' b=none)/\W i m ys σ' H') (notedBy (model X.prog X.w) X.A (compEnvC scope (z5y X.env scope.names []) C X.env) fun e s'=>compPost (model X.prog X.w) X.A X.xe (some (assign (.Name y py) X.env)) (fun _ s'=>SP X pins Dn .next s') (.ref D) C (.error e) s') s8) (he C s2 H2 fp _ s7' σ7 H7' _ I7' qe) (fun yv s8 h8=>by
      obtain⟨y,H8,I8,r8,m',hm',w8⟩:=h8
      obtain⟨⟨pD1,pD2⟩,st8,fr8,I8u⟩:=after I8
      refine append_at (hsz:=by rw[List.size_toArray, <- hl4]; exact Nat.le_of_lt hsz) pD1 fun h9 sb9 hD9 => ?_
      refine⟨m',hm',i+1,ys++[y],its++[yv],σ7,H8,I8u.turned (it:=D) (t':=s8.toks) (fun b o n e=>sb9.extBut b o n e) pD2 hDC (.inr (by rw[hDD]; exact Nat.le_refl _)) (fun y a e z=>by
        have:=cellD y a (cp.clo I2 e).1
        rw[z] at this
        exact Nat.lt_irrefl _ this) (fun p hp=>by simp[Y] at hp),?_,Vals.append hv4 (.cons r8 .nil),pD2,T.keep _ _ _ st8 fun b hb o e=>sb9.extBut b o (fpD b hb) e,fr8,w8⟩
      show h9.get? D=_
      rw[hD9]
      simp) (E':=notedBy (model X.prog X.w) X.A (compEnvC scope (z5y X.env scope.names []) C X.env) fun e s'=>compPost (model X.prog X.w) X.A X.xe (some (assign (.Name y py) X.env)) (fun _ s'=>SP X pins Dn .next s') (.ref D) C (.error e) s') (fun _ _ z=>z.elim)
    cases ct with
    | none=>
     have ht':tc=z7Y:=ht
     subst ht'
     simp only[zeM,if_true]
     have q7':if true=true then te σ7 H7 fun y H3=>∃ m',m' < n/\W (i+1) m' (ys++[y]) σ7 H3 else ∃ m',m' < n/\W (i+1) m' ys σ7 H7:=q7
     rw[if_pos rfl] at q7'
     exact yes s7 H7 I7 q7'
    | some c=>
     refine wpAny_mono (ht C s2 H2 fp _ s7 σ7 H7 _ I7 q7) (fun b s8 h8 => ?_) fun _ _ z=>z.elim
     obtain⟨H8,I8,q8⟩:=h8
     cases b with
     | true=>
      rw[if_pos rfl] at q8 ⊢
      exact yes s8 H8 I8 q8
     | false=>
      rw[if_neg Bool.false_ne_true] at q8 ⊢
      obtain⟨m',hm',w8⟩:=q8
      obtain⟨⟨pD1,pD2⟩,st8,fr8,I8u⟩:=after I8
      exact⟨m',hm',i+1,ys,its,σ7,H8,I8u,pD1,hv4,pD2,st8,fr8,w8⟩
  ·rw[e3]; exact hacc
  ·rw[e3]; exact T.keep _ _ _ st2 fun b _ o e=>old b o e
 exact codeAny_compStart_list (loop _ rfl) (T.self _ 0 _ _ _ (T.keep _ _ _ st2 fun b _ o e=>old b o e) (loop _ rfl))
theorem zhb {elt iter target:Expr}{ct:Option Expr}{pos spos py:Pos}{y:Str}{iy:Nat}(hN:X.N.Nodup)(hiy:X.N[iy]? = some y)(hly:X.env.scope.names.lookup y=some .local){scope:Scope}{wi:TI}{g:TG}{tc:TT}{te:TE}{N':List Str}{nt:Nat}{js:List Nat}(hc:X.calm=true)(hi:QI X target iter wi)(hk:scope.kind = .function)(cp:z7j X N' nt js scope)
  (hg:∀ (C:Addr) (s:Shared) (H:Hp) (fp:List Addr),QG (X.compG scope N' C s H fp) target g)
  (ht:match ct with
   | none=>tc=z7Y
   | some c=>∀ (C:Addr) (s:Shared) (H:Hp) (fp:List Addr),QT (X.compG scope N' C s H fp) c tc)
  (he:∀ (C:Addr) (s:Shared) (H:Hp) (fp:List Addr),QE (X.compG scope N' C s H fp) elt te) (hsw:swapsWith (.ListComp elt [⟨target,iter,ct.toList,0⟩] scope pos) (some (.Name y py)) spos.line X.env=pure true:=by rfl) (hs:∀ x,foldedSetIterable iter X.env x=pure x:=by intro _; rfl):QS X (.Assign [.Name y py] (.ListComp elt [⟨target,iter,ct.toList,0⟩] scope pos) spos) (tAsg (tLcG wi g tc te nt js) (z6z iy)):=by
 refine⟨zhq hN hiy hly hc hi.p hk cp (fun C s H fp=>(hg C s H fp).p) ?_ (fun C s H fp=>(he C s H fp).p) hsw hs⟩
 cases ct with
 | none=>exact ht
 | some c=>exact fun C s H fp=>(ht C s H fp).p
end
end L2
namespace Pu
open PySem PySem.Spec PyProof.Rows L2
inductive D where
 | non | bl (b:Bool) | int (i:Int) | str (x:Str) | tup (l:List D) | lst (l:List D) | dct (ks vs:List D) | fn (n:Nat) | exc (x:Str)
instance:Inhabited D:=⟨.non⟩
noncomputable def ziw:Nat->Str
 | 0=>"turn_by" | 1=>"turn_among" | 2=>"step_of" | 3=>"step_among" | _=>""
noncomputable def kD:Key->D
 | .inl i =>.int i
 | .inr x =>.str x
section
variable (K:W.Frag)(mg:Str->Option Value)
mutual
/-- the value v stands for d,in the heap G -/
noncomputable def RD (G:Hp):D->V->Prop
 | .non,v=>v = .non
 | .bl b,v=>v = .bl b
 | .int i,v=>v = .int i
 | .str x,v=>v = .str x
 | .tup ds,v=>∃ a xs,v = .ref a/\SqT K G a xs/\RDs G ds xs
 | .lst ds,v=>∃ a xs,v = .ref a/\SqL K G a xs/\RDs G ds xs
 | .dct ks vs,v=>∃ a xs,v = .ref a/\RDs G vs xs/\((∃ kvs:List (Key × V),G a=some (.dK kvs)/\ks=kvs.map (fun p=>kD p.1)/\xs=kvs.map (·.2))\/∃ kvs:List (List Key × V),G a=some (.dT kvs)/\ks=kvs.map (fun p =>.tup (p.1.map kD))/\xs=kvs.map (·.2))
 | .fn n,v=>∃ f,v = .ref f/\mg (ziw n)=some (.ref f)
 | .exc x,v=>∃ ea C,v = .ref ea/\G ea=some (.ext (z5z ea C))/\mg x=some (.ref C)
noncomputable def RDs (G:Hp):List D->List V->Prop
 | [],xs=>xs=[]
 | d::ds,xs=>∃ x r,xs=x::r/\RD G d x/\RDs G ds r
end
end
section
variable {K:W.Frag}{mg:Str->Option Value}{G G' H H':Hp}
theorem Same.refl':Same H H:=fun _ _ h=>h
theorem z0f {A B C:Hp}(h:Same A B)(h':Same B C):Same A C:=fun a o e=>h' a o (h a o e)
theorem z5k {a:Addr}{xs:List V}(e:Same G G')(h:SqL K G a xs):SqL K G' a xs:=by
 rcases h with (h | ⟨o,h⟩) | h
 ·exact .inl (.inl (e _ _ h))
 ·exact .inl (.inr ⟨o,e _ _ h⟩)
 ·exact .inr h
theorem z1X {a:Addr}{xs:List V}(e:Same G G')(h:SqT K G a xs):SqT K G' a xs:=by
 rcases h with (h | ⟨o,h⟩) | h
 ·exact .inl (.inl (e _ _ h))
 ·exact .inl (.inr ⟨o,e _ _ h⟩)
 ·exact .inr h
mutual
theorem RD.same (e:Same G G'):∀ (d:D) {v:V},RD K mg G d v->RD K mg G' d v
 | .non,_,h=>by simpa[RD] using h
 | .bl _,_,h=>by simpa[RD] using h
 | .int _,_,h=>by simpa[RD] using h
 | .str _,_,h=>by simpa[RD] using h
 | .fn _,_,h=>by rw[RD] at h ⊢; exact h
 | .exc _,_,h=>by
  rw[RD] at h ⊢
  obtain⟨ea,C,h1,h2,h3⟩:=h
  exact⟨ea,C,h1,e _ _ h2,h3⟩
 | .tup ds,_,h=>by
  rw[RD] at h ⊢
  obtain⟨a,xs,h1,h2,h3⟩:=h
  exact⟨a,xs,h1,z1X e h2,RDs.same e ds h3⟩
 | .lst ds,_,h=>by
  rw[RD] at h ⊢
  obtain⟨a,xs,h1,h2,h3⟩:=h
  exact⟨a,xs,h1,z5k e h2,RDs.same e ds h3⟩
 | .dct ks vs,_,h=>by
  rw[RD] at h ⊢
  obtain⟨a,xs,h1,h3,h4⟩:=h
  refine⟨a,xs,h1,RDs.same e vs h3,?_⟩
  rcases h4 with ⟨kvs,q,r⟩ | ⟨kvs,q,r⟩
  ·exact .inl ⟨kvs,e _ _ q,r⟩
  ·exact .inr ⟨kvs,e _ _ q,r⟩
theorem RDs.same (e:Same G G'):∀ (ds:List D) {xs:List V},RDs K mg G ds xs->RDs K mg G' ds xs
 | [],_,h=>by simpa[RDs] using h
 | d::ds,_,h=>by
  rw[RDs] at h ⊢
  obtain⟨x,r,h1,h2,h3⟩:=h
  exact⟨x,r,h1,RD.same e d h2,RDs.same e ds h3⟩
end
theorem RDs.nil:RDs K mg G [] []:=by rw[RDs]
theorem RDs.cons {d:D}{v:V}{ds:List D}{vs:List V}(h:RD K mg G d v)(t:RDs K mg G ds vs):RDs K mg G (d::ds) (v::vs):=by rw[RDs]; exact⟨v,vs,rfl,h,t⟩
theorem RDs.len:∀ {ds:List D}{vs:List V},RDs K mg G ds vs->vs.length=ds.length
 | [],_,h=>by rw[RDs] at h; subst h; rfl
 | _::_,_,h=>by
  rw[RDs] at h
  obtain⟨x,r,rfl,_,h3⟩:=h
  simp[RDs.len h3]
theorem RDs.app:∀ {ds es:List D}{vs us:List V},RDs K mg G ds vs->RDs K mg G es us->RDs K mg G (ds++es) (vs++us)
 | [],_,_,_,h,k=>by rw[RDs] at h; subst h; exact k
 | _::_,_,_,_,h,k=>by
  rw[RDs] at h
  obtain⟨x,r,rfl,h2,h3⟩:=h
  exact RDs.cons h2 (RDs.app h3 k)
theorem RDs.get:∀ {ds:List D}{vs:List V}{i:Nat}{d:D},RDs K mg G ds vs->ds[i]? = some d->∃ v,vs[i]? = some v/\RD K mg G d v
 | [],_,_,_,_,e=>by simp at e
 | _::_,_,0,_,h,e=>by
  rw[RDs] at h
  obtain⟨x,r,rfl,h2,h3⟩:=h
  simp at e; subst e
  exact⟨x,rfl,h2⟩
 | _::_,_,i+1,_,h,e=>by
  rw[RDs] at h
  obtain⟨x,r,rfl,h2,h3⟩:=h
  obtain⟨v,e1,e2⟩:=RDs.get (i:=i) h3 (by simpa using e)
  exact⟨v,by simpa using e1,e2⟩
theorem RDs.take:∀ {ds:List D}{vs:List V}(n:Nat),RDs K mg G ds vs->RDs K mg G (ds.take n) (vs.take n)
 | _,_,0,_=>by simp; exact RDs.nil
 | [],_,_+1,h=>by rw[RDs] at h; subst h; exact RDs.nil
 | _::_,_,n+1,h=>by
  rw[RDs] at h
  obtain⟨x,r,rfl,h2,h3⟩:=h
  exact RDs.cons h2 (RDs.take n h3)
theorem RDs.drop:∀ {ds:List D}{vs:List V}(n:Nat),RDs K mg G ds vs->RDs K mg G (ds.drop n) (vs.drop n)
 | _,_,0,h=>by simpa using h
 | [],_,_+1,h=>by rw[RDs] at h; subst h; exact RDs.nil
 | _::_,_,n+1,h=>by
  rw[RDs] at h
  obtain⟨x,r,rfl,h2,h3⟩:=h
  exact RDs.drop n h3
theorem RDs.rev {ds:List D}{vs:List V}(h:RDs K mg G ds vs):RDs K mg G ds.reverse vs.reverse:=by
 induction ds generalizing vs with
 | nil=>rw[RDs] at h; subst h; exact RDs.nil
 | cons d ds ih=>
  rw[RDs] at h
  obtain⟨x,r,rfl,h2,h3⟩:=h
  rw[List.reverse_cons,List.reverse_cons]
  exact RDs.app (ih h3) (RDs.cons h2 RDs.nil)
theorem RDs.set {d:D}{v:V}(q:RD K mg G d v):∀ {ds:List D}{vs:List V}(i:Nat),RDs K mg G ds vs->RDs K mg G (ds.set i d) (vs.set i v)
 | [],_,_,h=>by rw[RDs] at h; subst h; exact RDs.nil
 | _::_,_,0,h=>by
  rw[RDs] at h
  obtain⟨x,r,rfl,h2,h3⟩:=h
  exact RDs.cons q h3
 | _::_,_,i+1,h=>by
  rw[RDs] at h
  obtain⟨x,r,rfl,h2,h3⟩:=h
  exact RDs.cons h2 (RDs.set q i h3)
theorem RDs.at {ds:List D}{vs:List V}{i:Int}{d:D}(h:RDs K mg G ds vs)(e:atI ds i=some d):∃ v,atI vs i=some v/\RD K mg G d v:=by
 unfold atI at e ⊢
 rw[h.len]
 cases q:ixN ds.length i with
 | none=>rw[q] at e; cases e
 | some j=>
  rw[q] at e
  exact h.get e
theorem RDs.cut {ds:List D}{vs:List V}(lo hi:Option Int)(h:RDs K mg G ds vs):RDs K mg G ((ds.drop (HT.sIx ds.length 0 lo)).take (HT.sIx ds.length ds.length hi - HT.sIx ds.length 0 lo)) (cutV vs lo hi):=by
 unfold cutV
 rw[h.len]
 exact(h.drop _).take _
end
inductive B where
 | n | s (d:D) | o (d:D)
noncomputable abbrev Env:=List B
noncomputable def B.get:B->Option D
 | .n=>none
 | .s d=>some d
 | .o d=>some d
noncomputable def Env.get (ρ:Env)(i:Nat):Option D:=match ρ,i with
 | [],_=>none
 | b::_,0=>b.get
 | _::r,i+1=>Env.get r i
theorem Env.get_eq:∀ (ρ:Env) (i:Nat),Env.get ρ i=(ρ[i]?).bind B.get
 | [],i=>by simp[Env.get]
 | b::r,0=>by simp[Env.get]
 | b::r,i+1=>by simp[Env.get,Env.get_eq r i]
noncomputable abbrev DK:=D->Prop
noncomputable abbrev XP:=Str->Prop
structure Fn where
 run:List D->DK->XP->Prop
 mono:∀ ds (Q Q':DK) (X X':XP),(∀ d,Q d->Q' d)->(∀ x,X x->X' x)->run ds Q X->run ds Q' X'
structure Ex where
 run:Env->DK->XP->Prop
 mono:∀ ρ (Q Q':DK) (X X':XP),(∀ d,Q d->Q' d)->(∀ x,X x->X' x)->run ρ Q X->run ρ Q' X'
structure Sm where
 run:Env->(Env->Prop)->DK->XP->Prop
 mono:∀ ρ (N N':Env->Prop) (Q Q':DK) (X X':XP),(∀ ρ,N ρ->N' ρ)->(∀ d,Q d->Q' d)->(∀ x,X x->X' x)->run ρ N Q X->run ρ N' Q' X'
noncomputable def onV (o:Option D)(Q:DK):Prop:=match o with
 | some d=>Q d
 | none=>False
noncomputable def Ex.c (d:D):Ex:=⟨fun _ Q _=>Q d,fun _ _ _ _ _ m _ q=>m _ q⟩
noncomputable def Ex.v (i:Nat):Ex:=⟨fun ρ Q _=>onV (ρ.get i) Q,fun ρ Q Q' _ _ m _ q=>by
 show onV (ρ.get i) Q'
 have q':onV (ρ.get i) Q:=q
 cases e:ρ.get i with
 | none=>rw[e] at q'; exact q'
 | some d=>rw[e] at q'; exact m _ q'⟩
noncomputable def runs:List Ex->Env->(List D->Prop)->XP->Prop
 | [],_,Q,_=>Q []
 | e::es,ρ,Q,X=>e.run ρ (fun d=>runs es ρ (fun ds=>Q (d::ds)) X) X
theorem z4A:∀ (es:List Ex) (ρ:Env) (Q Q':List D->Prop) (X X':XP),(∀ d,Q d->Q' d)->(∀ x,X x->X' x)->runs es ρ Q X->runs es ρ Q' X'
 | [],_,_,_,_,_,m,_,q=>m _ q
 | e::es,ρ,Q,Q',X,X',m,mx,q=>e.mono ρ _ _ X X' (fun d q1=>z4A es ρ _ _ X X' (fun ds q2=>m _ q2) mx q1) mx q
noncomputable def Ex.op (f:Fn)(es:List Ex):Ex:=⟨fun ρ Q X=>runs es ρ (fun ds=>f.run ds Q X) X,fun ρ Q Q' X X' m mx q=>z4A es ρ _ _ X X' (fun ds q1=>f.mono ds Q Q' X X' m mx q1) mx q⟩
noncomputable def tst (d:D)(A B:Prop):Prop:=match d with
 | .bl b=>(b=true->A)/\(b=false->B)
 | _=>False
theorem z47 {d:D}{A A' B B':Prop}(ha:A->A')(hb:B->B')(h:tst d A B):tst d A' B':=by
 cases d with
 | bl b=>exact⟨fun e=>ha (h.1 e),fun e=>hb (h.2 e)⟩
 | _=>exact h.elim
theorem za0 {d:D}{A B:Prop}(h:tst d A B):∃ b,d = .bl b/\(b=true->A)/\(b=false->B):=by
 cases d with
 | bl b=>exact⟨b,rfl,h⟩
 | _=>exact h.elim
noncomputable def Ex.and (a b:Ex):Ex:=⟨fun ρ Q X=>a.run ρ (fun d=>tst d (b.run ρ Q X) (Q (.bl false))) X,fun ρ Q Q' X X' m mx q=>a.mono ρ _ _ X X' (fun d q1=>z47 (b.mono ρ Q Q' X X' m mx) (m _) q1) mx q⟩
noncomputable def Ex.or (a b:Ex):Ex:=⟨fun ρ Q X=>a.run ρ (fun d=>tst d (Q (.bl true)) (b.run ρ Q X)) X,fun ρ Q Q' X X' m mx q=>a.mono ρ _ _ X X' (fun d q1=>z47 (m _) (b.mono ρ Q Q' X X' m mx) q1) mx q⟩
noncomputable def Ex.not (a:Ex):Ex:=⟨fun ρ Q X=>a.run ρ (fun d=>match d with | .bl b=>Q (.bl (!b)) | _=>False) X,fun ρ Q Q' X X' m mx q=>a.mono ρ _ _ X X' (fun d q1=>by
 cases d with
 | bl b=>exact m _ q1
 | _=>exact q1.elim) mx q⟩
noncomputable def Ex.ifx (c a b:Ex):Ex:=⟨fun ρ Q X=>c.run ρ (fun d=>tst d (a.run ρ Q X) (b.run ρ Q X)) X,fun ρ Q Q' X X' m mx q=>c.mono ρ _ _ X X' (fun d q1=>z47 (a.mono ρ Q Q' X X' m mx) (b.mono ρ Q Q' X X' m mx) q1) mx q⟩
inductive Tg where
 | nm (i:Nat) | tp (is:List Nat)
noncomputable def z0E:List Nat->List D->Env->Env
 | i::is,d::ds,ρ=>z0E is ds (ρ.set i (.s d))
 | _,_,ρ=>ρ
noncomputable def Tg.put (t:Tg)(d:D)(ρ:Env)(K:Env->Prop):Prop:=match t,d with
 | .nm i,d=>K (ρ.set i (.s d))
 | .tp is,.tup ds=>is.length=ds.length/\K (z0E is ds ρ)
 | _,_=>False
theorem Tg.put_mono {t:Tg}{d:D}{ρ:Env}{K K':Env->Prop}(m:∀ ρ,K ρ->K' ρ)(h:t.put d ρ K):t.put d ρ K':=by
 cases t with
 | nm i=>exact m _ h
 | tp is=>
  cases d with
  | tup ds=>exact⟨h.1,m _ h.2⟩
  | _=>exact h.elim
noncomputable def z07:D->Option (List D)
 | .lst l=>some l
 | .tup l=>some l
 | .str x=>some (x.cps.toList.map fun c =>.str ⟨#[c]⟩)
 | _=>none
noncomputable def onL (o:Option (List D))(Q:List D->Prop):Prop:=match o with
 | some l=>Q l
 | none=>False
theorem zbi {o:Option (List D)}{Q Q':List D->Prop}(m:∀ l,Q l->Q' l)(h:onL o Q):onL o Q':=by
 cases o with
 | none=>exact h
 | some l=>exact m _ h
noncomputable def z7g (f:D->(Option D->Prop)->Prop):List D->(List D->Prop)->Prop
 | [],N=>N []
 | x::xs,N=>f x fun o=>z7g f xs fun r=>N (o.toList++r)
theorem z64 {f f':D->(Option D->Prop)->Prop}(hf:∀ x K K',(∀ o,K o->K' o)->f x K->f' x K'):∀ (xs:List D) (N N':List D->Prop),(∀ l,N l->N' l)->z7g f xs N->z7g f' xs N'
 | [],_,_,m,q=>m _ q
 | x::xs,N,N',m,q=>hf x _ _ (fun o q1=>z64 hf xs _ _ (fun r q2=>m _ q2) q1) q
noncomputable def z1W (nt:Nat)(js:List Nat)(ρ:Env):Env:=List.replicate nt .n++js.map fun j=>(ρ[j]?).getD .n
noncomputable def z7h (t:Tg)(c:Option Ex)(elt:Ex)(ρ:Env)(x:D)(K:Option D->Prop):Prop:=
 t.put x ρ fun ρ'=>match c with
  | none=>elt.run ρ' (fun d=>K (some d)) (fun _=>False)
  | some c=>c.run ρ' (fun b=>tst b (elt.run ρ' (fun d=>K (some d)) (fun _=>False)) (K none)) (fun _=>False)
theorem z7B {t:Tg}{c:Option Ex}{elt:Ex}{ρ:Env}(x:D)(K K':Option D->Prop)(m:∀ o,K o->K' o)(h:z7h t c elt ρ x K):z7h t c elt ρ x K':=by
 refine Tg.put_mono (fun ρ' q => ?_) h
 cases c with
 | none=>exact elt.mono ρ' _ _ _ _ (fun d q1=>m _ q1) (fun _ z=>z) q
 | some c=>exact c.mono ρ' _ _ _ _ (fun b q1=>z47 (elt.mono ρ' _ _ _ _ (fun d q2=>m _ q2) (fun _ z=>z)) (m _) q1) (fun _ z=>z) q
noncomputable def Ex.comp (nt:Nat)(js:List Nat)(t:Tg)(src:Ex)(c:Option Ex)(elt:Ex):Ex:=
 ⟨fun ρ Q X=>src.run ρ (fun d=>onL (z07 d) fun l=>l.length < sizeLine/\z7g (z7h t c elt (z1W nt js ρ)) l fun r=>Q (.lst r)) X,fun ρ Q Q' X X' m mx q=>
  src.mono ρ _ _ X X' (fun d q1=>zbi (fun l q2=>⟨q2.1,z64 z7B l _ _ (fun r q3=>m _ q3) q2.2⟩) q1) mx q⟩
noncomputable def Sm.skip:Sm:=⟨fun ρ N _ _=>N ρ,fun _ _ _ _ _ _ _ m _ _ q=>m _ q⟩
noncomputable def Sm.seq (a b:Sm):Sm:=⟨fun ρ N Q X=>a.run ρ (fun ρ'=>b.run ρ' N Q X) Q X,fun ρ N N' Q Q' X X' mn m mx q=>a.mono ρ _ _ Q Q' X X' (fun ρ' q1=>b.mono ρ' N N' Q Q' X X' mn m mx q1) m mx q⟩
mutual
noncomputable def noL:D->Bool
 | .lst _=>false
 | .tup l=>noLs l
 | .dct ks vs=>noLs vs
 | _=>true
noncomputable def noLs:List D->Bool
 | []=>true
 | d::ds=>noL d && noLs ds
end
mutual
noncomputable def noD:D->Bool
 | .dct _ _=>false
 | .tup l=>noDs l
 | .lst l=>noDs l
 | _=>true
noncomputable def noDs:List D->Bool
 | []=>true
 | d::ds=>noD d && noDs ds
end
noncomputable def zgO (d:D):B->Prop
 | .o (.lst _)=>noL d=true
 | .o (.dct _ _)=>noD d=true
 | _=>True
noncomputable def Safe (d:D):Env->Prop
 | []=>True
 | b::r=>zgO d b/\Safe d r
noncomputable def zeN (d:D)(ρ:Env):Prop:=match d with
 | .lst l=>∀ x∈l,Safe x ρ
 | .dct _ vs=>∀ x∈vs,Safe x ρ
 | _=>False
noncomputable def Sm.set (i:Nat)(e:Ex):Sm:=⟨fun ρ N _ X=>e.run ρ (fun d=>Safe d (ρ.set i .n)/\N (ρ.set i (.s d))) X,fun ρ N N' Q Q' X X' mn m mx q=>e.mono ρ _ _ X X' (fun d q1=>⟨q1.1,mn _ q1.2⟩) mx q⟩
noncomputable def Sm.own (i:Nat)(e:Ex):Sm:=⟨fun ρ N _ X=>e.run ρ (fun d=>zeN d (ρ.set i .n)/\N (ρ.set i (.o d))) X,fun ρ N N' Q Q' X X' mn m mx q=>e.mono ρ _ _ X X' (fun d q1=>⟨q1.1,mn _ q1.2⟩) mx q⟩
noncomputable def demB:B->B
 | .o d =>.s d
 | b=>b
noncomputable def dem:List Nat->Env->Env
 | [],ρ=>ρ
 | j::js,ρ=>dem js (ρ.set j (demB ((ρ[j]?).getD .n)))
noncomputable def visB:B->B
 | .o _ =>.n
 | b=>b
noncomputable def vis (ρ:Env):Env:=ρ.map visB
noncomputable def Sm.setx (js:List Nat)(i:Nat)(e:Ex):Sm:=⟨fun ρ N _ X=>e.run (vis (dem js ρ)) (fun d=>N ((dem js ρ).set i (.s d))) X,fun ρ N N' Q Q' X X' mn m mx q=>e.mono _ _ _ X X' (fun d q1=>mn _ q1) mx q⟩
noncomputable def Sm.ifs (c:Ex)(a b:Sm):Sm:=⟨fun ρ N Q X=>c.run ρ (fun d=>tst d (a.run ρ N Q X) (b.run ρ N Q X)) X,fun ρ N N' Q Q' X X' mn m mx q=>c.mono ρ _ _ X X' (fun d q1=>z47 (a.mono ρ N N' Q Q' X X' mn m mx) (b.mono ρ N N' Q Q' X X' mn m mx) q1) mx q⟩
noncomputable def Sm.ret (e:Ex):Sm:=⟨fun ρ _ Q X=>e.run ρ Q X,fun ρ N N' Q Q' X X' mn m mx q=>e.mono ρ _ _ X X' m mx q⟩
noncomputable def Sm.retN:Sm:=⟨fun _ _ Q _=>Q .non,fun ρ N N' Q Q' X X' mn m mx q=>m _ q⟩
noncomputable def Sm.ex (e:Ex):Sm:=⟨fun ρ N _ X=>e.run ρ (fun _=>N ρ) X,fun ρ N N' Q Q' X X' mn m mx q=>e.mono ρ _ _ X X' (fun _ q1=>mn _ q1) mx q⟩
noncomputable def Sm.raise (x:Str):Sm:=⟨fun _ _ _ X=>X x,fun ρ N N' Q Q' X X' mn m mx q=>mx _ q⟩
noncomputable def wh (c:Ex)(b:Sm)(N:Env->Prop)(Q:DK)(X:XP):Nat->Env->Prop
 | 0,_=>False
 | n+1,ρ=>c.run ρ (fun d=>tst d (b.run ρ (wh c b N Q X n) Q X) (N ρ)) X
theorem zc4 {c:Ex}{b:Sm}{N N':Env->Prop}{Q Q':DK}{X X':XP}(mn:∀ ρ,N ρ->N' ρ)(m:∀ d,Q d->Q' d)(mx:∀ x,X x->X' x):∀ (n:Nat) (ρ:Env),wh c b N Q X n ρ->wh c b N' Q' X' n ρ
 | 0,_,q=>q
 | n+1,ρ,q=>c.mono ρ _ _ X X' (fun d q1=>z47 (b.mono ρ _ _ Q Q' X X' (fun ρ' q2=>zc4 mn m mx n ρ' q2) m mx) (mn ρ) q1) mx q
noncomputable def Sm.wh (c:Ex)(b:Sm):Sm:=⟨fun ρ N Q X=>∃ n,Pu.wh c b N Q X n ρ,fun ρ N N' Q Q' X X' mn m mx ⟨n,q⟩=>⟨n,zc4 mn m mx n ρ q⟩⟩
noncomputable def forL (t:Tg)(b:Sm)(N:Env->Prop)(Q:DK)(X:XP):List D->Env->Prop
 | [],ρ=>N ρ
 | x::xs,ρ=>t.put x ρ fun ρ'=>b.run ρ' (forL t b N Q X xs) Q X
theorem z8C {t:Tg}{b:Sm}{N N':Env->Prop}{Q Q':DK}{X X':XP}(mn:∀ ρ,N ρ->N' ρ)(m:∀ d,Q d->Q' d)(mx:∀ x,X x->X' x):∀ (l:List D) (ρ:Env),forL t b N Q X l ρ->forL t b N' Q' X' l ρ
 | [],_,q=>mn _ q
 | x::xs,ρ,q=>Tg.put_mono (fun ρ' q1=>b.mono ρ' _ _ Q Q' X X' (fun ρ2 q2=>z8C mn m mx xs ρ2 q2) m mx q1) q
noncomputable def Sm.for_ (js:List Nat)(t:Tg)(src:Ex)(b:Sm):Sm:=⟨fun ρ N Q X=>src.run (vis (dem js ρ)) (fun d=>onL (z07 d) fun l=>forL t b N Q X l (dem js ρ)) X,fun ρ N N' Q Q' X X' mn m mx q=>src.mono _ _ _ X X' (fun d q1=>zbi (fun l q2=>z8C mn m mx l _ q2) q1) mx q⟩
noncomputable def onR (ds:List D)(K:List D->Prop):Prop:=match ds with
 | [.int j]=>(-(2 ^ 62)<=j/\j < 2 ^ 62)/\K ((List.range j.toNat).map fun(k:Nat) =>.int (k:Int))
 | [.int i,.int j]=>((-(2 ^ 62)<=i/\i < 2 ^ 62) /\ -(2 ^ 62)<=j/\j < 2 ^ 62)/\K ((List.range (j - i).toNat).map fun(k:Nat) =>.int (i+(k:Int)))
 | _=>False
theorem zbg {ds:List D}{K K':List D->Prop}(m:∀ l,K l->K' l)(h:onR ds K):onR ds K':=by
 unfold onR at h ⊢
 split at h
 ·exact⟨h.1,m _ h.2⟩
 ·exact⟨h.1,m _ h.2⟩
 ·exact h.elim
noncomputable def Sm.forr (es:List Ex)(t:Tg)(b:Sm):Sm:=⟨fun ρ N Q X=>runs es ρ (fun ds=>onR ds fun l=>forL t b N Q X l ρ) X,fun ρ N N' Q Q' X X' mn m mx q=>z4A es ρ _ _ X X' (fun d q1=>zbg (fun l q2=>z8C mn m mx l _ q2) q1) mx q⟩
noncomputable def ownL (ρ:Env)(i:Nat)(K:List D->Prop):Prop:=match ρ[i]? with
 | some (.o (.lst l))=>K l
 | _=>False
theorem z87 {ρ:Env}{i:Nat}{K K':List D->Prop}(m:∀ l,K l->K' l)(h:ownL ρ i K):ownL ρ i K':=by
 unfold ownL at h ⊢
 split <;> rename_i e
 ·rw[e] at h; exact m _ h
 ·split at h
  ·rename_i l e'; exact(e l e').elim
  ·exact h
noncomputable def Sm.app (i:Nat)(e:Ex):Sm:=⟨fun ρ N _ X=>ownL ρ i fun l=>e.run ρ (fun d=>l.length < sizeLine/\Safe d ρ/\N (ρ.set i (.o (.lst (l++[d]))))) X,fun ρ N N' Q Q' X X' mn m mx q=>z87 (fun l q1=>e.mono ρ _ _ X X' (fun d q2=>⟨q2.1,q2.2.1,mn _ q2.2.2⟩) mx q1) q⟩
noncomputable def isLs (d:D)(K:List D->Prop):Prop:=match d with
 | .lst l=>K l
 | _=>False
theorem zd3 {d:D}{K K':List D->Prop}(m:∀ j,K j->K' j)(h:isLs d K):isLs d K':=by
 cases d with
 | lst l=>exact m _ h
 | _=>exact h.elim
noncomputable def Sm.ext (i:Nat)(e:Ex):Sm:=⟨fun ρ N _ X=>ownL ρ i fun l=>e.run ρ (fun d=>isLs d fun m=>l.length+m.length<=sizeLine/\(∀ x∈m,Safe x ρ)/\N (ρ.set i (.o (.lst (l++m))))) X,fun ρ N N' Q Q' X X' mn m mx q=>z87 (fun l q1=>e.mono ρ _ _ X X' (fun d q2=>zd3 (fun m q3=>⟨q3.1,q3.2.1,mn _ q3.2.2⟩) q2) mx q1) q⟩
noncomputable def onN (o:Option Nat)(K:Nat->Prop):Prop:=match o with
 | some j=>K j
 | none=>False
theorem ze7 {o:Option Nat}{K K':Nat->Prop}(m:∀ j,K j->K' j)(h:onN o K):onN o K':=by
 cases o with
 | none=>exact h
 | some l=>exact m _ h
noncomputable def isI (d:D)(K:Int->Prop):Prop:=match d with
 | .int i=>K i
 | _=>False
theorem z9I {d:D}{K K':Int->Prop}(m:∀ j,K j->K' j)(h:isI d K):isI d K':=by
 cases d with
 | int i=>exact m _ h
 | _=>exact h.elim
noncomputable def Sm.put (i:Nat)(k e:Ex):Sm:=⟨fun ρ N _ X=>ownL ρ i fun l=>e.run ρ (fun d=>Safe d ρ/\k.run ρ (fun kd=>isI kd fun z=>onN (ixN l.length z) fun j=>N (ρ.set i (.o (.lst (l.set j d))))) X) X,fun ρ N N' Q Q' X X' mn m mx q=>
 z87 (fun l q1=>e.mono ρ _ _ X X' (fun d q2=>⟨q2.1,k.mono ρ _ _ X X' (fun kd q3=>z9I (fun z q4=>ze7 (fun j q5=>mn _ q5) q4) q3) mx q2.2⟩) mx q1) q⟩
noncomputable def Fn.mk' (np nn:Nat)(b:Sm):Fn:=⟨fun ds Q X=>ds.length=np/\b.run (ds.map B.s++List.replicate (nn - np) .n) (fun _=>Q .non) Q X,fun ds Q Q' X X' m mx q=>⟨q.1,b.mono _ _ _ Q Q' X X' (fun _ q1=>m _ q1) m mx q.2⟩⟩
noncomputable def Fn.mkN (np nn:Nat)(b:Sm):Fn:=⟨fun ds Q _=>ds.length=np/\b.run (ds.map B.s++List.replicate (nn - np) .n) (fun _=>Q .non) Q (fun _=>False),fun ds Q Q' X X' m mx q=>⟨q.1,b.mono _ _ _ Q Q' _ _ (fun _ q1=>m _ q1) m (fun _ z=>z) q.2⟩⟩
noncomputable def Sm.calm (b:Sm):Sm:=⟨fun ρ N Q _=>b.run ρ N Q (fun _=>False),fun ρ N N' Q Q' X X' mn m mx q=>b.mono ρ N N' Q Q' _ _ mn m (fun _ z=>z) q⟩
noncomputable def Sm.tryc (tg:Option Nat)(f:Fn)(es:List Ex)(c:Str->Bool)(j:Option Nat)(suite:Sm):Sm:=
 ⟨fun ρ N Q X=>runs es ρ (fun ds=>f.run ds (fun d=>match tg with
   | some i=>Safe d (ρ.set i .n)/\N (ρ.set i (.s d))
   | none=>N ρ) (fun x=>c x=true/\match j with
   | some j=>suite.run (ρ.set j (.s (.exc x))) (fun ρ'=>N (ρ'.set j .n)) Q X
   | none=>suite.run ρ N Q X)) X,fun ρ N N' Q Q' X X' mn m mx q=>z4A es ρ _ _ X X' (fun ds q1=>f.mono ds _ _ _ _ (fun d q2=>by
    cases tg with
    | some i=>exact⟨q2.1,mn _ q2.2⟩
    | none=>exact mn _ q2) (fun x q2=>⟨q2.1,by
     cases j with
     | some j=>exact suite.mono _ _ _ Q Q' X X' (fun _ q3=>mn _ q3) m mx q2.2
     | none=>exact suite.mono _ _ _ Q Q' X X' mn m mx q2.2⟩) q1) mx q⟩
end Pu
namespace Pu
open PySem PySem.Spec PyProof.Rows L2
noncomputable def AbE (K:W.Frag)(mg:Str->Option Value)(G:Hp)(ρ:Pu.Env)(σ:L2.St):Prop:=∀ i d,ρ.get i=some d->∃ v,σ[i]? = some (some v)/\RD K mg G d v
noncomputable def Gr (G H G':Hp):Prop:=Same G G'/\∀ a o,G' a=some o->(∃ u,G a=some u)\/H a=none
theorem Gr.refl {G H:Hp}:Gr G H G:=⟨Same.refl',fun a o e =>.inl ⟨o,e⟩⟩
theorem Gr.trans {G H G1 H1 G2:Hp}(h:Gr G H G1)(k:Same H H1)(h':Gr G1 H1 G2):Gr G H G2:=⟨z0f h.1 h'.1,fun a o e=>by
 rcases h'.2 a o e with ⟨u,q⟩ | q
 ·exact h.2 a u q
 ·refine .inr ?_
  cases z:H a with
  | none=>rfl
  | some w=>rw[k a w z] at q; cases q⟩
theorem Gr.new {G H:Hp}{p:Addr}{o:HO}(g:Same G H)(hp:H p=none):Gr G H (upd G p o):=by
 have gp:G p=none:=by
  cases e:G p with
  | none=>rfl
  | some u=>rw[g p u e] at hp; cases hp
 refine⟨z1p gp o,fun a u e => ?_⟩
 by_cases ha:a=p
 ·subst ha; exact .inr hp
 ·rw[z0q ha] at e; exact .inl ⟨u,e⟩
noncomputable def Kt (K:W.Frag)(mg:Str->Option Value)(G H:Hp)(Q0:DK)(Q:VK):Prop:=∀ d v G' H',Q0 d->Gr G H G'->Same G' H'->Same H H'->RD K mg G' d v->Q v H'
noncomputable def Kts (K:W.Frag)(mg:Str->Option Value)(G H:Hp)(Q0:List D->Prop)(Q:List V->Hp->Prop):Prop:=∀ ds vs G' H',Q0 ds->Gr G H G'->Same G' H'->Same H H'->RDs K mg G' ds vs->Q vs H'
noncomputable def Kx (mg:Str->Option Value)(H:Hp)(X0:XP)(E:XK):Prop:=∀ x C H',X0 x->mg x=some (.ref C)->Same H H'->E (.ref C) none H'
noncomputable def tx (K:W.Frag)(mg:Str->Option Value)(E:XK)(e:Ex):TE:=fun σ H Q=>∃ G ρ Q0 X0,Same G H/\AbE K mg G ρ σ/\e.run ρ Q0 X0/\Kt K mg G H Q0 Q/\Kx mg H X0 E
noncomputable def txa (K:W.Frag)(mg:Str->Option Value)(E:XK)(es:List Ex):TA:=fun σ H Q=>∃ G ρ Q0 X0,Same G H/\AbE K mg G ρ σ/\runs es ρ Q0 X0/\Kts K mg G H Q0 Q/\Kx mg H X0 E
noncomputable def tt (K:W.Frag)(mg:Str->Option Value)(E:XK)(e:Ex):TT:=fun σ H Q=>∃ G ρ Q0 X0,Same G H/\AbE K mg G ρ σ/\e.run ρ Q0 X0/\(∀ d G' H',Q0 d->Gr G H G'->Same G' H'->Same H H'->∃ b,d = .bl b/\Q b H')/\Kx mg H X0 E
section
variable {K:W.Frag}{mg:Str->Option Value}{G G' H H':Hp}{ρ:Pu.Env}{σ:L2.St}{Q0:DK}{Q:VK}{X0:XP}{E:XK}
theorem AbE.same (h:AbE K mg G ρ σ)(g:Same G G'):AbE K mg G' ρ σ:=fun i d e=>by
 obtain⟨v,h1,h2⟩:=h i d e
 exact⟨v,h1,h2.same g⟩
theorem Kt.same (h:Kt K mg G H Q0 Q)(g:Gr G H G')(k:Same H H'):Kt K mg G' H' Q0 Q:=fun d v G1 H1 q a b c r=>h d v G1 H1 q (g.trans k a) b (z0f k c) r
theorem Kx.same (h:Kx mg H X0 E)(k:Same H H'):Kx mg H' X0 E:=fun x C H1 q m c=>h x C H1 q m (z0f k c)
theorem Kx.no {E:XK}:Kx mg H (fun _=>False) E:=fun _ _ _ z=>z.elim
theorem Kt.now {d:D}{v:V}(h:Kt K mg G H Q0 Q)(g:Same G H)(q:Q0 d)(r:RD K mg G d v):Q v H:=h d v G H q Gr.refl g Same.refl' r
theorem Kt.new {d:D}{p:Addr}{o:HO}{v:V}(h:Kt K mg G H Q0 Q)(g:Same G H)(hp:H p=none)(q:Q0 d)(r:RD K mg (upd G p o) d v):Q v (upd H p o):=by
 have gp:G p=none:=by
  cases e:G p with
  | none=>rfl
  | some u=>rw[g p u e] at hp; cases hp
 refine h d v (upd G p o) (upd H p o) q (Gr.new g hp) (fun b u e => ?_) (z1p hp o) r
 by_cases hb:b=p
 ·subst hb; rw[z0U] at e ⊢; exact e
 ·rw[z0q hb] at e ⊢; exact g b u e
theorem z3o (g:Same G H){p:Addr}(hp:H p=none):G p=none:=by
 cases e:G p with
 | none=>rfl
 | some u=>rw[g p u e] at hp; cases hp
end
noncomputable def Lk2 (K:W.Frag)(mg:Str->Option Value)(F:Fn)(r:R2):Prop:=∀ (G H:Hp) (d1 d2:D) (v1 v2:V) (Q0:DK) (X0:XP) (Q:VK),Same G H->RD K mg G d1 v1->RD K mg G d2 v2->F.run [d1,d2] Q0 X0->Kt K mg G H Q0 Q->r v1 v2 H Q
noncomputable def Lk1 (K:W.Frag)(mg:Str->Option Value)(F:Fn)(r:V->Hp->VK->Prop):Prop:=∀ (G H:Hp) (d:D) (v:V) (Q0:DK) (X0:XP) (Q:VK),Same G H->RD K mg G d v->F.run [d] Q0 X0->Kt K mg G H Q0 Q->r v H Q
noncomputable def LkN (K:W.Frag)(mg:Str->Option Value)(F:Fn)(r:List V->Hp->VK->Prop):Prop:=∀ (G H:Hp) (ds:List D) (vs:List V) (Q0:DK) (X0:XP) (Q:VK),Same G H->RDs K mg G ds vs->F.run ds Q0 X0->Kt K mg G H Q0 Q->r vs H Q
section
variable {K:W.Frag}{mg:Str->Option Value}{E:XK}{σ:L2.St}{H:Hp}{Q:VK}{a b c:Ex}{F:Fn}{es:List Ex}
theorem tx2 {r:R2}(lk:Lk2 K mg F r)(h:tx K mg E (.op F [a,b]) σ H Q):tOp r (tx K mg E a) (tx K mg E b) σ H Q:=by
 obtain⟨G,ρ,Q0,X0,hs,ab,hr,hk,hx⟩:=h
 refine⟨G,ρ,fun d=>b.run ρ (fun d'=>F.run [d,d'] Q0 X0) X0,X0,hs,ab,hr,?_,hx⟩
 intro d v G1 H1 hb g1 g2 g3 rd
 refine⟨G1,ρ,fun d'=>F.run [d,d'] Q0 X0,X0,g2,ab.same g1.1,hb,?_,hx.same g3⟩
 intro d' v' G2 H2 hF k1 k2 k3 rd'
 exact lk G2 H2 d d' v v' Q0 X0 Q k2 (rd.same k1.1) rd' hF (hk.same (g1.trans g3 k1) (z0f g3 k3))
theorem tx1 {r:V->Hp->VK->Prop}(lk:Lk1 K mg F r)(h:tx K mg E (.op F [a]) σ H Q):tUn r (tx K mg E a) σ H Q:=by
 obtain⟨G,ρ,Q0,X0,hs,ab,hr,hk,hx⟩:=h
 refine⟨G,ρ,fun d=>F.run [d] Q0 X0,X0,hs,ab,hr,?_,hx⟩
 intro d v G1 H1 hF g1 g2 g3 rd
 exact lk G1 H1 d v Q0 X0 Q g2 rd hF (hk.same g1 g3)
theorem txN {r:List V->Hp->VK->Prop}(lk:LkN K mg F r)(h:tx K mg E (.op F es) σ H Q):tCB r (txa K mg E es) σ H Q:=by
 obtain⟨G,ρ,Q0,X0,hs,ab,hr,hk,hx⟩:=h
 refine⟨G,ρ,fun ds=>F.run ds Q0 X0,X0,hs,ab,hr,?_,hx⟩
 intro ds vs G1 H1 hF g1 g2 g3 rd
 exact lk G1 H1 ds vs Q0 X0 Q g2 rd hF (hk.same g1 g3)
end
theorem QE.imp {X:Cx}{e:Expr}{t t':TE}(h:QE X e t)(i:∀ σ H Q,t' σ H Q->t σ H Q):QE X e t':=⟨h.p.imp i⟩
theorem QT.imp {X:Cx}{e:Expr}{t t':TT}(h:QT X e t)(i:∀ σ H Q,t' σ H Q->t σ H Q):QT X e t':=⟨fun pins s σ H Q I q=>h.p pins s σ H Q I (i σ H Q q)⟩
theorem QA.imp {X:Cx}{e:List Expr}{t t':TA}(h:QA X e t)(i:∀ σ H Q,t' σ H Q->t σ H Q):QA X e t':=⟨fun pos pins s σ H Q I q=>h.p pos pins s σ H Q I (i σ H Q q)⟩
theorem QW.imp {X:Cx}{e:Expr}{t t':TT}(h:QW X e t)(i:∀ σ H Q,t' σ H Q->t σ H Q):QW X e t':=⟨fun w pins s σ H Q I q=>h.p w pins s σ H Q I (i σ H Q q)⟩
theorem QS.imp {X:Cx}{e:Stmt}{t t':TS}(h:QS X e t)(i:∀ D σ H,t' D σ H->t D σ H):QS X e t':=⟨fun pins s σ H D I q=>h.p pins s σ H D I (i D σ H q)⟩
theorem QSs.imp {X:Cx}{e:List Stmt}{t t':TS}(h:QSs X e t)(i:∀ D σ H,t' D σ H->t D σ H):QSs X e t':=⟨fun pins s σ H D I q=>h.p pins s σ H D I (i D σ H q)⟩
theorem QI.imp {X:Cx}{tg e:Expr}{t t':TI}(h:QI X tg e t)(i:∀ σ H R,t' σ H R->t σ H R):QI X tg e t':=⟨fun pins s σ H R I q=>h.p pins s σ H R I (i σ H R q)⟩
noncomputable abbrev QX (X:Cx)(E:XK)(e:Expr)(x:Ex):Prop:=QE X e (tx X.K X.mg E x)
noncomputable abbrev QXT (X:Cx)(E:XK)(e:Expr)(x:Ex):Prop:=QT X e (tt X.K X.mg E x)
noncomputable abbrev QXW (X:Cx)(E:XK)(e:Expr)(x:Ex):Prop:=QW X e (tt X.K X.mg E x)
noncomputable abbrev QXA (X:Cx)(E:XK)(es:List Expr)(x:List Ex):Prop:=QA X es (txa X.K X.mg E x)
section
variable {X:Cx}{E:XK}{e a b c:Expr}{x y z:Ex}{pos:Pos}{es:List Expr}{xs:List Ex}{rest:List Expr}
theorem qx_c {d:D}{v:V}(h:QE X e (tC v))(r:∀ G,RD X.K X.mg G d v):QX X E e (.c d):=QE.imp h fun σ H Q ⟨G,ρ,Q0,X0,hs,ab,hr,hk,hx⟩=>hk.now hs hr (r G)
theorem qx_v {i:Nat}(h:QE X e (tVar i)):QX X E e (.v i):=QE.imp h fun σ H Q ⟨G,ρ,Q0,X0,hs,ab,hr,hk,hx⟩=>by
 have hr':onV (ρ.get i) Q0:=hr
 cases q:ρ.get i with
 | none=>rw[q] at hr'; exact hr'.elim
 | some d=>
  rw[q] at hr'
  obtain⟨v,h1,h2⟩:=ab i d q
  exact⟨v,h1,hk.now hs hr' h2⟩
theorem z03 {i:Int}{j:Nat}:QX X E (.Constant (.int i) j pos) (.c (.int i)):=qx_c zhi fun _=>by rw[RD]
theorem z6F {i:Bool}{j:Nat}:QX X E (.Constant (.bool i) j pos) (.c (.bl i)):=qx_c zjg fun _=>by rw[RD]
theorem z9d {j:Nat}:QX X E (.Constant .none j pos) (.c .non):=qx_c zhf fun _=>by rw[RD]
theorem z06 {op:Operator}{F:Fn}{r:R2}(ho:OpR X (binaryOp op) r)(lk:Lk2 X.K X.mg F r)(ha:QX X E a x)(hb:QX X E b y):QX X E (.BinOp a op b pos) (.op F [x,y]):=QE.imp (zjd ho ha hb) fun _ _ _ h=>tx2 lk h
theorem zab {op:UnaryOp}{F:Fn}{r:V->Hp->VK->Prop}(ho:UnR X (unaryOp op) r)(lk:Lk1 X.K X.mg F r)(ha:QX X E a x):QX X E (.UnaryOp op a pos) (.op F [x]):=QE.imp (zjc ho ha) fun _ _ _ h=>tx1 lk h
theorem z7D {op:CmpOp}{F:Fn}{r:R2}(ho:OpR X (compareOp op) r)(lk:Lk2 X.K X.mg F r)(ha:QX X E a x)(hb:QX X E b y)(hm:behindInMarks op b=false):QX X E (.Compare a [op] [b] pos) (.op F [x,y]):=QE.imp (zfN ho ha hb hm) fun _ _ _ h=>tx2 lk h
theorem zfj {t:TE}{σ:L2.St}{H:Hp}{Q:Bool->Hp->Prop}(m:∀ Q,tx X.K X.mg E x σ H Q->t σ H Q)(h:tt X.K X.mg E x σ H Q):zfm t σ H Q:=by
 obtain⟨G,ρ,Q0,X0,hs,ab,hr,hk,hx⟩:=h
 refine m _ ⟨G,ρ,Q0,X0,hs,ab,hr,fun d v G' H' q g1 g2 g3 rd => ?_,hx⟩
 obtain⟨b,rfl,q'⟩:=hk d G' H' q g1 g2 g3
 rw[RD] at rd
 exact⟨b,rd,q'⟩
theorem z0W {op:CmpOp}{F:Fn}{r:R2}(ho:OpR X (compareOp op) r)(lk:Lk2 X.K X.mg F r)(ha:QX X E a x)(hb:QX X E b y)(hm:behindInMarks op b=false):QXT X E (.Compare a [op] [b] pos) (.op F [x,y]):=QT.imp (zfG ho ha hb hm) fun σ H Q h=>zfj (fun _ h=>tx2 lk h) h
theorem z2g (h:QX X E e x)(he:∀ whole,isTrue e X.env whole=(do let v <- whole; standAt e.pos; holding [v] (truthy v)):=by intro _; rfl):QXT X E e x:=QT.imp (zh7 h he) fun σ H Q h=>by
 obtain⟨G,ρ,Q0,X0,hs,ab,hr,hk,hx⟩:=h
 refine⟨G,ρ,Q0,X0,hs,ab,hr,fun d v G' H' q g1 g2 g3 rd => ?_,hx⟩
 obtain⟨b,rfl,q'⟩:=hk d G' H' q g1 g2 g3
 rw[RD] at rd
 exact⟨b,rd,q'⟩
theorem zeZ (ha:QX X E a x):QX X E (.UnaryOp .Not a pos) (.not x):=QE.imp (zhe ha) fun σ H Q ⟨G,ρ,Q0,X0,hs,ab,hr,hk,hx⟩=>by
 refine⟨G,ρ,_,X0,hs,ab,hr,fun d v G' H' q g1 g2 g3 rd => ?_,hx⟩
 cases d with
 | bl b=>
  rw[RD] at rd
  exact⟨b,rd,hk (.bl !b) (.bl !b) G' H' q g1 g2 g3 (by rw[RD])⟩
 | _=>exact q.elim
theorem z3h (ha:QXT X E a x):QXT X E (.UnaryOp .Not a pos) (.not x):=QT.imp (zh8 ha) fun σ H Q ⟨G,ρ,Q0,X0,hs,ab,hr,hk,hx⟩=>by
 refine⟨G,ρ,_,X0,hs,ab,hr,fun d G' H' q g1 g2 g3 => ?_,hx⟩
 cases d with
 | bl b=>
  obtain⟨b',e,q'⟩:=hk (.bl !b) G' H' q g1 g2 g3
  cases e
  exact⟨b,rfl,q'⟩
 | _=>exact q.elim
theorem zac {op}(h:QX X E a x):QX X E (.BoolOp op [a] pos) x:=zhd h
theorem z83 (ha:QX X E a x)(hb:QX X E (.BoolOp .And (b::rest) pos) y):QX X E (.BoolOp .And (a::b::rest) pos) (.and x y):=QE.imp (zhk ha hb) fun σ H Q ⟨G,ρ,Q0,X0,hs,ab,hr,hk,hx⟩=>by
 refine⟨G,ρ,_,X0,hs,ab,hr,fun d v G' H' q g1 g2 g3 rd => ?_,hx⟩
 obtain⟨k,rfl,q1,q2⟩:=za0 q
 rw[RD] at rd
 refine⟨k,rd,?_⟩
 cases k with
 | true=>exact iteT ⟨G',ρ,Q0,X0,g2,ab.same g1.1,q1 rfl,hk.same g1 g3,hx.same g3⟩
 | false=>exact iteF (hk (.bl false) (.bl false) G' H' (q2 rfl) g1 g2 g3 (by rw[RD]))
theorem z9v (ha:QXT X E a x):QXW X E (.BoolOp .And [a] pos) x:=zfF ha
theorem z7n (ha:QXT X E a x):QXW X E (.BoolOp .Or [a] pos) x:=zh5 ha
theorem zaP (ha:QXT X E a x)(hb:QXW X E (.BoolOp .And (b::rest) pos) y):QXW X E (.BoolOp .And (a::b::rest) pos) (.and x y):=QW.imp (zh6 ha hb) fun σ H Q ⟨G,ρ,Q0,X0,hs,ab,hr,hk,hx⟩=>by
 refine⟨G,ρ,_,X0,hs,ab,hr,fun d G' H' q g1 g2 g3 => ?_,hx⟩
 obtain⟨k,rfl,q1,q2⟩:=za0 q
 refine⟨k,rfl,?_⟩
 cases k with
 | true=>exact iteT ⟨G',ρ,Q0,X0,g2,ab.same g1.1,q1 rfl,fun d G2 H2 q k1 k2 k3=>hk d G2 H2 q (g1.trans g3 k1) k2 (z0f g3 k3),hx.same g3⟩
 | false=>
  obtain⟨b',e,q'⟩:=hk (.bl false) G' H' (q2 rfl) g1 g2 g3
  cases e
  exact iteF q'
theorem z6G (ha:QXT X E a x)(hb:QXW X E (.BoolOp .Or (b::rest) pos) y):QXW X E (.BoolOp .Or (a::b::rest) pos) (.or x y):=QW.imp (zja ha hb) fun σ H Q ⟨G,ρ,Q0,X0,hs,ab,hr,hk,hx⟩=>by
 refine⟨G,ρ,_,X0,hs,ab,hr,fun d G' H' q g1 g2 g3 => ?_,hx⟩
 obtain⟨k,rfl,q1,q2⟩:=za0 q
 refine⟨k,rfl,?_⟩
 cases k with
 | false=>exact iteF ⟨G',ρ,Q0,X0,g2,ab.same g1.1,q2 rfl,fun d G2 H2 q k1 k2 k3=>hk d G2 H2 q (g1.trans g3 k1) k2 (z0f g3 k3),hx.same g3⟩
 | true=>
  obtain⟨b',e,q'⟩:=hk (.bl true) G' H' (q1 rfl) g1 g2 g3
  cases e
  exact iteT q'
theorem z02:QXA X E [] []:=QA.imp z9e fun σ H Q ⟨G,ρ,Q0,X0,hs,ab,hr,hk,hx⟩=>hk [] [] G H hr Gr.refl hs Same.refl' RDs.nil
theorem z00 (ha:QX X E e x)(hr:QXA X E es xs)(hs:starEach (e::es) X.env=(false,eval e X.env)::starEach es X.env:=by rfl):QXA X E (e::es) (x::xs):=QA.imp (z5G ha hr hs) fun σ H Q ⟨G,ρ,Q0,X0,hs,ab,hr,hk,hx⟩=>by
 refine⟨G,ρ,_,X0,hs,ab,hr,fun d v G' H' q g1 g2 g3 rd => ?_,hx⟩
 refine⟨G',ρ,_,X0,g2,ab.same g1.1,q,fun ds vs G2 H2 q' k1 k2 k3 rds => ?_,hx.same g3⟩
 exact hk (d::ds) (v::vs) G2 H2 q' (g1.trans g3 k1) k2 (z0f g3 k3) (RDs.cons (rd.same k1.1) rds)
noncomputable def spP (K:W.Frag)(mg:Str->Option Value)(F:Fn):Sp:=fun vs H Q E=>∃ G ds Q0 X0,Same G H/\RDs K mg G ds vs/\F.run ds Q0 X0/\Kt K mg G H Q0 Q/\Kx mg H X0 E
theorem z0o {CX:CXT}{k:Nat}{ps:List Str}{F:Fn}{f:Str}{pp:Pos}(C:Cal X.prog X.w X.K X.mg X.base CX k f ps (spP X.K X.mg F))(hr:Room k X.A)(hx:z8I CX X E)(ha:QXA X E (e::es) xs)(hg:Gl X f:=by rfl)
  (hdb:(f == ("__debug__":Str))=false:=by decide) (he:starEach (e::es) X.env=(false,eval e X.env)::starEach es X.env:=by rfl) (hpl:(backTo pos (starEach es X.env)).any (·.1)=false:=by rfl):QX X E (.Call (.Name f pp) (e::es) [] pos) (.op F xs):=
 QE.imp (zjf C hr hx ha hg hdb he hpl) fun σ H Q ⟨G,ρ,Q0,X0,hs,ab,hr,hk,hx⟩=>by
  refine⟨G,ρ,_,X0,hs,ab,hr,fun ds vs G' H' q g1 g2 g3 rds => ?_,hx⟩
  show spP X.K X.mg F (vs++[]) H' Q E
  rw[List.append_nil]
  exact⟨G',ds,Q0,X0,g2,rds,q,hk.same g1 g3,hx.same g3⟩
theorem z2f {f:Str}{pp:Pos}{id:String}{F:Fn}{r:List V->Hp->VK->Prop}(hc:z2w X (.builtin id) r)(lk:LkN X.K X.mg F r)(hg:Gl X f)(hm:X.mg f=none)(hv:bootBuiltins f=some (.builtin id))(ha:QXA X E (e::es) xs)(hn:f≠"__name__":=by decide)(hdb:(f == ("__debug__":Str))=false:=by decide)
  (he:starEach (e::es) X.env=(false,eval e X.env)::starEach es X.env:=by rfl) (hpl:(backTo pos (starEach es X.env)).any (·.1)=false:=by rfl):QX X E (.Call (.Name f pp) (e::es) [] pos) (.op F xs):=
 QE.imp (z9w hc hg hm hv ha hn hdb he hpl) fun _ _ _ h=>txN lk h
theorem z6E {f:Str}{pp:Pos}{id:String}{F:Fn}{r:List V->Hp->VK->Prop}(hc:z2w X (.type id) r)(lk:LkN X.K X.mg F r)(hg:Gl X f)(hm:X.mg f=none)(hv:bootBuiltins f=some (.type id))(ha:QXA X E (e::es) xs)(hn:f≠"__name__":=by decide)(hdb:(f == ("__debug__":Str))=false:=by decide)
  (he:starEach (e::es) X.env=(false,eval e X.env)::starEach es X.env:=by rfl) (hpl:(backTo pos (starEach es X.env)).any (·.1)=false:=by rfl):QX X E (.Call (.Name f pp) (e::es) [] pos) (.op F xs):=
 QE.imp (z85 hc hg hm hv ha hn hdb he hpl) fun _ _ _ h=>txN lk h
end
end Pu
namespace Pu
open PySem PySem.Spec PyProof.Rows L2
noncomputable def z8J (K:W.Frag)(mg:Str->Option Value)(G H:Hp)(a:Addr):D->Prop
 | .lst ds=>∃ xs,H a=some (.lst xs)/\RDs K mg G ds xs
 | .dct ks vs=>∃ xs,RDs K mg G vs xs/\((∃ kvs:List (Key × V),H a=some (.dK kvs)/\ks=kvs.map (fun p=>kD p.1)/\xs=kvs.map (·.2))\/∃ kvs:List (List Key × V),H a=some (.dT kvs)/\ks=kvs.map (fun p =>.tup (p.1.map kD))/\xs=kvs.map (·.2))
 | _=>False
structure AbS (K:W.Frag)(mg:Str->Option Value)(H0 G0 G:Hp)(ρ:Pu.Env)(σ:L2.St)(H:Hp):Prop where
 len:σ.length=ρ.length
 s0:Same H0 H
 g0:Same G0 G
 g:Same G H
 nw:∀ a o,G a=some o->(∃ u,G0 a=some u)\/H0 a=none
 sh:∀ (i:Nat) (d:D),ρ[i]? = some (B.s d)->∃ v,σ[i]? = some (some v)/\RD K mg G d v
 ow:∀ (i:Nat) (d:D),ρ[i]? = some (B.o d)->∃ a,σ[i]? = some (some (V.ref a))/\G a=none/\H0 a=none/\z8J K mg G H a d
 ne:∀ (i j:Nat) (d d':D) (a:Addr),i≠j->ρ[i]? = some (B.o d)->ρ[j]? = some (B.o d')->σ[i]? = some (some (V.ref a))->σ[j]? = some (some (V.ref a))->False
open Classical in
noncomputable def plus (G H:Hp)(O:Addr->Prop):Hp:=fun a=>if O a then H a else G a
open Classical in
noncomputable def minus (G:Hp)(O:Addr->Prop):Hp:=fun a=>if O a then none else G a
section
variable {K:W.Frag}{mg:Str->Option Value}{H0 G0 G G' H H' H1:Hp}{ρ:Pu.Env}{σ:L2.St}{O:Addr->Prop}
theorem z4N (g:Same G H):Same (plus G H O) H:=fun a o e=>by
 unfold plus at e
 split at e
 ·exact e
 ·exact g a o e
theorem z3J (h:∀ a,O a->G a=none):Same G (plus G H O):=fun a o e=>by
 unfold plus
 split
 ·rename_i z; rw[h a z] at e; cases e
 ·exact e
theorem zcC {a:Addr}(h:O a):plus G H O a=H a:=by unfold plus; rw[if_pos h]
theorem z3p:Same (minus G O) G:=fun a o e=>by
 unfold minus at e
 split at e
 ·cases e
 ·exact e
theorem z7V {a:Addr}(h:O a):minus G O a=none:=by unfold minus; rw[if_pos h]
theorem zak {a:Addr}(h:¬ O a):minus G O a=G a:=by unfold minus; rw[if_neg h]
theorem z4U (g:Same G G')(h:∀ a,O a->G a=none):Same G (minus G' O):=fun a o e=>by
 by_cases z:O a
 ·rw[h a z] at e; cases e
 ·rw[zak z]; exact g a o e
theorem z8J.same {a:Addr}{d:D}(h:z8J K mg G H a d)(g:Same G G')(k:∀ o,H a=some o->H1 a=some o):z8J K mg G' H1 a d:=by
 cases d with
 | lst ds=>
  obtain⟨xs,h1,h2⟩:=h
  exact⟨xs,k _ h1,h2.same g⟩
 | dct ks vs=>
  obtain⟨xs,h1,h2⟩:=h
  refine⟨xs,h1.same g,?_⟩
  rcases h2 with ⟨kvs,q,r⟩ | ⟨kvs,q,r⟩
  ·exact .inl ⟨kvs,k _ q,r⟩
  ·exact .inr ⟨kvs,k _ q,r⟩
 | _=>exact h.elim
theorem z8J.some {a:Addr}{d:D}(h:z8J K mg G H a d):∃ o,H a=some o:=by
 cases d with
 | lst ds=>obtain⟨xs,h1,h2⟩:=h; exact⟨_,h1⟩
 | dct ks vs=>
  obtain⟨xs,h1,h2⟩:=h
  rcases h2 with ⟨kvs,q,r⟩ | ⟨kvs,q,r⟩ <;> exact⟨_,q⟩
 | _=>exact h.elim
theorem z8J.rd {a:Addr}{d:D}(h:z8J K mg G H a d)(g:Same G G')(e:G' a=H a):RD K mg G' d (.ref a):=by
 cases d with
 | lst ds=>
  obtain⟨xs,h1,h2⟩:=h
  rw[RD]
  exact⟨a,xs,rfl,SqL.of (e.trans h1),h2.same g⟩
 | dct ks vs=>
  obtain⟨xs,h1,h2⟩:=h
  rw[RD]
  refine⟨a,xs,rfl,h1.same g,?_⟩
  rcases h2 with ⟨kvs,q,r⟩ | ⟨kvs,q,r⟩
  ·exact .inl ⟨kvs,e.trans q,r⟩
  ·exact .inr ⟨kvs,e.trans q,r⟩
 | _=>exact h.elim
noncomputable def OK1 (G:Hp)(O:Addr->Prop)(bL bD:Prop):Prop:=∀ a,O a->G a=none\/((∃ xs,G a=some (.lst xs))/\bL)\/(((∃ kvs,G a=some (.dK kvs))\/∃ kvs,G a=some (.dT kvs))/\bD)
theorem z4S {a:Addr}{o u:HO}{bL bD:Prop}(hO:OK1 G O bL bD)(h:G a=some o)(h1:∀ xs,o = .lst xs->¬ bL)(h2:∀ k,o = .dK k->¬ bD)(h3:∀ k,o = .dT k->¬ bD):minus G O a=some o:=by
 by_cases z:O a
 ·rcases hO a z with q | ⟨⟨xs,q⟩,b⟩ | ⟨⟨k,q⟩ | ⟨k,q⟩,b⟩
  ·rw[q] at h; cases h
  ·rw[q] at h; cases h; exact(h1 _ rfl b).elim
  ·rw[q] at h; cases h; exact(h2 _ rfl b).elim
  ·rw[q] at h; cases h; exact(h3 _ rfl b).elim
 ·rw[zak z]; exact h
mutual
theorem RD.minus {bL bD:Prop}(hO:OK1 G O bL bD):∀ (d:D) {v:V},(bL->noL d=true)->(bD->noD d=true)->RD K mg G d v->RD K mg (Pu.minus G O) d v
 | .non,_,_,_,h=>by simpa[RD] using h
 | .bl _,_,_,_,h=>by simpa[RD] using h
 | .int _,_,_,_,h=>by simpa[RD] using h
 | .str _,_,_,_,h=>by simpa[RD] using h
 | .fn _,_,_,_,h=>by rw[RD] at h ⊢; exact h
 | .exc _,_,_,_,h=>by
  rw[RD] at h ⊢
  obtain⟨ea,C,h1,h2,h3⟩:=h
  exact⟨ea,C,h1,z4S (u :=.lst []) hO h2 (fun _ z=>by cases z) (fun _ z=>by cases z) (fun _ z=>by cases z),h3⟩
 | .tup ds,_,nl,nd,h=>by
  rw[RD] at h ⊢
  obtain⟨a,xs,h1,h2,h3⟩:=h
  refine⟨a,xs,h1,?_,RDs.minus hO ds (fun b=>by have:=nl b; rwa [noL] at this) (fun b=>by have:=nd b; rwa [noD] at this) h3⟩
  rcases h2 with (h2 | ⟨o,h2⟩) | h2
  ·exact .inl (.inl (z4S (u :=.lst []) hO h2 (fun _ z=>by cases z) (fun _ z=>by cases z) (fun _ z=>by cases z)))
  ·exact .inl (.inr ⟨o,z4S (u :=.lst []) hO h2 (fun _ z=>by cases z) (fun _ z=>by cases z) (fun _ z=>by cases z)⟩)
  ·exact .inr h2
 | .lst ds,_,nl,nd,h=>by
  rw[RD] at h ⊢
  obtain⟨a,xs,h1,h2,h3⟩:=h
  have nb:¬ bL:=fun b=>by have:=nl b; rw[noL] at this; cases this
  refine⟨a,xs,h1,?_,RDs.minus hO ds (fun b=>(nb b).elim) (fun b=>by have:=nd b; rwa [noD] at this) h3⟩
  rcases h2 with (h2 | ⟨o,h2⟩) | h2
  ·exact .inl (.inl (z4S (u :=.lst []) hO h2 (fun _ _=>nb) (fun _ z=>by cases z) (fun _ z=>by cases z)))
  ·exact .inl (.inr ⟨o,z4S (u :=.lst []) hO h2 (fun _ z=>by cases z) (fun _ z=>by cases z) (fun _ z=>by cases z)⟩)
  ·exact .inr h2
 | .dct ks vs,_,nl,nd,h=>by
  rw[RD] at h ⊢
  obtain⟨a,xs,h1,h3,h4⟩:=h
  have nb:¬ bD:=fun b=>by have:=nd b; rw[noD] at this; cases this
  refine⟨a,xs,h1,RDs.minus hO vs (fun b=>by have:=nl b; rwa [noL] at this) (fun b=>(nb b).elim) h3,?_⟩
  rcases h4 with ⟨kvs,q,r⟩ | ⟨kvs,q,r⟩
  ·exact .inl ⟨kvs,z4S (u :=.lst []) hO q (fun _ z=>by cases z) (fun _ _=>nb) (fun _ _=>nb),r⟩
  ·exact .inr ⟨kvs,z4S (u :=.lst []) hO q (fun _ z=>by cases z) (fun _ _=>nb) (fun _ _=>nb),r⟩
theorem RDs.minus {bL bD:Prop}(hO:OK1 G O bL bD):∀ (ds:List D) {xs:List V},(bL->noLs ds=true)->(bD->noDs ds=true)->RDs K mg G ds xs->RDs K mg (Pu.minus G O) ds xs
 | [],_,_,_,h=>by simpa[RDs] using h
 | d::ds,_,nl,nd,h=>by
  rw[RDs] at h ⊢
  obtain⟨x,r,h1,h2,h3⟩:=h
  exact⟨x,r,h1,RD.minus hO d (fun b=>by have:=nl b; rw[noLs,Bool.and_eq_true] at this; exact this.1) (fun b=>by have:=nd b; rw[noDs,Bool.and_eq_true] at this; exact this.1) h2,
   RDs.minus hO ds (fun b=>by have:=nl b; rw[noLs,Bool.and_eq_true] at this; exact this.2) (fun b=>by have:=nd b; rw[noDs,Bool.and_eq_true] at this; exact this.2) h3⟩
end
noncomputable def z29 (ρ:Pu.Env)(σ:L2.St)(a:Addr):Prop:=∃ (j:Nat) (d:D),ρ[j]? = some (B.o d)/\σ[j]? = some (some (V.ref a))
theorem AbS.free (h:AbS K mg H0 G0 G ρ σ H):∀ a,z29 ρ σ a->G a=none:=fun a ⟨j,d,e,q⟩=>by
 obtain⟨b,q',hb,_⟩:=h.ow j d e
 rw[q] at q'; cases q'
 exact hb
theorem AbS.owned0 (h:AbS K mg H0 G0 G ρ σ H):∀ a,z29 ρ σ a->H0 a=none:=fun a ⟨j,d,e,q⟩=>by
 obtain⟨b,q',hb,h0,_⟩:=h.ow j d e
 rw[q] at q'; cases q'
 exact h0
theorem AbS.nw1 {G1:Hp}(h:AbS K mg H0 G0 G ρ σ H)(g:Gr (plus G H (z29 ρ σ)) H G1):∀ a o,G1 a=some o->(∃ u,G0 a=some u)\/H0 a=none:=fun a o e=>by
 rcases g.2 a o e with ⟨u,q⟩ | q
 ·by_cases z:z29 ρ σ a
  ·exact .inr (h.owned0 a z)
  ·unfold plus at q; rw[if_neg z] at q; exact h.nw a u q
 ·refine .inr ?_
  cases z:H0 a with
  | none=>rfl
  | some w=>rw[h.s0 a w z] at q; cases q
theorem AbS.nw2 {G1:Hp}(h:AbS K mg H0 G0 G ρ σ H)(g:Gr G H G1):∀ a o,G1 a=some o->(∃ u,G0 a=some u)\/H0 a=none:=fun a o e=>by
 rcases g.2 a o e with ⟨u,q⟩ | q
 ·exact h.nw a u q
 ·refine .inr ?_
  cases z:H0 a with
  | none=>rfl
  | some w=>rw[h.s0 a w z] at q; cases q
theorem AbS.abe (h:AbS K mg H0 G0 G ρ σ H):AbE K mg (plus G H (z29 ρ σ)) ρ σ:=fun i d e=>by
 rw[Env.get_eq] at e
 cases q:ρ[i]? with
 | none=>rw[q] at e; cases e
 | some b=>
  rw[q] at e
  cases b with
  | n=>cases e
  | s d'=>
   cases e
   obtain⟨v,h1,h2⟩:=h.sh i d q
   exact⟨v,h1,h2.same (z3J h.free)⟩
  | o d'=>
   cases e
   obtain⟨a,h1,h2,h3,h4⟩:=h.ow i d q
   exact⟨.ref a,h1,h4.rd (z3J h.free) (zcC ⟨i,d,q,h1⟩)⟩
theorem AbS.vis (h:AbS K mg H0 G0 G ρ σ H):AbE K mg G (vis ρ) σ:=fun i d e=>by
 rw[Env.get_eq] at e
 unfold Pu.vis at e
 rw[List.getElem?_map] at e
 cases q:ρ[i]? with
 | none=>rw[q] at e; cases e
 | some b=>
  rw[q] at e
  cases b with
  | n=>cases e
  | s d'=>
   cases e
   exact h.sh i d q
  | o d'=>cases e
theorem Safe.get {d:D}:∀ {ρ:Pu.Env}{j:Nat}{b:B},Safe d ρ->ρ[j]? = some b->zgO d b
 | [],_,_,_,e=>by simp at e
 | c::r,0,b,h,e=>by simp at e; subst e; exact h.1
 | c::r,j+1,b,h,e=>Safe.get (j:=j) h.2 (by simpa using e)
theorem zf5 {G1:Hp}{d:D}{I:Nat->Prop}(h:AbS K mg H0 G0 G ρ σ H)(g2:Same G1 H1)(g3:Same H H1):
  OK1 G1 (fun a=>∃ (j:Nat) (d:D),I j/\ρ[j]? = some (B.o d)/\σ[j]? = some (some (V.ref a))) (∃ (j:Nat) (l:List D),I j/\ρ[j]? = some (B.o (.lst l))) (∃ (j:Nat) (k v:List D),I j/\ρ[j]? = some (B.o (.dct k v))):=fun a ⟨j,d',hI,e,q⟩=>by
 obtain⟨b,q',hb,h0,hw⟩:=h.ow j d' e
 rw[q] at q'; cases q'
 cases e1:G1 a with
 | none=>exact .inl rfl
 | some o=>
  have e2:=g2 a o e1
  cases d' with
  | lst ds=>
   obtain⟨xs,h1,h2⟩:=hw
   rw[g3 a _ h1] at e2
   cases e2
   exact .inr (.inl ⟨⟨xs,rfl⟩,j,ds,hI,e⟩)
  | dct ks vs=>
   obtain⟨xs,h1,h2⟩:=hw
   rcases h2 with ⟨kvs,z,r⟩ | ⟨kvs,z,r⟩
   ·rw[g3 a _ z] at e2
    cases e2
    exact .inr (.inr ⟨.inl ⟨kvs,rfl⟩,j,ks,vs,hI,e⟩)
   ·rw[g3 a _ z] at e2
    cases e2
    exact .inr (.inr ⟨.inr ⟨kvs,rfl⟩,j,ks,vs,hI,e⟩)
  | _=>exact hw.elim
theorem z98 {G1:Hp}{d:D}{v:V}{i:Nat}(h:AbS K mg H0 G0 G ρ σ H)(g2:Same G1 H1)(g3:Same H H1)(sf:Safe d (ρ.set i .n))(rd:RD K mg G1 d v):
  RD K mg (Pu.minus G1 (fun a=>∃ (j:Nat) (d:D),j≠i/\ρ[j]? = some (B.o d)/\σ[j]? = some (some (V.ref a)))) d v:=by
 refine RD.minus (zf5 (d:=d) (I:=fun j=>j≠i) h g2 g3) d (fun⟨j,l,hj,e⟩ => ?_) (fun⟨j,k,v,hj,e⟩ => ?_) rd
 ·exact Safe.get sf (j:=j) (b :=.o (.lst l)) (by rw[List.getElem?_set_ne (Ne.symm hj)]; exact e)
 ·exact Safe.get sf (j:=j) (b :=.o (.dct k v)) (by rw[List.getElem?_set_ne (Ne.symm hj)]; exact e)
theorem zaK {G1:Hp}{d:D}{v:V}(h:AbS K mg H0 G0 G ρ σ H)(g2:Same G1 H1)(g3:Same H H1)(sf:Safe d ρ)(rd:RD K mg G1 d v):
  RD K mg (Pu.minus G1 (fun a=>∃ (j:Nat) (d:D),True/\ρ[j]? = some (B.o d)/\σ[j]? = some (some (V.ref a)))) d v:=by
 refine RD.minus (zf5 (d:=d) (I:=fun _=>True) h g2 g3) d (fun⟨j,l,hj,e⟩ => ?_) (fun⟨j,k,v,hj,e⟩ => ?_) rd
 ·exact Safe.get sf (j:=j) (b :=.o (.lst l)) e
 ·exact Safe.get sf (j:=j) (b :=.o (.dct k v)) e
theorem AbS.put {G1:Hp}{i:Nat}{d:D}{v:V}(h:AbS K mg H0 G0 G ρ σ H)(nw:∀ a o,G1 a=some o->(∃ u,G0 a=some u)\/H0 a=none)(g1:Same G G1)(g2:Same G1 H1)(g3:Same H H1)(hO:∀ (j:Nat) (d':D) (a:Addr),j≠i->ρ[j]? = some (B.o d')->σ[j]? = some (some (V.ref a))->G1 a=none)(rd:RD K mg G1 d v):
  AbS K mg H0 G0 G1 (ρ.set i (.s d)) (σ.set i (some v)) H1 where
 len:=by simp[h.len]
 s0:=z0f h.s0 g3
 g0:=z0f h.g0 g1
 g:=g2
 nw:=nw
 sh:=fun j e q=>by
  by_cases hj:j=i
  ·subst hj
   have hl:j < ρ.length:=by
    have:=(List.getElem?_eq_some_iff.mp q).1
    simpa using this
   rw[List.getElem?_set_self hl] at q
   cases q
   exact⟨v,by rw[List.getElem?_set_self (by rw[h.len]; exact hl)],rd⟩
  ·rw[List.getElem?_set_ne (Ne.symm hj)] at q
   obtain⟨w,h1,h2⟩:=h.sh j e q
   exact⟨w,by rw[List.getElem?_set_ne (Ne.symm hj)]; exact h1,h2.same g1⟩
 ow:=fun j e q=>by
  by_cases hj:j=i
  ·subst hj
   have hl:j < ρ.length:=by
    have:=(List.getElem?_eq_some_iff.mp q).1
    simpa using this
   rw[List.getElem?_set_self hl] at q
   cases q
  ·rw[List.getElem?_set_ne (Ne.symm hj)] at q
   obtain⟨a,h1,h2,h3,h4⟩:=h.ow j e q
   exact⟨a,by rw[List.getElem?_set_ne (Ne.symm hj)]; exact h1,hO j e a hj q h1,h3,h4.same g1 (g3 a)⟩
 ne:=fun j k e e' a hjk q q' s s'=>by
  have hl:∀ {j:Nat}{e:D},(ρ.set i (.s d))[j]? = some (B.o e)->j≠i:=fun {j e} q hj=>by
   subst hj
   have hl:j < ρ.length:=by
    have:=(List.getElem?_eq_some_iff.mp q).1
    simpa using this
   rw[List.getElem?_set_self hl] at q
   cases q
  have hj:=hl q
  have hk:=hl q'
  rw[List.getElem?_set_ne (Ne.symm hj)] at q s
  rw[List.getElem?_set_ne (Ne.symm hk)] at q' s'
  exact h.ne j k e e' a hjk q q' s s'
theorem AbS.own {G1:Hp}{i:Nat}{d:D}{a:Addr}(h:AbS K mg H0 G0 G ρ σ H)(nw:∀ a o,G1 a=some o->(∃ u,G0 a=some u)\/H0 a=none)(g1:Same G G1)(g2:Same G1 H1)(g3:Same H H1)(hO:∀ (j:Nat) (d':D) (a:Addr),j≠i->ρ[j]? = some (B.o d')->σ[j]? = some (some (V.ref a))->G1 a=none)(hn:H a=none)(ga:G1 a=none)(hw:z8J K mg G1 H1 a d):
  AbS K mg H0 G0 G1 (ρ.set i (.o d)) (σ.set i (some (.ref a))) H1 where
 len:=by simp[h.len]
 s0:=z0f h.s0 g3
 g0:=z0f h.g0 g1
 g:=g2
 nw:=nw
 sh:=fun j e q=>by
  by_cases hj:j=i
  ·subst hj
   have hl:j < ρ.length:=by
    have:=(List.getElem?_eq_some_iff.mp q).1
    simpa using this
   rw[List.getElem?_set_self hl] at q
   cases q
  ·rw[List.getElem?_set_ne (Ne.symm hj)] at q
   obtain⟨w,h1,h2⟩:=h.sh j e q
   exact⟨w,by rw[List.getElem?_set_ne (Ne.symm hj)]; exact h1,h2.same g1⟩
 ow:=fun j e q=>by
  by_cases hj:j=i
  ·subst hj
   have hl:j < ρ.length:=by
    have:=(List.getElem?_eq_some_iff.mp q).1
    simpa using this
   rw[List.getElem?_set_self hl] at q
   cases q
   refine⟨a,by rw[List.getElem?_set_self (by rw[h.len]; exact hl)],ga,?_,hw⟩
   exact z3o h.s0 hn
  ·rw[List.getElem?_set_ne (Ne.symm hj)] at q
   obtain⟨b,h1,h2,h3,h4⟩:=h.ow j e q
   exact⟨b,by rw[List.getElem?_set_ne (Ne.symm hj)]; exact h1,hO j e b hj q h1,h3,h4.same g1 (g3 b)⟩
 ne:=fun j k e e' b hjk q q' s s'=>by
  have old:∀ {j:Nat}{e:D},j≠i->(ρ.set i (.o d))[j]? = some (B.o e)->(σ.set i (some (.ref a)))[j]? = some (some (V.ref b))->ρ[j]? = some (B.o e)/\σ[j]? = some (some (V.ref b)):=fun {j e} hj q s=>by
   rw[List.getElem?_set_ne (Ne.symm hj)] at q s
   exact⟨q,s⟩
  have new:∀ {j:Nat}{e:D},j=i->(ρ.set i (.o d))[j]? = some (B.o e)->(σ.set i (some (.ref a)))[j]? = some (some (V.ref b))->b=a:=fun {j e} hj q s=>by
   subst hj
   have hl:j < σ.length:=by
    have:=(List.getElem?_eq_some_iff.mp s).1
    simpa using this
   rw[List.getElem?_set_self hl] at s
   cases s; rfl
  have none:∀ {j:Nat}{e:D},ρ[j]? = some (B.o e)->σ[j]? = some (some (V.ref b))->b≠a:=fun {j e} q s z=>by
   obtain⟨b',h1,h2,h3,h4⟩:=h.ow j e q
   rw[s] at h1; cases h1
   obtain⟨o,ho⟩:=h4.some
   rw[z,hn] at ho; cases ho
  by_cases hj:j=i
  ·have hb:=new hj q s
   have hk:k≠i:=fun z=>hjk (hj.trans z.symm)
   obtain⟨q1,s1⟩:=old hk q' s'
   exact none q1 s1 hb
  ·obtain⟨q1,s1⟩:=old hj q s
   by_cases hk:k=i
   ·exact none q1 s1 (new hk q' s')
   ·obtain⟨q2,s2⟩:=old hk q' s'
    exact h.ne j k e e' b hjk q1 q2 s1 s2
theorem AbS.wr {G1:Hp}{i:Nat}{d d':D}{a:Addr}{o:HO}(h:AbS K mg H0 G0 G ρ σ H)(nw:∀ a o,G1 a=some o->(∃ u,G0 a=some u)\/H0 a=none)(g1:Same G G1)(g2:Same G1 H1)(g3:Same H H1)(hO:∀ (j:Nat) (d':D) (a:Addr),ρ[j]? = some (B.o d')->σ[j]? = some (some (V.ref a))->G1 a=none)(hi:ρ[i]? = some (B.o d))(hs:σ[i]? = some (some (V.ref a)))
  (hw:z8J K mg G1 (upd H1 a o) a d'):AbS K mg H0 G0 G1 (ρ.set i (.o d')) σ (upd H1 a o):=by
 obtain⟨a',e1,ga,h0a,hw0⟩:=h.ow i d hi
 rw[hs] at e1; cases e1
 have hl:i < ρ.length:=(List.getElem?_eq_some_iff.mp hi).1
 refine⟨by simp[h.len],fun b u e => ?_,z0f h.g0 g1,fun b u e => ?_,nw,fun j e q => ?_,fun j e q => ?_,fun j k e e' b hjk q q' s s' => ?_⟩
 ·have hb:b≠a:=fun z=>by rw[z,h0a] at e; cases e
  rw[z0q hb]; exact g3 b u (h.s0 b u e)
 ·have hb:b≠a:=fun z=>by rw[z,hO i d a hi hs] at e; cases e
  rw[z0q hb]; exact g2 b u e
 ·by_cases hj:j=i
  ·subst hj
   rw[List.getElem?_set_self hl] at q; cases q
  ·rw[List.getElem?_set_ne (Ne.symm hj)] at q
   obtain⟨w,h1,h2⟩:=h.sh j e q
   exact⟨w,h1,h2.same g1⟩
 ·by_cases hj:j=i
  ·subst hj
   rw[List.getElem?_set_self hl] at q; cases q
   exact⟨a,hs,hO j d a hi hs,h0a,hw⟩
  ·rw[List.getElem?_set_ne (Ne.symm hj)] at q
   obtain⟨b,h1,h2,h3,h4⟩:=h.ow j e q
   have hb:b≠a:=fun z=>by subst z; exact h.ne j i e d b hj q hi h1 hs
   exact⟨b,h1,hO j e b q h1,h3,h4.same g1 (fun u e=>by rw[z0q hb]; exact g3 b u e)⟩
 ·have old:∀ {j:Nat}{e:D},(ρ.set i (.o d'))[j]? = some (B.o e)->∃ e',ρ[j]? = some (B.o e'):=fun {j e} q=>by
   by_cases hj:j=i
   ·subst hj; exact⟨d,hi⟩
   ·rw[List.getElem?_set_ne (Ne.symm hj)] at q; exact⟨e,q⟩
  obtain⟨x,q1⟩:=old q
  obtain⟨y,q2⟩:=old q'
  exact h.ne j k x y b hjk q1 q2 s s'
theorem AbS.dem1 (h:AbS K mg H0 G0 G ρ σ H)(j:Nat):∃ G',AbS K mg H0 G0 G' (ρ.set j (demB ((ρ[j]?).getD .n))) σ H/\Same G G':=by
 cases q:ρ[j]? with
 | none=>
  have:ρ.set j (demB ((none:Option B).getD .n))=ρ:=by
   apply List.set_eq_of_length_le
   exact List.getElem?_eq_none_iff.mp q
  rw[this]
  exact⟨G,h,Same.refl'⟩
 | some b=>
  have hl:j < ρ.length:=(List.getElem?_eq_some_iff.mp q).1
  have same:∀ b',b=b'->demB b'=b'->∃ G',AbS K mg H0 G0 G' (ρ.set j (demB ((some b).getD .n))) σ H/\Same G G':=fun b' e e'=>by
   subst e
   have:ρ.set j (demB ((some b).getD .n))=ρ:=by
    show ρ.set j (demB b)=ρ
    rw[e']
    apply List.ext_getElem?
    intro k
    by_cases hk:k=j
    ·subst hk; rw[List.getElem?_set_self hl,q]
    ·rw[List.getElem?_set_ne (Ne.symm hk)]
   rw[this]
   exact⟨G,h,Same.refl'⟩
  cases b with
  | n=>exact same .n rfl rfl
  | s d=>exact same (.s d) rfl rfl
  | o d=>
   obtain⟨a,s1,ga,h0a,hw⟩:=h.ow j d q
   show ∃ G',AbS K mg H0 G0 G' (ρ.set j (.s d)) σ H/\Same G G'
   have lp:Same G (plus G H (· = a)):=z3J (fun b z=>by rw[z]; exact ga)
   refine⟨plus G H (· = a),⟨by simp[h.len],h.s0,z0f h.g0 lp,z4N h.g,fun b o e=>(by
     by_cases hb:b=a
     ·exact .inr (by rw[hb]; exact h0a)
     ·unfold plus at e; rw[if_neg hb] at e; exact h.nw b o e),fun k e z => ?_,fun k e z => ?_,fun k l e e' b hkl z z' s s' => ?_⟩,lp⟩
   ·by_cases hk:k=j
    ·subst hk
     rw[List.getElem?_set_self hl] at z; cases z
     exact⟨.ref a,s1,hw.rd lp (zcC rfl)⟩
    ·rw[List.getElem?_set_ne (Ne.symm hk)] at z
     obtain⟨w,h1,h2⟩:=h.sh k e z
     exact⟨w,h1,h2.same lp⟩
   ·by_cases hk:k=j
    ·subst hk
     rw[List.getElem?_set_self hl] at z; cases z
    ·rw[List.getElem?_set_ne (Ne.symm hk)] at z
     obtain⟨b,h1,h2,h3,h4⟩:=h.ow k e z
     have hb:b≠a:=fun y=>by subst y; exact h.ne k j e d b hk z q h1 s1
     refine⟨b,h1,?_,h3,h4.same lp (fun _ e=>e)⟩
     unfold plus
     rw[if_neg hb]; exact h2
   ·have old:∀ {k:Nat}{e:D},(ρ.set j (.s d))[k]? = some (B.o e)->ρ[k]? = some (B.o e):=fun {k e} z=>by
     by_cases hk:k=j
     ·subst hk; rw[List.getElem?_set_self hl] at z; cases z
     ·rw[List.getElem?_set_ne (Ne.symm hk)] at z; exact z
    exact h.ne k l e e' b hkl (old z) (old z') s s'
theorem AbS.dem (js:List Nat):∀ {G:Hp}{ρ:Pu.Env},AbS K mg H0 G0 G ρ σ H->∃ G',AbS K mg H0 G0 G' (dem js ρ) σ H/\Same G G':=by
 induction js with
 | nil=>intro G ρ h; exact⟨G,h,Same.refl'⟩
 | cons j js ih=>
  intro G ρ h
  obtain⟨G1,h1,g1⟩:=h.dem1 j
  obtain⟨G2,h2,g2⟩:=ih h1
  exact⟨G2,h2,z0f g1 g2⟩
end
end Pu
namespace Pu
open PySem PySem.Spec PyProof.Rows L2
noncomputable def Kn (K:W.Frag)(mg:Str->Option Value)(H0 G0 G:Hp)(N0:Pu.Env->Prop)(N:L2.St->Hp->Prop):Prop:=∀ ρ' σ' H' G',N0 ρ'->AbS K mg H0 G0 G' ρ' σ' H'->Same G G'->N σ' H'
noncomputable def Kr (K:W.Frag)(mg:Str->Option Value)(H0 G0:Hp)(R0:DK)(R:VK):Prop:=∀ d v G' H',R0 d->Gr G0 H0 G'->Same G' H'->Same H0 H'->RD K mg G' d v->R v H'
noncomputable def ts (K:W.Frag)(mg:Str->Option Value)(E:XK)(t:Sm):TS:=fun D σ H=>∃ H0 G0 G ρ N0 R0 X0,AbS K mg H0 G0 G ρ σ H/\t.run ρ N0 R0 X0/\Kn K mg H0 G0 G N0 D.nx/\Kr K mg H0 G0 R0 D.rt/\Kx mg H0 X0 E
theorem Kn.same {K:W.Frag}{mg:Str->Option Value}{H0 G0 G G1:Hp}{N0:Pu.Env->Prop}{N:L2.St->Hp->Prop}(h:Kn K mg H0 G0 G N0 N)(g:Same G G1):Kn K mg H0 G0 G1 N0 N:=fun ρ' σ' H' G' a b c=>h ρ' σ' H' G' a b (z0f g c)
noncomputable abbrev QZ (X:Cx)(E:XK)(st:Stmt)(t:Sm):Prop:=QS X st (ts X.K X.mg E t)
noncomputable abbrev QZs (X:Cx)(E:XK)(st:List Stmt)(t:Sm):Prop:=QSs X st (ts X.K X.mg E t)
section
variable {X:Cx}{E:XK}{st:Stmt}{rest body la lb:List Stmt}{t u:Sm}{e a b c:Expr}{x y z:Ex}{pos:Pos}
theorem z0Y:QZs X E [] .skip:=QSs.imp zfI fun D σ H ⟨H0,G0,G,ρ,N0,R0,X0,ab,hr,hn,hR,hx⟩=>hn ρ σ H G hr ab Same.refl'
theorem z0a (h:QZ X E st t):QZs X E [st] t:=zfH h
theorem z04 (h:QZ X E st t)(h':QZs X E rest u):QZs X E (st::rest) (.seq t u):=QSs.imp (zdT h h') fun D σ H ⟨H0,G0,G,ρ,N0,R0,X0,ab,hr,hn,hR,hx⟩=>
 ⟨H0,G0,G,ρ,fun ρ'=>u.run ρ' N0 R0 X0,R0,X0,ab,hr,fun ρ' σ' H' G' q ab' g=>⟨H0,G0,G',ρ',N0,R0,X0,ab',q,hn.same g,hR,hx⟩,hR,hx⟩
theorem zgz {K:W.Frag}{mg:Str->Option Value}{H0 G0 G H:Hp}{ρ:Pu.Env}{σ:L2.St}{Q0:DK}{X0:XP}{Q:VK}(ab:AbS K mg H0 G0 G ρ σ H)(hr:x.run ρ Q0 X0)(hx:Kx mg H0 X0 E)(hk:Kt K mg (plus G H (z29 ρ σ)) H Q0 Q):tx K mg E x σ H Q:=
 ⟨plus G H (z29 ρ σ),ρ,Q0,X0,z4N ab.g,ab.abe,hr,hk,hx.same ab.s0⟩
theorem AbS.back {K:W.Frag}{mg:Str->Option Value}{H0 G0 G G1 H H1:Hp}{ρ:Pu.Env}{σ:L2.St}(ab:AbS K mg H0 G0 G ρ σ H)(g1:Gr (plus G H (z29 ρ σ)) H G1)(g2:Same G1 H1)(g3:Same H H1):AbS K mg H0 G0 (minus G1 (z29 ρ σ)) ρ σ H1/\Same G (minus G1 (z29 ρ σ)):=by
 have hf:=ab.free
 have lm:Same G (minus G1 (z29 ρ σ)):=z4U (z0f (z3J hf) g1.1) hf
 exact⟨⟨ab.len,z0f ab.s0 g3,z0f ab.g0 lm,z0f z3p g2,fun a o e=>ab.nw1 g1 a o (z3p a o e),fun i d e=>by
   obtain⟨v,h1,h2⟩:=ab.sh i d e
   exact⟨v,h1,h2.same lm⟩,fun i d e=>by
   obtain⟨a,h1,h2,h3,h4⟩:=ab.ow i d e
   exact⟨a,h1,z7V ⟨i,d,e,h1⟩,h3,h4.same lm (g3 a)⟩,ab.ne⟩,lm⟩
theorem zgA {K:W.Frag}{mg:Str->Option Value}{H0 G0 G H:Hp}{ρ:Pu.Env}{σ:L2.St}{A B:Prop}{X0:XP}{Q:Bool->Hp->Prop}(ab:AbS K mg H0 G0 G ρ σ H)(hr:x.run ρ (fun d=>tst d A B) X0)(hx:Kx mg H0 X0 E)
  (ha:A->∀ H' G',AbS K mg H0 G0 G' ρ σ H'->Same G G'->Q true H') (hb:B->∀ H' G',AbS K mg H0 G0 G' ρ σ H'->Same G G'->Q false H'):tt K mg E x σ H Q:=by
 refine⟨plus G H (z29 ρ σ),ρ,_,X0,z4N ab.g,ab.abe,hr,fun d G1 H1 q g1 g2 g3 => ?_,hx.same ab.s0⟩
 obtain⟨b,rfl,q1,q2⟩:=za0 q
 refine⟨b,rfl,?_⟩
 obtain⟨ab',lm⟩:=ab.back g1 g2 g3
 cases b with
 | true=>exact ha (q1 rfl) H1 _ ab' lm
 | false=>exact hb (q2 rfl) H1 _ ab' lm
theorem z20 (hc:QXT X E c z)(ha:QZs X E la t)(hb:QZs X E lb u):QZ X E (.If c la lb pos) (.ifs z t u):=QS.imp (zjb hc ha hb) fun D σ H ⟨H0,G0,G,ρ,N0,R0,X0,ab,hr,hn,hR,hx⟩=>by
 refine zgA ab hr hx (fun q H' G' ab' g => ?_) (fun q H' G' ab' g => ?_)
 ·exact iteT ⟨H0,G0,G',ρ,N0,R0,X0,ab',q,hn.same g,hR,hx⟩
 ·exact iteF ⟨H0,G0,G',ρ,N0,R0,X0,ab',q,hn.same g,hR,hx⟩
theorem z0k (he:QX X E e x):QZ X E (.Return (some e) pos) (.ret x):=QS.imp (zha he) fun D σ H ⟨H0,G0,G,ρ,N0,R0,X0,ab,hr,hn,hR,hx⟩=>
 zgz ab hr hx fun d v G1 H1 q g1 g2 g3 rd=>hR d v G1 H1 q ⟨z0f ab.g0 (z0f (z3J ab.free) g1.1),ab.nw1 g1⟩ g2 (z0f ab.s0 g3) rd
noncomputable def z65 (i:Nat)(ρ:Pu.Env)(σ:L2.St)(a:Addr):Prop:=∃ (j:Nat) (d:D),j≠i/\ρ[j]? = some (B.o d)/\σ[j]? = some (some (V.ref a))
theorem z08 {i:Nat}{tg:Expr}(h:QS X (.Assign [tg] e pos) (tAsg (tx X.K X.mg E x) (z6z i))):QZ X E (.Assign [tg] e pos) (.set i x):=QS.imp h fun D σ H ⟨H0,G0,G,ρ,N0,R0,X0,ab,hr,hn,hR,hx⟩=>
 zgz ab hr hx fun d v G1 H1 q g1 g2 g3 rd=>by
  have hf:∀ a,z65 i ρ σ a->G a=none:=fun a ⟨j,d,_,h1,h2⟩=>ab.free a ⟨j,d,h1,h2⟩
  have lm:Same G (minus G1 (z65 i ρ σ)):=z4U (z0f (z3J ab.free) g1.1) hf
  exact hn (ρ.set i (.s d)) (σ.set i (some v)) H1 _ q.2 (ab.put (fun a o e=>ab.nw1 g1 a o (z3p a o e)) lm (z0f z3p g2) g3 (fun j d' a hj e s=>z7V ⟨j,d',hj,e,s⟩) (z98 ab g2 g3 q.1 rd)) lm
theorem zcr {i:Nat}{tg:Expr}{js:List Nat}(h:QS X (.Assign [tg] e pos) (tAsg (tx X.K X.mg E x) (z6z i))):QZ X E (.Assign [tg] e pos) (.setx js i x):=QS.imp h fun D σ H ⟨H0,G0,G,ρ,N0,R0,X0,ab,hr,hn,hR,hx⟩=>by
 obtain⟨G',ab',g'⟩:=ab.dem js
 refine⟨G',vis (dem js ρ),_,X0,ab'.g,ab'.vis,hr,fun d v G1 H1 q g1 g2 g3 rd => ?_,hx.same ab.s0⟩
 exact hn ((dem js ρ).set i (.s d)) (σ.set i (some v)) H1 _ q (ab'.put (ab'.nw2 g1) g1.1 g2 g3 (fun j d' a hj e s=>by
  obtain⟨b,e1,gb,h0,hw⟩:=ab'.ow j d' e
  rw[s] at e1; cases e1
  cases z:G1 a with
  | none=>rfl
  | some o=>
   obtain⟨u,hu⟩:=hw.some
   rcases g1.2 a o z with ⟨w,q⟩ | q
   ·rw[gb] at q; cases q
   ·rw[hu] at q; cases q) rd) (z0f g' g1.1)
noncomputable def Kf (K:W.Frag)(mg:Str->Option Value)(G H:Hp)(Q0:DK)(Q:VK):Prop:=∀ d a G' H',Q0 d->Gr G H G'->Same G' H'->Same H H'->H a=none->G' a=none->z8J K mg G' H' a d->Q (.ref a) H'
noncomputable def tf (K:W.Frag)(mg:Str->Option Value)(E:XK)(e:Ex):TE:=fun σ H Q=>∃ G ρ Q0 X0,Same G H/\AbE K mg G ρ σ/\e.run ρ Q0 X0/\Kf K mg G H Q0 Q/\Kx mg H X0 E
noncomputable abbrev QF (X:Cx)(E:XK)(e:Expr)(x:Ex):Prop:=QE X e (tf X.K X.mg E x)
theorem Kt.kf {K:W.Frag}{mg:Str->Option Value}{G H:Hp}{Q0:DK}{Q:VK}(h:Kt K mg G H Q0 Q):Kf K mg G H Q0 Q:=fun d a G' H' q g1 g2 g3 hn gn hw=>by
 obtain⟨o,ho⟩:=hw.some
 have lp:Same G' (upd G' a o):=z1p gn o
 refine h d (.ref a) (upd G' a o) H' q ⟨z0f g1.1 lp,fun b u e => ?_⟩ (fun b u e => ?_) g3 (hw.rd lp (by rw[z0U]; exact ho.symm))
 ·by_cases hb:b=a
  ·subst hb; exact .inr hn
  ·rw[z0q hb] at e; exact g1.2 b u e
 ·by_cases hb:b=a
  ·subst hb; rw[z0U] at e; rw[ho]; exact e
  ·rw[z0q hb] at e; exact g2 b u e
theorem QF.qx (h:QF X E e x):QX X E e x:=QE.imp h fun σ H Q ⟨G,ρ,Q0,X0,hs,ab,hr,hk,hx⟩=>⟨G,ρ,Q0,X0,hs,ab,hr,hk.kf,hx⟩
theorem z9c {i:Nat}{tg:Expr}(h:QS X (.Assign [tg] e pos) (tAsg (tf X.K X.mg E x) (z6z i))):QZ X E (.Assign [tg] e pos) (.own i x):=QS.imp h fun D σ H ⟨H0,G0,G,ρ,N0,R0,X0,ab,hr,hn,hR,hx⟩=>by
 refine⟨plus G H (z29 ρ σ),ρ,_,X0,z4N ab.g,ab.abe,hr,fun d a G1 H1 q g1 g2 g3 ha ga hw => ?_,hx.same ab.s0⟩
 have hf:∀ a,z65 i ρ σ a->G a=none:=fun a ⟨j,d,_,h1,h2⟩=>ab.free a ⟨j,d,h1,h2⟩
 have lm:Same G (minus G1 (z65 i ρ σ)):=z4U (z0f (z3J ab.free) g1.1) hf
 have z07:∀ (l:List Pu.D) (xs:List V),(∀ x∈l,Safe x (ρ.set i .n))->RDs X.K X.mg G1 l xs->RDs X.K X.mg (minus G1 (z65 i ρ σ)) l xs:=by
  intro l
  induction l with
  | nil=>intro xs _ h; rw[RDs] at h ⊢; exact h
  | cons y l ih=>
   intro xs hs h
   rw[RDs] at h ⊢
   obtain⟨v,r,h1,h2,h3⟩:=h
   exact⟨v,r,h1,z98 ab g2 g3 (hs y List.mem_cons_self) h2,ih r (fun z hz=>hs z (List.mem_cons_of_mem _ hz)) h3⟩
 have na:minus G1 (z65 i ρ σ) a=none:=by
  unfold minus
  split
  ·rfl
  ·exact ga
 refine hn (ρ.set i (.o d)) (σ.set i (some (.ref a))) H1 _ q.2 (ab.own (fun a o e=>ab.nw1 g1 a o (z3p a o e)) lm (z0f z3p g2) g3 (fun j d' a hj e s=>z7V ⟨j,d',hj,e,s⟩) ha na ?_) lm
 have q1:=q.1
 cases d with
 | lst l=>
  obtain⟨xs,h1,h2⟩:=hw
  exact⟨xs,h1,z07 l xs q1 h2⟩
 | dct ks vs=>
  obtain⟨xs,h1,h2⟩:=hw
  exact⟨xs,z07 vs xs q1 h1,h2⟩
 | _=>exact q1.elim
end
end Pu
namespace Pu
open PySem PySem.Spec PyProof.Rows L2
section
variable {X:Cx}{E:XK}{st:Stmt}{rest body la lb:List Stmt}{t u:Sm}{e a b c tg iter:Expr}{x y z:Ex}{pos:Pos}
theorem zbh {o:Option (List D)}{Q:List D->Prop}(h:onL o Q):∃ l,o=some l/\Q l:=by
 cases o with
 | none=>exact h.elim
 | some l=>exact⟨l,rfl,h⟩
theorem z7T (hp:PassesOwn (model X.prog X.w) X.A X.env X.xe)(hc:QXT X E c z)(hb:QZs X E body t):QZ X E (.While c body [] pos) (.wh z t):=QS.imp (zdU hp hc hb) fun D σ H ⟨H0,G0,G,ρ,N0,R0,X0,ab,⟨n,hr⟩,hn,hR,hx⟩=>by
 refine⟨fun m σ' H'=>∃ G' ρ',AbS X.K X.mg H0 G0 G' ρ' σ' H'/\Same G G'/\wh z t N0 R0 X0 m ρ',⟨n,G,ρ,ab,Same.refl',hr⟩,?_⟩
 rintro m σ1 H1 ⟨G1,ρ1,ab1,g1,h1⟩
 cases m with
 | zero=>exact h1.elim
 | succ m=>
  refine zgA ab1 h1 hx (fun q H2 G2 ab2 g2 => ?_) (fun q H2 G2 ab2 g2 => ?_)
  ·refine iteT ⟨fun σ' H'=>∃ G' ρ',AbS X.K X.mg H0 G0 G' ρ' σ' H'/\Same G G'/\wh z t N0 R0 X0 m ρ',fun σ' H' w=>⟨m,Nat.lt_succ_self _,w⟩,?_⟩
   exact⟨H0,G0,G2,ρ1,wh z t N0 R0 X0 m,R0,X0,ab2,q,fun ρ' σ' H' G' w ab' g'=>⟨G',ρ',ab',z0f g1 (z0f g2 g'),w⟩,hR,hx⟩
  ·exact iteF (hn ρ1 σ1 H2 G2 q ab2 (z0f g1 g2))
noncomputable def Walk (K:W.Frag)(mg:Str->Option Value)(G:Hp)(l:List D)(J:It):Prop:=∀ (i:Nat) (G1 H:Hp),Same G G1->Same G1 H->
 (∀ d,l[i]? = some d->J.go i H/\∀ v H',J.yld i H v H'->Same H H'/\∃ G2,Gr G1 H G2/\Same G2 H'/\RD K mg G2 d v)/\(l.length<=i->J.stop i H)
noncomputable def ti (K:W.Frag)(mg:Str->Option Value)(E:XK)(e:Ex):TI:=fun σ H R=>∃ G ρ Q0 X0,Same G H/\AbE K mg G ρ σ/\e.run ρ Q0 X0/\(∀ d,Q0 d->∃ l,z07 d=some l)/\(∀ d G' H',Q0 d->Gr G H G'->Same G' H'->Same H H'->∀ l J,z07 d=some l->Walk K mg G' l J->R J H')/\Kx mg H X0 E
noncomputable abbrev QXI (X:Cx)(E:XK)(tg e:Expr)(x:Ex):Prop:=QI X tg e (ti X.K X.mg E x)
noncomputable def tgt (K:W.Frag):Tg->TG
 | .nm i=>z6z i
 | .tp is=>gTup K is.length (is.foldr (fun i r=>zeu (z6z i) r) gNil)
theorem z8u {K:W.Frag}:∀ (is:List Nat) (vs:List V) (σ:L2.St) (H:Hp) (Q:L2.St->Hp->Prop),is.length=vs.length->Q ((is.zip vs).foldl (fun σ p=>σ.set p.1 (some p.2)) σ) H->(is.foldr (fun i r=>zeu (z6z i) r) gNil) vs σ H Q
 | [],[],_,_,_,_,q=>⟨rfl,q⟩
 | [],_::_,_,_,_,h,_=>by simp at h
 | _::_,[],_,_,_,h,_=>by simp at h
 | i::is,v::vs,σ,H,Q,h,q=>⟨v,vs,rfl,z8u (K:=K) is vs _ H Q (by simpa using h) q⟩
theorem AbS.putAll {K:W.Frag}{mg:Str->Option Value}{H0 G0 H:Hp}:∀ (is:List Nat) (ds:List D) (vs:List V) {G:Hp}{ρ:Pu.Env}{σ:L2.St},is.length=ds.length->RDs K mg G ds vs->AbS K mg H0 G0 G ρ σ H->
  AbS K mg H0 G0 G (z0E is ds ρ) ((is.zip vs).foldl (fun σ p=>σ.set p.1 (some p.2)) σ) H
 | [],[],vs,G,ρ,σ,_,h,ab=>by rw[RDs] at h; subst h; exact ab
 | [],_::_,_,_,_,_,h,_,_=>by simp at h
 | _::_,[],_,_,_,_,h,_,_=>by simp at h
 | i::is,d::ds,vs,G,ρ,σ,h,r,ab=>by
  rw[RDs] at r
  obtain⟨v,vs',rfl,h1,h2⟩:=r
  exact AbS.putAll is ds vs' (by simpa using h) h2 (ab.put ab.nw Same.refl' ab.g Same.refl' (fun j d' a hj e s=>ab.free a ⟨j,d',e,s⟩) h1)
theorem zfk {K:W.Frag}{mg:Str->Option Value}{H0 G0 G H:Hp}{ρ:Pu.Env}{σ:L2.St}{tg:Tg}{d:D}{v:V}{N0:Pu.Env->Prop}{N:L2.St->Hp->Prop}(ab:AbS K mg H0 G0 G ρ σ H)(rd:RD K mg G d v)(hp:tg.put d ρ N0)(hn:∀ ρ' σ',N0 ρ'->AbS K mg H0 G0 G ρ' σ' H->N σ' H):tgt K tg v σ H N:=by
 cases tg with
 | nm i=>exact hn _ _ hp (ab.put ab.nw Same.refl' ab.g Same.refl' (fun j d' a hj e s=>ab.free a ⟨j,d',e,s⟩) rd)
 | tp is=>
  cases d with
  | tup ds=>
   obtain⟨hl,hp⟩:=hp
   rw[RD] at rd
   obtain⟨a,xs,rfl,h1,h2⟩:=rd
   exact⟨a,xs,rfl,z1X ab.g h1,by rw[h2.len,hl],z8u (K:=K) is xs σ H N (by rw[h2.len,hl]) (hn _ _ hp (ab.putAll is ds xs hl h2))⟩
  | _=>exact hp.elim
theorem AbS.over {K:W.Frag}{mg:Str->Option Value}{H0 G0 G G2 H H2:Hp}{ρ:Pu.Env}{σ:L2.St}(ab:AbS K mg H0 G0 G ρ σ H)(g2:Gr G H G2)(k2:Same G2 H2)(s2:Same H H2):AbS K mg H0 G0 G2 ρ σ H2 where
 len:=ab.len
 s0:=z0f ab.s0 s2
 g0:=z0f ab.g0 g2.1
 g:=k2
 nw:=ab.nw2 g2
 sh:=fun i d e=>by
  obtain⟨v,h1,h2⟩:=ab.sh i d e
  exact⟨v,h1,h2.same g2.1⟩
 ow:=fun i d e=>by
  obtain⟨a,h1,h2,h3,h4⟩:=ab.ow i d e
  refine⟨a,h1,?_,h3,h4.same g2.1 (s2 a)⟩
  cases z:G2 a with
  | none=>rfl
  | some o=>
   obtain⟨u,hu⟩:=h4.some
   rcases g2.2 a o z with ⟨w,q⟩ | q
   ·rw[h2] at q; cases q
   ·rw[hu] at q; cases q
 ne:=ab.ne
theorem z8B {K:W.Frag}{mg:Str->Option Value}{H0 G0 G H:Hp}{ρ:Pu.Env}{σ:L2.St}{l:List D}{J:It}{tg:Tg}{N0:Pu.Env->Prop}{R0:DK}{X0:XP}{De:Ends}(ab:AbS K mg H0 G0 G ρ σ H)(hw:Walk K mg G l J)(hr:forL tg t N0 R0 X0 l ρ)
  (hn:Kn K mg H0 G0 G N0 De.nx) (hR:Kr K mg H0 G0 R0 De.rt) (hx:Kx mg H0 X0 E):
  ∃ W:Nat->Nat->L2.St->Hp->Prop,(∃ m,W 0 m σ H)/\∀ i m σ H,W i m σ H->
   (J.stop i H/\De.nx σ H)\/(J.go i H/\∃ N:L2.St->Hp->Prop,(∀ σ' H',N σ' H'->∃ m',m' < m/\W (i+1) m' σ' H')/\∀ x H',J.yld i H x H'->tgt K tg x σ H' fun σ2 H2=>ts K mg E t { De with nx:=N,ct:=N,bk:=De.nx } σ2 H2):=by
 refine⟨fun i m σ H=>m=l.length - i/\i<=l.length/\∃ G1 ρ1,AbS K mg H0 G0 G1 ρ1 σ H/\Same G G1/\forL tg t N0 R0 X0 (l.drop i) ρ1,⟨l.length,by simp,Nat.zero_le _,G,ρ,ab,Same.refl',by simpa using hr⟩,?_⟩
 rintro i m σ1 H1 ⟨rfl,hi,G1,ρ1,ab1,g1,h1⟩
 obtain⟨w1,w2⟩:=hw i G1 H1 g1 ab1.g
 by_cases hlt:i < l.length
 ·have e:l[i]? = some l[i]:=by simp[hlt]
  obtain⟨go,yl⟩:=w1 _ e
  rw[List.drop_eq_getElem_cons hlt] at h1
  refine .inr ⟨go,fun σ' H'=>∃ G2 ρ2,AbS K mg H0 G0 G2 ρ2 σ' H'/\Same G G2/\forL tg t N0 R0 X0 (l.drop (i+1)) ρ2,fun σ' H' w=>⟨l.length - (i+1),by omega,rfl,hlt,w⟩,fun v H2 y => ?_⟩
  obtain⟨s2,G2,g2,k2,rd⟩:=yl v H2 y
  have ab2:=ab1.over g2 k2 s2
  refine zfk ab2 rd h1 fun ρ3 σ3 hb ab3 => ?_
  exact⟨H0,G0,G2,ρ3,_,R0,X0,ab3,hb,fun ρ' σ' H' G' w ab' g'=>⟨G',ρ',ab',z0f g1 (z0f g2.1 g'),w⟩,hR,hx⟩
 ·have e:i=l.length:=by omega
  subst e
  rw[List.drop_length] at h1
  exact .inl ⟨w2 (Nat.le_refl _),hn ρ1 σ1 H1 G1 h1 ab1 g1⟩
theorem z5F {js:List Nat}{g:Tg}(hp:PassesOwn (model X.prog X.w) X.A X.env X.xe)(hc:X.calm=true)(hi:QXI X E tg iter x)(hg:QG X tg (tgt X.K g))(hb:QZs X E body t)(hs:∀ x,foldedSetIterable iter X.env x=pure x:=by intro _; rfl):
  QZ X E (.For tg iter body [] pos) (.for_ js g x t):=QS.imp (zf0 hp hc hi hg hb hs) fun D σ H ⟨H0,G0,G,ρ,N0,R0,X0,ab,hr,hn,hR,hx⟩=>by
 obtain⟨G',ab',g'⟩:=ab.dem js
 refine⟨G',vis (dem js ρ),_,X0,ab'.g,ab'.vis,hr,fun d q=>(zbh q).imp fun _ z=>z.1,fun d G1 H1 q g1 g2 g3 l J el hw => ?_,hx.same ab.s0⟩
 have q':onL (z07 d) fun l=>forL g t N0 R0 X0 l (dem js ρ):=q
 rw[el] at q'
 exact z8B (E:=E) (ab'.over g1 g2 g3) hw q' (hn.same (z0f g' g1.1)) hR hx
theorem z5Z {K:W.Frag}{mg:Str->Option Value}{G:Hp}{lo:Int}{n:Nat}:Walk K mg G ((List.range n).map fun(k:Nat)=>D.int (lo+(k:Int))) (Itr lo n):=fun i G1 H g1 g2=>by
 refine⟨fun d e => ?_,fun hi=>(show n<=i by simpa using hi)⟩
 obtain⟨h,e'⟩:=List.getElem?_eq_some_iff.mp e
 have hi:i < n:=by simpa using h
 refine⟨hi,fun v H' y => ?_⟩
 obtain⟨rfl,rfl⟩:=y
 refine⟨Same.refl',G1,Gr.refl,g2,?_⟩
 rw[<- e']
 simp only[List.getElem_map,List.getElem_range]
 rw[RD]
noncomputable def z6K:Fn:=⟨fun ds Q _=>onR ds fun l=>Q (.lst l),fun ds Q Q' X X' m _ q=>zbg (fun _ q=>m _ q) q⟩
theorem z1r {K:W.Frag}{mg:Str->Option Value}{G:Hp}{i:Int}{v:V}(h:RD K mg G (.int i) v):v = .int i:=by rw[RD] at h; exact h
theorem rds1 {K:W.Frag}{mg:Str->Option Value}{G:Hp}{d:D}{vs:List V}(h:RDs K mg G [d] vs):∃ v,vs=[v]/\RD K mg G d v:=by
 rw[RDs] at h
 obtain⟨x,r,rfl,h1,h2⟩:=h
 rw[RDs] at h2
 subst h2
 exact⟨x,rfl,h1⟩
theorem rds2 {K:W.Frag}{mg:Str->Option Value}{G:Hp}{d e:D}{vs:List V}(h:RDs K mg G [d,e] vs):∃ v w,vs=[v,w]/\RD K mg G d v/\RD K mg G e w:=by
 rw[RDs] at h
 obtain⟨x,r,rfl,h1,h2⟩:=h
 obtain⟨y,rfl,h3⟩:=rds1 h2
 exact⟨x,y,rfl,h1,h3⟩
theorem zbf {K:W.Frag}{mg:Str->Option Value}{G:Hp}{ds:List D}{vs:List V}{Kk:List D->Prop}(rds:RDs K mg G ds vs)(h:onR ds Kk):
  (∃ j:Int,vs=[.int j] /\ -(2 ^ 62)<=j/\j < 2 ^ 62/\Kk ((List.range j.toNat).map fun(k:Nat)=>D.int (0+(k:Int))))\/∃ i j:Int,vs=[.int i,.int j]/\(-(2 ^ 62)<=i/\i < 2 ^ 62 /\ -(2 ^ 62)<=j/\j < 2 ^ 62)/\Kk ((List.range (j - i).toNat).map fun(k:Nat)=>D.int (i+(k:Int))):=by
 unfold onR at h
 split at h
 ·obtain⟨v,rfl,r1⟩:=rds1 rds
  refine .inl ⟨_,by rw[z1r r1],h.1.1,h.1.2,?_⟩
  simpa using h.2
 ·obtain⟨v,w,rfl,r1,r2⟩:=rds2 rds
  exact .inr ⟨_,_,by rw[z1r r1,z1r r2],⟨h.1.1.1,h.1.1.2,h.1.2.1,h.1.2.2⟩,h.2⟩
 ·exact h.elim
theorem zdD {K:W.Frag}{mg:Str->Option Value}{es:List Ex}{σ:L2.St}{H:Hp}{R:It->Hp->Prop}(h:ti K mg E (.op z6K es) σ H R):txa K mg E es σ H fun vs H1=>(∃ j:Int,vs=[.int j] /\ -(2 ^ 62)<=j/\j < 2 ^ 62/\R (Itr 0 j.toNat) H1)\/∃ i j:Int,vs=[.int i,.int j]/\(-(2 ^ 62)<=i/\i < 2 ^ 62 /\ -(2 ^ 62)<=j/\j < 2 ^ 62)/\R (Itr i (j - i).toNat) H1:=by
 obtain⟨G,ρ,Q0,X0,hs,ab,hr,_,hk,hx⟩:=h
 refine⟨G,ρ,fun ds=>z6K.run ds Q0 X0,X0,hs,ab,hr,fun ds vs G1 H1 q g1 g2 g3 rds => ?_,hx⟩
 rcases zbf rds (show onR ds (fun l=>Q0 (.lst l)) from q) with ⟨j,e,h1,h2,q'⟩ | ⟨i,j,e,h1,q'⟩
 ·exact .inl ⟨j,e,h1,h2,hk _ G1 H1 q' g1 g2 g3 _ _ rfl z5Z⟩
 ·exact .inr ⟨i,j,e,h1,hk _ G1 H1 q' g1 g2 g3 _ _ rfl z5Z⟩
theorem zc7 {K:W.Frag}{mg:Str->Option Value}{es:List Ex}{n:Nat}{σ:L2.St}{H:Hp}{Q Q':List V->Hp->Prop}(hl:es.length=n)(m:∀ vs H1,vs.length=n->Q vs H1->Q' vs H1)(h:txa K mg E es σ H Q):txa K mg E es σ H Q':=by
 obtain⟨G,ρ,Q0,X0,hs,ab,hr,hk,hx⟩:=h
 have len:∀ (es:List Ex) (Q:List D->Prop),runs es ρ Q X0->runs es ρ (fun ds=>ds.length=es.length/\Q ds) X0:=by
  intro es
  induction es with
  | nil=>intro Q h; exact⟨rfl,h⟩
  | cons e es ih=>
   intro Q h
   exact e.mono ρ _ _ X0 X0 (fun d q=>z4A es ρ _ _ X0 X0 (fun ds q=>⟨by simp[q.1],q.2⟩) (fun _ z=>z) (ih _ q)) (fun _ z=>z) h
 exact⟨G,ρ,_,X0,hs,ab,len es Q0 hr,fun ds vs G1 H1 q g1 g2 g3 rds=>m vs H1 (by rw[rds.len,q.1,hl]) (hk ds vs G1 H1 q.2 g1 g2 g3 rds),hx⟩
theorem z62 {p:Pos}(hg:Gl X "range")(hm:X.mg "range"=none)(ha:QXA X E [a] [x])(hs:starEach [a] X.env=[(false,eval a X.env)]:=by rfl):QXI X E tg (.Call (.Name "range" p) [a] [] pos) (.op z6K [x]):=QI.imp (zad hg hm ha hs) fun σ H R h=>
 zc7 (n:=1) rfl (fun vs H1 hl q=>by
  rcases q with q | ⟨i,j,e,_⟩
  ·exact q
  ·rw[e] at hl; simp at hl) (zdD h)
theorem zfA {g:Tg}{es:List Ex}{wi:TI}(hp:PassesOwn (model X.prog X.w) X.A X.env X.xe)(hc:X.calm=true)(hg:QG X tg (tgt X.K g))(hb:QZs X E body t)
  (hri:∀ σ H R,(txa X.K X.mg E es σ H fun vs H1=>(∃ j:Int,vs=[.int j] /\ -(2 ^ 62)<=j/\j < 2 ^ 62/\R (Itr 0 j.toNat) H1)\/∃ i j:Int,vs=[.int i,.int j]/\(-(2 ^ 62)<=i/\i < 2 ^ 62 /\ -(2 ^ 62)<=j/\j < 2 ^ 62)/\R (Itr i (j - i).toNat) H1)->wi σ H R) (hi':QI X tg iter wi)
  (hs:∀ x,foldedSetIterable iter X.env x=pure x:=by intro _; rfl):
  QZ X E (.For tg iter body [] pos) (.forr es g t):=QS.imp (zf0 hp hc hi' hg hb hs) fun De σ H ⟨H0,G0,G,ρ,N0,R0,X0,ab,hr,hn,hR,hx⟩=>by
 refine hri σ H _ ⟨plus G H (z29 ρ σ),ρ,fun ds=>onR ds fun l=>forL g t N0 R0 X0 l ρ,X0,z4N ab.g,ab.abe,hr,fun ds vs G1 H1 q g1 g2 g3 rds => ?_,hx.same ab.s0⟩
 obtain⟨ab',lm⟩:=ab.back g1 g2 g3
 rcases zbf rds q with ⟨j,e,h1,h2,q'⟩ | ⟨i,j,e,h1,q'⟩
 ·exact .inl ⟨j,e,h1,h2,z8B (E:=E) ab' z5Z q' (hn.same lm) hR hx⟩
 ·exact .inr ⟨i,j,e,h1,z8B (E:=E) ab' z5Z q' (hn.same lm) hR hx⟩
theorem zbb {g:Tg}{p pos2:Pos}(hp:PassesOwn (model X.prog X.w) X.A X.env X.xe)(hc:X.calm=true)(hgr:Gl X "range")(hm:X.mg "range"=none)(ha:QXA X E [a] [x])(hg:QG X tg (tgt X.K g))(hb:QZs X E body t)(hst:starEach [a] X.env=[(false,eval a X.env)]:=by rfl)
  (hs:∀ x,foldedSetIterable (.Call (.Name "range" p) [a] [] pos2) X.env x=pure x:=by intro _; rfl):QZ X E (.For tg (.Call (.Name "range" p) [a] [] pos2) body [] pos) (.forr [x] g t):=
 zfA hp hc hg hb (fun σ H R h=>zc7 (n:=1) rfl (fun vs H1 hl q=>by
  rcases q with q | ⟨i,j,e,_⟩
  ·exact q
  ·rw[e] at hl; simp at hl) h) (zad hgr hm ha hst) hs
noncomputable def iAny (K:W.Frag)(tl:TE):TI:=fun σ H R=>tl σ H fun x H1=>(∃ a,x = .ref a/\(∃ xs,SqL K H1 a xs)/\R (Itl K a) H1)\/(∃ a,x = .ref a/\(∃ xs,SqT K H1 a xs)/\R (Itt K a) H1)\/∃ y,x = .str y/\R (Its y) H1
theorem zhc {l:Expr}{tl:TE}(hl:QE X l tl):QI X tg l (iAny X.K tl):=by
 constructor
 intro pins s σ H R I h
 refine thn (hl.p pins s σ H _ I h) fun v s1 ⟨x,H1,I1,r1,q1⟩ => ?_
 have fp:∀ b∈[s1.heap.objs.size],FpOk X pins H1 b:=fun b hb=>by
  have e:b=s1.heap.objs.size:=by simpa using hb
  subst e
  exact I1.fpOk (Nat.le_refl _) (I1.hok.fresh (Nat.le_refl _))
 rcases q1 with ⟨a,e,⟨xs,hq⟩,q⟩ | ⟨a,e,⟨xs,hq⟩,q⟩ | ⟨y,rfl,q⟩
 ·subst e
  cases r1
  obtain⟨its,rv,p,hz⟩:=I1.list hq
  refine wpAny_pyIter_list p.isList ?_
  exact⟨s1.heap.objs.size,[s1.heap.objs.size],_,_,H1,rfl,I1.kept (t':=s1.toks) fun b o e=>Heap.get?_push_of_some _ e,zc8 a _,⟨_,Heap.get?_push_size _ rfl,rfl,rfl⟩,fp,q⟩
 ·subst e
  cases r1
  obtain⟨its,rv,p,hz⟩:=I1.tuple hq
  refine wpAny_pyIter_tuple (show s1.heap.IsTuple a its.toArray from p) ?_
  exact⟨s1.heap.objs.size,[s1.heap.objs.size],_,_,H1,rfl,I1.kept (t':=s1.toks) fun b o e=>Heap.get?_push_of_some _ e,zbA a _,⟨_,Heap.get?_push_size _ rfl,rfl,rfl⟩,fp,q⟩
 ·obtain⟨t,rfl⟩:=r1
  cases ha:y.cps.all (· < 128)
  ·exact wpAny_pyIter_wide ha ⟨s1.heap.objs.size,[s1.heap.objs.size],_,_,H1,rfl,I1.kept (t':=s1.toks) fun b o e=>Heap.get?_push_of_some _ e,zb7 y t _ (by decide) (fun A' hA=>Walks.strWide hA _ y t) (fun A i s Q E st h=>wpAny_pyIter_striter_wide st h),⟨Nat.zero_le _,_,Heap.get?_push_size _ rfl,rfl,rfl⟩,fp,q⟩
  ·exact wpAny_pyIter_ascii ha ⟨s1.heap.objs.size,[s1.heap.objs.size],_,_,H1,rfl,I1.kept (t':=s1.toks) fun b o e=>Heap.get?_push_of_some _ e,zb7 y t _ (by decide) (fun A' hA=>Walks.strAscii hA _ y t) (fun A i s Q E st h=>wpAny_pyIter_striter_ascii st h),⟨Nat.zero_le _,_,Heap.get?_push_size _ rfl,rfl,rfl⟩,fp,q⟩
theorem zc5 {K:W.Frag}{mg:Str->Option Value}{G:Hp}{a:Addr}{xs:List V}{l:List D}(h:SqL K G a xs)(r:RDs K mg G l xs):Walk K mg G l (Itl K a):=fun i G1 H g1 g2=>by
 have hH:=z5k (z0f g1 g2) h
 refine⟨fun d e => ?_,fun hi=>⟨xs,hH,by rw[r.len]; exact hi⟩⟩
 obtain⟨v,ev,rv⟩:=r.get e
 refine⟨⟨xs,v,hH,ev⟩,fun v' H' y => ?_⟩
 obtain⟨rfl,y⟩:=y
 have:=y xs hH
 rw[ev] at this
 cases this
 exact⟨Same.refl',G1,Gr.refl,g2,rv.same g1⟩
theorem zdz {K:W.Frag}{mg:Str->Option Value}{G:Hp}{a:Addr}{xs:List V}{l:List D}(h:SqT K G a xs)(r:RDs K mg G l xs):Walk K mg G l (Itt K a):=fun i G1 H g1 g2=>by
 have hH:=z1X (z0f g1 g2) h
 refine⟨fun d e => ?_,fun hi=>⟨xs,hH,by rw[r.len]; exact hi⟩⟩
 obtain⟨v,ev,rv⟩:=r.get e
 refine⟨⟨xs,v,hH,ev⟩,fun v' H' y => ?_⟩
 obtain⟨rfl,y⟩:=y
 have:=y xs hH
 rw[ev] at this
 cases this
 exact⟨Same.refl',G1,Gr.refl,g2,rv.same g1⟩
theorem zdA {K:W.Frag}{mg:Str->Option Value}{G:Hp}{y:Str}:Walk K mg G (y.cps.toList.map fun c =>.str ⟨#[c]⟩) (Its y):=fun i G1 H g1 g2=>by
 refine⟨fun d e => ?_,fun hi=>(show y.cps.size<=i by simpa using hi)⟩
 rw[List.getElem?_map] at e
 cases q:y.cps.toList[i]? with
 | none=>rw[q] at e; cases e
 | some c=>
  rw[q] at e
  cases e
  have hi:i < y.cps.size:=by
   have:=(List.getElem?_eq_some_iff.mp q).1
   simpa using this
  refine⟨hi,fun v H' yl => ?_⟩
  obtain⟨rfl,c',ec,rfl⟩:=yl
  have:c'=c:=by
   have q':y.cps[i]? = some c:=by simpa using q
   rw[q'] at ec; exact(Option.some.inj ec).symm
  subst this
  exact⟨Same.refl',G1,Gr.refl,g2,by rw[RD]⟩
theorem qi_x (h:QX X E iter x):QXI X E tg iter x:=QI.imp (zhc h) fun σ H R ⟨G,ρ,Q0,X0,hs,ab,hr,hz,hk,hx⟩=>by
 refine⟨G,ρ,Q0,X0,hs,ab,hr,fun d v G1 H1 q g1 g2 g3 rd => ?_,hx⟩
 cases d with
 | lst l=>
  rw[RD] at rd
  obtain⟨a,xs,rfl,h1,h2⟩:=rd
  exact .inl ⟨a,rfl,⟨xs,z5k g2 h1⟩,hk _ G1 H1 q g1 g2 g3 l _ rfl (zc5 h1 h2)⟩
 | tup l=>
  rw[RD] at rd
  obtain⟨a,xs,rfl,h1,h2⟩:=rd
  exact .inr (.inl ⟨a,rfl,⟨xs,z1X g2 h1⟩,hk _ G1 H1 q g1 g2 g3 l _ rfl (zdz h1 h2)⟩)
 | str y=>
  rw[RD] at rd
  subst rd
  exact .inr (.inr ⟨y,rfl,hk _ G1 H1 q g1 g2 g3 _ _ rfl zdA⟩)
 | _=>
  obtain⟨l,e⟩:=hz _ q
  cases e
end
end Pu
namespace Pu
open PySem PySem.Spec PyProof.Rows L2
section
variable {K:W.Frag}{mg:Str->Option Value}{H0 G0 G G1 H H1:Hp}{ρ:Pu.Env}{σ:L2.St}{i:Nat}
theorem z86 {Kk:List D->Prop}(h:ownL ρ i Kk):∃ l,ρ[i]? = some (B.o (.lst l))/\Kk l:=by
 unfold ownL at h
 split at h
 ·rename_i l e; exact⟨l,e,h⟩
 ·exact h.elim
theorem ze3:(fun a=>∃ (j:Nat) (d:D),True/\ρ[j]? = some (B.o d)/\σ[j]? = some (some (V.ref a)))=z29 ρ σ:=by
 funext a
 exact propext ⟨fun⟨j,d,_,h⟩=>⟨j,d,h⟩,fun⟨j,d,h⟩=>⟨j,d,trivial,h⟩⟩
theorem z7m {d:D}{v:V}(h:AbS K mg H0 G0 G ρ σ H)(g2:Same G1 H1)(g3:Same H H1)(sf:Safe d ρ)(rd:RD K mg G1 d v):RD K mg (minus G1 (z29 ρ σ)) d v:=by
 have:=zaK h g2 g3 sf rd
 rw[ze3] at this
 exact this
theorem zdK {l:List D}(h:AbS K mg H0 G0 G ρ σ H)(g2:Same G1 H1)(g3:Same H H1):∀ {xs:List V},(∀ x∈l,Safe x ρ)->RDs K mg G1 l xs->RDs K mg (minus G1 (z29 ρ σ)) l xs:=by
 induction l with
 | nil=>intro xs _ h; rw[RDs] at h ⊢; exact h
 | cons y l ih=>
  intro xs hs hr
  rw[RDs] at hr ⊢
  obtain⟨v,r,h1,h2,h3⟩:=hr
  exact⟨v,r,h1,z7m h g2 g3 (hs y List.mem_cons_self) h2,ih (fun z hz=>hs z (List.mem_cons_of_mem _ hz)) h3⟩
theorem AbS.wrB {l l':List D}{a:Addr}{ys:List V}(ab:AbS K mg H0 G0 G ρ σ H)(g1:Gr (plus G H (z29 ρ σ)) H G1)(g2:Same G1 H1)(g3:Same H H1)(hi:ρ[i]? = some (B.o (.lst l)))(hs:σ[i]? = some (some (V.ref a)))(hr:RDs K mg (minus G1 (z29 ρ σ)) l' ys):
  AbS K mg H0 G0 (minus G1 (z29 ρ σ)) (ρ.set i (.o (.lst l'))) σ (upd H1 a (.lst ys))/\Same G (minus G1 (z29 ρ σ)):=by
 have lm:Same G (minus G1 (z29 ρ σ)):=z4U (z0f (z3J ab.free) g1.1) ab.free
 exact⟨ab.wr (fun a o e=>ab.nw1 g1 a o (z3p a o e)) lm (z0f z3p g2) g3 (fun j d' a e s=>z7V ⟨j,d',e,s⟩) hi hs ⟨ys,z0U,hr⟩,lm⟩
end
section
variable {X:Cx}{E:XK}{st:Stmt}{t:Sm}{e o tg:Expr}{x y z:Ex}{pos cpos apos:Pos}{i j:Nat}
theorem zcs (ho:QE X o (tVar i))(ha:QXA X E [e] [x])
  (hs:swapsWith (.Call (.Attribute o "append" apos) [e] [] cpos) none pos.line X.env=pure false:=by rfl)
  (hbase:attributeBase o "append" X.env (eval o X.env)=eval o X.env:=by rfl)
  (hfew:((backTo cpos (starEach [e] X.env)).all (fun x => !x.1) && (backToKw cpos (keywordEach [] X.env)).all (fun x=>x.1.isSome)
   && decide ([e].length+([]:List Keyword).length+(if ([]:List Keyword).isEmpty then 0 else 1) < 30))=true:=by rfl)
  (hline:(apos.endLine == cpos.line)=true:=by rfl) (hst:starEach [e] X.env=(false,eval e X.env)::starEach [] X.env:=by rfl) (hplain:(backTo cpos (starEach [] X.env)).any (·.1)=false:=by rfl):
  QZ X E (.Expr (.Call (.Attribute o "append" apos) [e] [] cpos) pos) (.app i x):=
 QS.imp (zcu (zhj PySem.F.plainAttrs_list PySem.F.slot_list_append PySem.F.type_list_append z8S ho ha hbase hfew hline hst hplain) hs) fun De σ H ⟨H0,G0,G,ρ,N0,R0,X0,ab,hr,hn,hR,hx⟩=>by
  obtain⟨l,hl,hr⟩:=z86 hr
  obtain⟨a,s1,ga,h0,xs,hw,hrd⟩:=ab.ow i _ hl
  refine⟨.ref a,s1,.inl ⟨rfl,xs,SqL.of hw⟩,?_⟩
  refine⟨plus G H (z29 ρ σ),ρ,fun ds=>∃ d,ds=[d]/\l.length < sizeLine/\Safe d ρ/\N0 (ρ.set i (.o (.lst (l++[d])))),X0,z4N ab.g,ab.abe,x.mono ρ _ _ X0 X0 (fun d q=>⟨d,rfl,q⟩) (fun _ z=>z) hr,?_,hx.same ab.s0⟩
  rintro ds vs G1 H1 ⟨d,rfl,hsz,sf,hN⟩ g1 g2 g3 rds
  obtain⟨v,rfl,rd⟩:=rds1 rds
  refine⟨a,xs,v,rfl,rfl,g3 _ _ hw,by rw[hrd.len]; exact hsz,?_⟩
  have lm:Same G (minus G1 (z29 ρ σ)):=z4U (z0f (z3J ab.free) g1.1) ab.free
  obtain⟨ab',g'⟩:=ab.wrB (i:=i) (l':=l++[d]) (ys:=xs++[v]) g1 g2 g3 hl s1 ((hrd.same lm).app (RDs.cons (z7m ab g2 g3 sf rd) RDs.nil))
  exact hn _ σ _ _ hN ab' g'
theorem zh4 (ho:QE X o (tVar i))(hf:QF X E e x)
  (hs:swapsWith (.Call (.Attribute o "extend" apos) [e] [] cpos) none pos.line X.env=pure false:=by rfl)
  (hbase:attributeBase o "extend" X.env (eval o X.env)=eval o X.env:=by rfl)
  (hfew:((backTo cpos (starEach [e] X.env)).all (fun x => !x.1) && (backToKw cpos (keywordEach [] X.env)).all (fun x=>x.1.isSome)
   && decide ([e].length+([]:List Keyword).length+(if ([]:List Keyword).isEmpty then 0 else 1) < 30))=true:=by rfl)
  (hline:(apos.endLine == cpos.line)=true:=by rfl) (hst:starEach [e] X.env=(false,eval e X.env)::starEach [] X.env:=by rfl) (hplain:(backTo cpos (starEach [] X.env)).any (·.1)=false:=by rfl):
  QZ X E (.Expr (.Call (.Attribute o "extend" apos) [e] [] cpos) pos) (.ext i x):=by
 refine QS.imp (zcu (zhj PySem.F.plainAttrs_list PySem.F.slot_list_extend PySem.F.type_list_extend zcU ho (z5G hf z9e hst) hbase hfew hline hst hplain) hs) fun De σ H ⟨H0,G0,G,ρ,N0,R0,X0,ab,hr,hn,hR,hx⟩ => ?_
 obtain⟨l,hl,hr⟩:=z86 hr
 obtain⟨a,s1,ga,h0,xs,hw,hrd⟩:=ab.ow i _ hl
 refine⟨.ref a,s1,.inl ⟨rfl,xs,SqL.of hw⟩,?_⟩
 refine⟨plus G H (z29 ρ σ),ρ,_,X0,z4N ab.g,ab.abe,hr,fun d b G1 H1 q g1 g2 g3 hb gb how => ?_,hx.same ab.s0⟩
 cases d with
 | lst m=>
  obtain⟨zs,hz,hzr⟩:=how
  obtain⟨q1,q2,q3⟩:=q
  refine⟨a,b,xs,zs,rfl,rfl,g3 _ _ hw,hz,by rw[hrd.len,hzr.len]; exact q1,?_⟩
  have lm:Same G (minus G1 (z29 ρ σ)):=z4U (z0f (z3J ab.free) g1.1) ab.free
  obtain⟨ab',g'⟩:=ab.wrB (i:=i) (l':=l++m) (ys:=xs++zs) g1 g2 g3 hl s1 ((hrd.same lm).app (zdK ab g2 g3 q2 hzr))
  exact hn _ σ _ _ q3 ab' g'
 | _=>exact q.elim
theorem zbl {d:D}{Kk:Int->Prop}(h:isI d Kk):∃ k,d = .int k/\Kk k:=by
 cases d with
 | int k=>exact⟨k,rfl,h⟩
 | _=>exact h.elim
theorem ze6 {o:Option Nat}{Kk:Nat->Prop}(h:onN o Kk):∃ k,o=some k/\Kk k:=by
 cases o with
 | none=>exact h.elim
 | some k=>exact⟨k,rfl,h⟩
theorem zcq {k:Expr}{p2:Pos}(ho:QE X o (tVar i))(hk:QX X E k y)(he:QX X E e x)(h:∀ {te:TE}{g:TG},QE X e te->QG X (.Subscript o k p2) g->QS X (.Assign [.Subscript o k p2] e pos) (tAsg te g))
  (ha:∀ v,assign (.Subscript o k p2) X.env v=(do
   let ov <- holding [v] (eval o X.env)
   let iv <- holding [v,ov] (eval k X.env)
   standAt p2
   holding [v,ov,iv] (setItem ov iv v)
   release [v,ov,iv] []):=by intro _; rfl):QZ X E (.Assign [.Subscript o k p2] e pos) (.put i y x):=
 QS.imp (h he ⟨zhv ho.p hk.p zdI ha⟩) fun De σ H ⟨H0,G0,G,ρ,N0,R0,X0,ab,hr,hn,hR,hx⟩=>by
  obtain⟨l,hl,hr⟩:=z86 hr
  obtain⟨a,s1,ga,h0,xs,hw,hrd⟩:=ab.ow i _ hl
  refine⟨plus G H (z29 ρ σ),ρ,_,X0,z4N ab.g,ab.abe,hr,fun d v G1 H1 q g1 g2 g3 rd => ?_,hx.same ab.s0⟩
  obtain⟨sf,q⟩:=q
  refine⟨.ref a,s1,?_⟩
  refine⟨G1,ρ,_,X0,g2,ab.abe.same g1.1,q,fun kd kv G2 H2 q' k1 k2 k3 rk => ?_,hx.same (z0f ab.s0 g3)⟩
  obtain⟨kk,rfl,q'⟩:=zbl q'
  obtain⟨jj,ej,hN⟩:=ze6 q'
  have g12:Gr (plus G H (z29 ρ σ)) H G2:=g1.trans g3 k1
  have g33:Same H H2:=z0f g3 k3
  have lm:Same G (minus G2 (z29 ρ σ)):=z4U (z0f (z3J ab.free) g12.1) ab.free
  refine⟨a,xs,kk,jj,rfl,z1r rk,g33 _ _ hw,by rw[hrd.len]; exact ej,?_⟩
  obtain⟨ab',g'⟩:=ab.wrB (i:=i) (l':=l.set jj d) (ys:=xs.set jj v) g12 k2 g33 hl s1 (RDs.set (z7m ab k2 g33 sf (rd.same k1.1)) jj (hrd.same lm))
  exact hn _ σ _ _ hN ab' g'
theorem PS.nox {st:Stmt}{t:TS}(h:PS X.nox st t):PS X st t:=fun pins s σ H D I hw=>
 wpAny_mono (h pins s σ H D (I.wish _) hw) (fun _ _ q=>q.unwish) fun _ _ z=>False.elim z
theorem zaO (h:QZ X.nox E0 st t):QZ X E st (.calm t):=by
 have h':QS X st (ts X.K X.mg E0 t):=⟨PS.nox h.p⟩
 exact QS.imp h' fun De σ H ⟨H0,G0,G,ρ,N0,R0,X0,ab,hr,hn,hR,hx⟩=>⟨H0,G0,G,ρ,N0,R0,fun _=>False,ab,hr,hn,hR,Kx.no⟩
end
section
variable {P:Program}{w:World}{K:W.Frag}{mg:Str->Option Value}{base:Heap}{N:List Str}{qual:Str}{f:Addr}
theorem zb8 {G H:Hp}{ds:List D}{vs:List V}{np nn:Nat}(hs:Same G H)(r:RDs K mg G ds vs)(hl:ds.length=np)(hN:N.length=nn):AbS K mg H G G (ds.map B.s++List.replicate (nn - np) .n) (L2.z7J N vs) H:=by
 have hn:∀ (i:Nat) (b:B),(ds.map B.s++List.replicate (nn - np) .n)[i]? = some b->(∃ d,b = .s d/\ds[i]? = some d)\/b = .n:=fun i b e=>by
  by_cases hi:i < ds.length
  ·rw[List.getElem?_append_left (by simpa using hi),List.getElem?_map] at e
   rw[List.getElem?_eq_getElem hi] at e ⊢
   cases e
   exact .inl ⟨_,rfl,rfl⟩
  ·rw[List.getElem?_append_right (by simpa using hi)] at e
   have:=List.getElem?_eq_some_iff.mp e
   obtain⟨h1,h2⟩:=this
   simp at h2
   exact .inr h2.symm
 refine⟨?_,Same.refl',Same.refl',hs,fun a o e =>.inl ⟨o,e⟩,fun i d e => ?_,fun i d e => ?_,fun i j d d' a _ e => ?_⟩
 ·unfold L2.z7J
  rw[List.length_append,List.length_append,List.length_map,List.length_map,List.length_replicate,List.length_replicate,r.len,hl,hN]
 ·rcases hn i _ e with ⟨d',e1,e2⟩ | e1
  ·cases e1
   obtain⟨v,h1,h2⟩:=r.get e2
   refine⟨v,?_,h2⟩
   unfold L2.z7J
   have hi:i < vs.length:=(List.getElem?_eq_some_iff.mp h1).1
   rw[List.getElem?_append_left (by simpa using hi),List.getElem?_map,h1]
   rfl
  ·cases e1
 ·rcases hn i _ e with ⟨d',e1,e2⟩ | e1 <;> cases e1
 ·rcases hn i _ e with ⟨d',e1,e2⟩ | e1 <;> cases e1
theorem fnN {x:Str}{st:Stmt}{fd:FuncData}{ps:List Str}{k np nn:Nat}{b:Sm}(F:Fun K x qual st f fd)(S:z0z N ps (z01 st))(hp:ps.length=np)(hN:N.length=nn)
  (hb:∀ (cdv:Value) (A:Around) (outer:List PySem.Env) (s:Shared) (H:Hp) (E:XK),Room k (A.deeper (envOfC qual (z01 st) s.heap.objs.size f cdv))->QZs ((cxOf (CXe P w) P w K mg base N qual (z01 st) f cdv A outer s H E).wish fun _ _=>False) E0 (z3k st) b):
  FnOk P w K mg base (CXe P w) (k+1) f fd ps (spP K mg (Fn.mkN np nn b)):=by
 refine F.okN S (fun vs H Q E ⟨G,ds,Q0,X0,hs,rds,⟨hl,hr⟩,hk,hx⟩=>by rw[rds.len,hl,hp]) fun cdv A outer s H vs Q E hroom ⟨G,ds,Q0,X0,hs,rds,⟨hl,hr⟩,hk,hx⟩=>⟨_,hb cdv A outer s H E hroom,?_⟩
 refine⟨H,G,G,_,fun _=>Q0 .non,Q0,fun _=>False,zb8 hs rds hl hN,hr,fun ρ' σ' H' G' q ab _ => ?_,hk,Kx.no⟩
 exact hk .non .non G' H' q ⟨ab.g0,ab.nw⟩ ab.g ab.s0 (by rw[RD])
theorem fnE {x:Str}{st:Stmt}{fd:FuncData}{ps:List Str}{k np nn:Nat}{b:Sm}(F:Fun K x qual st f fd)(S:z0z N ps (z01 st))(hp:ps.length=np)(hN:N.length=nn)
  (hb:∀ (cdv:Value) (A:Around) (outer:List PySem.Env) (s:Shared) (H:Hp) (E:XK),Room k (A.deeper (envOfC qual (z01 st) s.heap.objs.size f cdv))->QZs ((cxOf (CXe P w) P w K mg base N qual (z01 st) f cdv A outer s H E).wish (cxOf (CXe P w) P w K mg base N qual (z01 st) f cdv A outer s H E).xe) E (z3k st) b):
  FnOk P w K mg base (CXe P w) (k+1) f fd ps (spP K mg (Fn.mk' np nn b)):=by
 refine F.okE S (fun vs H Q E ⟨G,ds,Q0,X0,hs,rds,⟨hl,hr⟩,hk,hx⟩=>by rw[rds.len,hl,hp]) fun cdv A outer s H vs Q E hroom ⟨G,ds,Q0,X0,hs,rds,⟨hl,hr⟩,hk,hx⟩=>⟨_,hb cdv A outer s H E hroom,?_⟩
 refine⟨H,G,G,_,fun _=>Q0 .non,Q0,X0,zb8 hs rds hl hN,hr,fun ρ' σ' H' G' q ab _ => ?_,hk,hx⟩
 exact hk .non .non G' H' q ⟨ab.g0,ab.nw⟩ ab.g ab.s0 (by rw[RD])
theorem zba {cdv:Value}{sc:Scope}{A:Around}{outer:List PySem.Env}{s:Shared}{H:Hp}{E:XK}{x:Str}{C:Addr}{m:Str}{np cpos pos p2:Pos}{j}(T:Exc K mg x C)(hg:Gl ((cxOf (CXe P w) P w K mg base N qual sc f cdv A outer s H E).wish (cxOf (CXe P w) P w K mg base N qual sc f cdv A outer s H E).xe) x)(hdb:(x == ("__debug__":Str))=false:=by decide):
  QZ ((cxOf (CXe P w) P w K mg base N qual sc f cdv A outer s H E).wish (cxOf (CXe P w) P w K mg base N qual sc f cdv A outer s H E).xe) E (.Raise (some (.Call (.Name x np) [.Constant (.str m) j p2] [] cpos)) none pos) (.raise x):=
 QS.imp (zdV T hg hdb) fun De σ H ⟨H0,G0,G,ρ,N0,R0,X0,ab,hr,hn,hR,hx⟩=>hx x C H hr T.nm ab.s0
end
end Pu
namespace Pu
open PySem PySem.Spec PyProof.Rows L2
noncomputable def Tg.slots:Tg->List Nat
 | .nm i=>[i]
 | .tp is=>is
section
variable {K:W.Frag}{mg:Str->Option Value}{G G1 H H1:Hp}{ρ:Pu.Env}{σ:L2.St}
theorem AbE.put {i:Nat}{d:D}{v:V}(h:AbE K mg G ρ σ)(hi:i < σ.length)(r:RD K mg G d v):AbE K mg G (ρ.set i (.s d)) (σ.set i (some v)):=fun j e q=>by
 rw[Env.get_eq] at q
 by_cases hj:j=i
 ·subst hj
  cases z:(ρ.set j (.s d))[j]? with
  | none=>rw[z] at q; cases q
  | some b=>
   have hl:j < ρ.length:=by
    have:=(List.getElem?_eq_some_iff.mp z).1
    simpa using this
   rw[List.getElem?_set_self hl] at q
   cases q
   exact⟨v,by rw[List.getElem?_set_self hi],r⟩
 ·rw[List.getElem?_set_ne (Ne.symm hj), <- Env.get_eq] at q
  obtain⟨w,h1,h2⟩:=h j e q
  exact⟨w,by rw[List.getElem?_set_ne (Ne.symm hj)]; exact h1,h2⟩
theorem AbE.keep {i:Nat}{v:V}(h:AbE K mg G ρ σ)(hn:ρ.get i=none):AbE K mg G ρ (σ.set i (some v)):=fun j e q=>by
 have hj:j≠i:=fun z=>by rw[z,hn] at q; cases q
 obtain⟨w,h1,h2⟩:=h j e q
 exact⟨w,by rw[List.getElem?_set_ne (Ne.symm hj)]; exact h1,h2⟩
theorem AbE.putAll {base:Pu.Env}:∀ (is:List Nat) (ds:List D) (vs:List V) {ρ:Pu.Env}{σ:L2.St},is.length=ds.length->RDs K mg G ds vs->(∀ i∈is,i < σ.length)->(∀ i∈is,base.get i=none)->AbE K mg G ρ σ->AbE K mg G base σ->
  AbE K mg G (z0E is ds ρ) ((is.zip vs).foldl (fun σ p=>σ.set p.1 (some p.2)) σ)/\AbE K mg G base ((is.zip vs).foldl (fun σ p=>σ.set p.1 (some p.2)) σ)/\((is.zip vs).foldl (fun σ p=>σ.set p.1 (some p.2)) σ).length=σ.length
 | [],[],vs,ρ,σ,_,h,_,_,ab,bb=>by rw[RDs] at h; subst h; exact⟨ab,bb,rfl⟩
 | [],_::_,_,_,_,h,_,_,_,_,_=>by simp at h
 | _::_,[],_,_,_,h,_,_,_,_,_=>by simp at h
 | i::is,d::ds,vs,ρ,σ,h,r,hl,hn,ab,bb=>by
  rw[RDs] at r
  obtain⟨v,vs',rfl,h1,h2⟩:=r
  obtain⟨a1,a2,a3⟩:=AbE.putAll (base:=base) is ds vs' (ρ:=ρ.set i (.s d)) (σ:=σ.set i (some v)) (by simpa using h) h2 (fun j hj=>by rw[List.length_set]; exact hl j (List.mem_cons_of_mem _ hj)) (fun j hj=>hn j (List.mem_cons_of_mem _ hj)) (ab.put (hl i List.mem_cons_self) h1) (bb.keep (hn i List.mem_cons_self))
  exact⟨a1,a2,by rw[List.zip_cons_cons,List.foldl_cons,a3,List.length_set]⟩
theorem zdE {tg:Tg}{d:D}{v:V}{N0:Pu.Env->Prop}{N:L2.St->Hp->Prop}(ab:AbE K mg G ρ σ)(g:Same G H)(rd:RD K mg G d v)(hl:∀ i∈tg.slots,i < σ.length)(hf:∀ i∈tg.slots,ρ.get i=none)(hp:tg.put d ρ N0)
  (hn:∀ ρ' σ',N0 ρ'->AbE K mg G ρ' σ'->AbE K mg G ρ σ'->σ'.length=σ.length->N σ' H):tgt K tg v σ H N:=by
 cases tg with
 | nm i=>
  have h1:=hl i (by simp[Tg.slots])
  have h2:=hf i (by simp[Tg.slots])
  exact hn _ _ hp (ab.put h1 rd) (ab.keep h2) (by simp)
 | tp is=>
  cases d with
  | tup ds=>
   obtain⟨hle,hp⟩:=hp
   rw[RD] at rd
   obtain⟨a,xs,rfl,h1,h2⟩:=rd
   obtain⟨a1,a2,a3⟩:=AbE.putAll (base:=ρ) is ds xs (ρ:=ρ) (σ:=σ) hle h2 hl hf ab ab
   exact⟨a,xs,rfl,z1X g h1,by rw[h2.len,hle],z8u (K:=K) is xs σ H N (by rw[h2.len,hle]) (hn _ _ hp a1 a2 a3)⟩
  | _=>exact hp.elim
theorem zbZ {nt:Nat}{js:List Nat}(h:AbE K mg G ρ σ):AbE K mg G (z1W nt js ρ) (List.replicate nt none++js.map fun j=>(σ[j]?).getD none):=fun i d e=>by
 rw[Env.get_eq] at e
 unfold z1W at e
 by_cases hi:i < nt
 ·rw[List.getElem?_append_left (by simpa using hi),List.getElem?_replicate,if_pos hi] at e
  cases e
 ·rw[List.getElem?_append_right (by simpa using hi),List.length_replicate,List.getElem?_map] at e
  rw[List.getElem?_append_right (by simpa using hi),List.length_replicate,List.getElem?_map]
  cases q:js[i - nt]? with
  | none=>rw[q] at e; cases e
  | some j=>
   rw[q] at e
   have e':((ρ[j]?).getD .n).get=some d:=e
   have e2:ρ.get j=some d:=by
    rw[Env.get_eq]
    cases z:ρ[j]? with
    | none=>rw[z] at e'; cases e'
    | some b=>rw[z] at e'; exact e'
   obtain⟨v,h1,h2⟩:=h j d e2
   refine⟨v,?_,h2⟩
   show some ((σ[j]?).getD none)=some (some v)
   rw[h1]; rfl
theorem zay {nt:Nat}{js:List Nat}{i:Nat}(hi:i < nt):(z1W nt js ρ).get i=none:=by
 rw[Env.get_eq]
 unfold z1W
 rw[List.getElem?_append_left (by simpa using hi),List.getElem?_replicate,if_pos hi]
 rfl
noncomputable def TcOk (K:W.Frag)(mg:Str->Option Value)(c:Option Ex)(tc:TT):Prop:=match c with
 | none=>tc=z7Y
 | some c=>tc=tt K mg E0 c
theorem zek {nt:Nat}{js:List Nat}{tg:Tg}{c:Option Ex}{elt:Ex}{l:List D}{J:It}{tc:TT}{Q0:List D->Prop}{Q:VK}(hts:∀ i∈tg.slots,i < nt)(ab:AbE K mg G ρ σ)(g:Same G H)(hw:Walk K mg G l J)(hsz:l.length < sizeLine)
  (hr:z7g (z7h tg c elt (z1W nt js ρ)) l Q0)
  (htc:TcOk K mg c tc)
  (hk:∀ rs ys p G2 H2,Q0 rs->Gr G H G2->Same G2 H2->Same H H2->RDs K mg G2 rs ys->H2 p=none->Q (.ref p) (upd H2 p (.lst ys))):
  LcG J (tgt K tg) tc (tx K mg E0 elt) Q (List.replicate nt none++js.map fun j=>(σ[j]?).getD none) H:=by
 refine⟨fun i m ys σ' H'=>m=l.length - i/\i<=l.length/\ys.length<=i/\σ'.length=nt+js.length/\∃ G' rs,Gr G H G'/\Same G' H'/\Same H H'/\RDs K mg G' rs ys/\AbE K mg G' (z1W nt js ρ) σ'/\z7g (z7h tg c elt (z1W nt js ρ)) (l.drop i) fun r=>Q0 (rs++r),
  ⟨l.length,by simp,Nat.zero_le _,by simp,by simp,G,[],Gr.refl,g,Same.refl',RDs.nil,zbZ ab,by simpa using hr⟩,?_⟩
 rintro i m ys σ1 H1 ⟨rfl,hi,hyl,hsl,G1,rs,g1,g2,g3,rds,ab1,h1⟩
 refine⟨by omega,?_⟩
 obtain⟨w1,w2⟩:=hw i G1 H1 g1.1 g2
 by_cases hlt:i < l.length
 ·have e:l[i]? = some l[i]:=by simp[hlt]
  obtain⟨go,yl⟩:=w1 _ e
  rw[List.drop_eq_getElem_cons hlt] at h1
  have h1':z7h tg c elt (z1W nt js ρ) l[i] (fun o=>z7g (z7h tg c elt (z1W nt js ρ)) (l.drop (i+1)) fun r=>Q0 (rs++(o.toList++r))):=h1
  unfold z7h at h1'
  refine .inr ⟨go,fun v H2 y => ?_⟩
  obtain⟨s2,G2,k1,k2,rd⟩:=yl v H2 y
  refine zdE (ab1.same k1.1) k2 rd (fun j hj=>by rw[hsl]; have:=hts j hj; omega) (fun j hj=>zay (hts j hj)) h1' fun ρ3 σ3 hb ab3 bb3 hl3 => ?_
  have el:∀ {G3 H3:Hp},Gr G2 H2 G3->Same G3 H3->Same H2 H3->(elt.run ρ3 (fun d=>z7g (z7h tg c elt (z1W nt js ρ)) (l.drop (i+1)) fun r=>Q0 (rs++((some d:Option D).toList++r))) fun _=>False)->
    tx K mg E0 elt σ3 H3 fun y H4=>∃ m',m' < l.length - i/\m'=l.length - (i+1)/\i+1<=l.length/\(ys++[y]).length<=i+1/\σ3.length=nt+js.length/\∃ G' rs',Gr G H G'/\Same G' H4/\Same H H4/\RDs K mg G' rs' (ys++[y])/\AbE K mg G' (z1W nt js ρ) σ3/\z7g (z7h tg c elt (z1W nt js ρ)) (l.drop (i+1)) fun r=>Q0 (rs'++r):=fun {G3 H3} k3 k4 k5 he=>by
   refine⟨G3,ρ3,_,fun _=>False,k4,ab3.same k3.1,he,fun d v' G4 H4 q n1 n2 n3 rd' => ?_,Kx.no⟩
   refine⟨l.length - (i+1),by omega,rfl,hlt,by simp; omega,by rw[hl3,hsl],G4,rs++[d],g1.trans g3 (k1.trans s2 (k3.trans k5 n1)),n2,z0f g3 (z0f s2 (z0f k5 n3)),((rds.same (z0f k1.1 (z0f k3.1 n1.1))).app (RDs.cons rd' RDs.nil)),bb3.same (z0f k3.1 n1.1),?_⟩
   refine z64 z7B _ _ _ (fun r q => ?_) q
   simpa using q
  cases c with
  | none=>
   have:tc=z7Y:=htc
   subst this
   unfold z7Y; dsimp only
   rw[if_pos rfl]
   exact el Gr.refl k2 Same.refl' hb
  | some c=>
   have:tc=tt K mg E0 c:=htc
   subst this
   refine⟨G2,ρ3,_,fun _=>False,k2,ab3,hb,fun d G3 H3 q k3 k4 k5 => ?_,Kx.no⟩
   obtain⟨b,rfl,q1,q2⟩:=za0 q
   refine⟨b,rfl,?_⟩
   cases b with
   | true=>exact iteT (el k3 k4 k5 (q1 rfl))
   | false=>
    refine iteF ⟨l.length - (i+1),by omega,rfl,hlt,by omega,by rw[hl3,hsl],G3,rs,g1.trans g3 (k1.trans s2 k3),k4,z0f g3 (z0f s2 k5),rds.same (z0f k1.1 k3.1),bb3.same k3.1,?_⟩
    refine z64 z7B _ _ _ (fun r q => ?_) (q2 rfl)
    simpa using q
 ·have e:i=l.length:=by omega
  subst e
  rw[List.drop_length] at h1
  refine .inl ⟨w2 (Nat.le_refl _),fun p hp=>hk rs ys p G1 H1 ?_ g1 g2 g3 rds hp⟩
  have h1':Q0 (rs++[]):=h1
  simpa using h1'
theorem zca {E:XK}{nt:Nat}{js:List Nat}{tg:Tg}{src:Ex}{c:Option Ex}{elt:Ex}{tc:TT}{Q:VK}(hts:∀ i∈tg.slots,i < nt)(htc:TcOk K mg c tc)(h:tf K mg E (.comp nt js tg src c elt) σ H Q):tLcG (ti K mg E src) (tgt K tg) tc (tx K mg E0 elt) nt js σ H Q:=by
 obtain⟨G,ρ,Q0,X0,hs,ab,hr,hk,hx⟩:=h
 refine⟨G,ρ,_,X0,hs,ab,hr,fun d q=>(zbh q).imp fun _ z=>z.1,fun d G1 H1 q g1 g2 g3 l J el hw => ?_,hx⟩
 have q':onL (z07 d) fun l=>l.length < sizeLine/\z7g (z7h tg c elt (z1W nt js ρ)) l fun r=>Q0 (.lst r):=q
 rw[el] at q'
 refine zek hts (ab.same g1.1) g2 hw q'.1 q'.2 htc fun rs ys p G2 H2 hq k1 k2 k3 rds hp => ?_
 have hn:∀ {A:Hp},Same A H2->A p=none:=fun s=>z3o s hp
 refine hk (.lst rs) p G2 (upd H2 p (.lst ys)) hq (g1.trans g3 k1) (z0f k2 (z1p hp _)) (z0f g3 (z0f k3 (z1p hp _))) (hn (z0f g3 k3)) (hn k2) ⟨ys,z0U,rds⟩
end
section
variable {X:Cx}{E:XK}{elt iter target:Expr}{ct:Option Expr}{pos spos py:Pos}{scope:Scope}{N':List Str}{nt:Nat}{js:List Nat}{tg:Tg}{src x:Ex}{c:Option Ex}{y:Str}{iy:Nat}
noncomputable def CtOk (X:Cx)(scope:Scope)(N':List Str)(ct:Option Expr)(c:Option Ex):Prop:=match ct,c with
 | none,none=>True
 | some e,some x=>∀ (C:Addr) (s:Shared) (H:Hp) (fp:List Addr),QXT (X.compG scope N' C s H fp) E0 e x
 | _,_=>False
noncomputable def CtQ (X:Cx)(scope:Scope)(N':List Str)(ct:Option Expr)(tc:TT):Prop:=match ct with
      | none=>tc=z7Y
      | some c=>∀ (C:Addr) (s:Shared) (H:Hp) (fp:List Addr),QT (X.compG scope N' C s H fp) c tc
theorem zbu (h:CtOk X scope N' ct c):∃ tc:TT,CtQ X scope N' ct tc/\TcOk X.K X.mg c tc:=by
 cases ct with
 | none=>
  cases c with
  | none=>exact⟨z7Y,rfl,rfl⟩
  | some c=>exact h.elim
 | some e=>
  cases c with
  | none=>exact h.elim
  | some c=>exact⟨tt X.K X.mg E0 c,h,rfl⟩
theorem z6r (hc:X.calm=true)(hi:QXI X E target iter src)(hk:scope.kind = .function)(cp:z7j X N' nt js scope)(hts:tg.slots.all (· < nt)=true)
  (hg:∀ (C:Addr) (s:Shared) (H:Hp) (fp:List Addr),QG (X.compG scope N' C s H fp) target (tgt X.K tg)) (ht:CtOk X scope N' ct c)
  (he:∀ (C:Addr) (s:Shared) (H:Hp) (fp:List Addr),QX (X.compG scope N' C s H fp) E0 elt x) (hs:∀ x,foldedSetIterable iter X.env x=pure x:=by intro _; rfl):QF X E (.ListComp elt [⟨target,iter,ct.toList,0⟩] scope pos) (.comp nt js tg src c x):=by
 obtain⟨tc,h1,h2⟩:=zbu ht
 exact QE.imp (zhh hc hi hk cp hg h1 he hs) fun σ H Q h=>zca (fun i hi=>of_decide_eq_true (List.all_eq_true.mp hts i hi)) h2 h
theorem zcv (hN:X.N.Nodup)(hiy:X.N[iy]? = some y)(hly:X.env.scope.names.lookup y=some .local)(hc:X.calm=true)(hi:QXI X E target iter src)(hk:scope.kind = .function)(cp:z7j X N' nt js scope)(hts:tg.slots.all (· < nt)=true)
  (hg:∀ (C:Addr) (s:Shared) (H:Hp) (fp:List Addr),QG (X.compG scope N' C s H fp) target (tgt X.K tg)) (ht:CtOk X scope N' ct c)
  (he:∀ (C:Addr) (s:Shared) (H:Hp) (fp:List Addr),QX (X.compG scope N' C s H fp) E0 elt x) (hsw:swapsWith (.ListComp elt [⟨target,iter,ct.toList,0⟩] scope pos) (some (.Name y py)) spos.line X.env=pure true:=by rfl) (hs:∀ x,foldedSetIterable iter X.env x=pure x:=by intro _; rfl):
  QS X (.Assign [.Name y py] (.ListComp elt [⟨target,iter,ct.toList,0⟩] scope pos) spos) (tAsg (tf X.K X.mg E (.comp nt js tg src c x)) (z6z iy)):=by
 obtain⟨tc,h1,h2⟩:=zbu ht
 exact QS.imp (zhb hN hiy hly hc hi hk cp hg h1 he hsw hs) fun D σ H h=>zca (fun i hi=>of_decide_eq_true (List.all_eq_true.mp hts i hi)) h2 h
theorem z84 {i:Nat}{z:Str}{pos:Pos}(hN:X.N.Nodup)(hi:X.N[i]? = some z)(hx:X.env.scope.names.lookup z=some .local):QG X (.Name z pos) (tgt X.K (.nm i)):=zcx hN hi hx
noncomputable def pTup:Fn:=⟨fun ds Q _=>ds.length<=sizeLine/\Q (.tup ds),fun ds Q Q' X X' m _ q=>⟨q.1,m _ q.2⟩⟩
noncomputable def pLst:Fn:=⟨fun ds Q _=>ds.length<=sizeLine/\Q (.lst ds),fun ds Q Q' X X' m _ q=>⟨q.1,m _ q.2⟩⟩
theorem z0l {es:List Expr}{xs:List Ex}{x1}(h:QXA X E es xs):QX X E (.Tuple es x1 pos) (.op pTup xs):=QE.imp (⟨zhw h.p⟩:QE X (.Tuple es x1 pos) _) fun σ H Q ⟨G,ρ,Q0,X0,hs,ab,hr,hk,hx⟩=>by
 refine⟨G,ρ,_,X0,hs,ab,hr,fun ds vs G1 H1 q g1 g2 g3 rds=>⟨by rw[rds.len]; exact q.1,fun p hp => ?_⟩,hx⟩
 refine(hk.same g1 g3).new g2 hp q.2 ?_
 rw[RD]
 exact⟨p,vs,rfl,SqT.of z0U,rds.same (z1p (z3o g2 hp) _)⟩
theorem z4a {es:List Expr}{xs:List Ex}(h:QXA X E es xs):QF X E (.List es pos) (.op pLst xs):=QE.imp (zhg h) fun σ H Q ⟨G,ρ,Q0,X0,hs,ab,hr,hk,hx⟩=>by
 refine⟨G,ρ,_,X0,hs,ab,hr,fun ds vs G1 H1 q g1 g2 g3 rds=>⟨by rw[rds.len]; exact q.1,fun p hp => ?_⟩,hx⟩
 exact hk (.lst ds) p G1 (upd H1 p (.lst vs)) q.2 g1 (z0f g2 (z1p hp _)) (z0f g3 (z1p hp _)) (z3o g3 hp) (z3o g2 hp) ⟨vs,z0U,rds⟩
end
end Pu
namespace Pu
open PySem PySem.Spec PyProof.Rows L2
noncomputable def fn2 (g:D->D->DK->Prop)(m:∀ a b (Q Q':DK),(∀ d,Q d->Q' d)->g a b Q->g a b Q'):Fn:=⟨fun ds Q _=>match ds with
 | [a,b]=>g a b Q
 | _=>False,fun ds Q Q' X X' mm _ q=>by
 match ds,q with
 | [a,b],q=>exact m a b Q Q' mm q
 | [],q=>exact q.elim
 | [_],q=>exact q.elim
 | _::_::_::_,q=>exact q.elim⟩
noncomputable def fn1 (g:D->DK->Prop)(m:∀ a (Q Q':DK),(∀ d,Q d->Q' d)->g a Q->g a Q'):Fn:=⟨fun ds Q _=>match ds with
 | [a]=>g a Q
 | _=>False,fun ds Q Q' X X' mm _ q=>by
 match ds,q with
 | [a],q=>exact m a Q Q' mm q
 | [],q=>exact q.elim
 | _::_::_,q=>exact q.elim⟩
theorem zbe {o:Option D}{Q Q':DK}(m:∀ d,Q d->Q' d)(h:onV o Q):onV o Q':=by
 cases o with
 | none=>exact h
 | some d=>exact m _ h
theorem zbd {o:Option D}{Q:DK}(h:onV o Q):∃ d,o=some d/\Q d:=by
 cases o with
 | none=>exact h.elim
 | some d=>exact⟨d,rfl,h⟩
noncomputable def gAdd (a b:D)(Q:DK):Prop:=match a,b with
 | .int i,.int j=>Q (.int (i+j))
 | .str x,.str y=>x.length+y.length<=sizeLine/\Q (.str (x++y))
 | .lst l,.lst m=>l.length+m.length<=sizeLine/\Q (.lst (l++m))
 | .tup l,.tup m=>l.length+m.length<=sizeLine/\Q (.tup (l++m))
 | _,_=>False
theorem zdc (a b:D)(Q Q':DK)(m:∀ d,Q d->Q' d)(h:gAdd a b Q):gAdd a b Q':=by
 unfold gAdd at h ⊢
 split at h
 ·exact m _ h
 ·exact⟨h.1,m _ h.2⟩
 ·exact⟨h.1,m _ h.2⟩
 ·exact⟨h.1,m _ h.2⟩
 ·exact h.elim
noncomputable def pAdd:Fn:=fn2 gAdd zdc
noncomputable def gI (g:Int->Int->DK->Prop)(a b:D)(Q:DK):Prop:=match a,b with
 | .int i,.int j=>g i j Q
 | _,_=>False
theorem zdb {g:Int->Int->DK->Prop}(hg:∀ i j (Q Q':DK),(∀ d,Q d->Q' d)->g i j Q->g i j Q')(a b:D)(Q Q':DK)(m:∀ d,Q d->Q' d)(h:gI g a b Q):gI g a b Q':=by
 unfold gI at h ⊢
 split at h
 ·exact hg _ _ _ _ m h
 ·exact h.elim
noncomputable def fnI (g:Int->Int->DK->Prop)(hg:∀ i j (Q Q':DK),(∀ d,Q d->Q' d)->g i j Q->g i j Q'):Fn:=fn2 (gI g) (zdb hg)
noncomputable def pSub:Fn:=fnI (fun i j Q=>Q (.int (i - j))) fun _ _ _ _ m h=>m _ h
noncomputable def z3i:Fn:=fnI (fun i j Q=>ziN i j/\Q (.int (i.fdiv j))) fun _ _ _ _ m h=>⟨h.1,m _ h.2⟩
noncomputable def pMod:Fn:=fnI (fun i j Q=>j≠0/\Q (.int (i.fmod j))) fun _ _ _ _ m h=>⟨h.1,m _ h.2⟩
noncomputable def pPow:Fn:=fnI (fun i j Q=>CPow i j/\Q (.int (i ^ j.toNat))) fun _ _ _ _ m h=>⟨h.1,m _ h.2⟩
noncomputable def gNeg (a:D)(Q:DK):Prop:=match a with
 | .int i=>Q (.int (-i))
 | _=>False
noncomputable def pNeg:Fn:=fn1 gNeg fun a Q Q' m h=>by
 unfold gNeg at h ⊢
 split at h
 ·exact m _ h
 ·exact h.elim
section
variable {X:Cx}{K:W.Frag}{mg:Str->Option Value}
noncomputable def r2 (K:W.Frag)(mg:Str->Option Value)(F:Fn):R2:=fun v1 v2 H Q=>∃ G d1 d2 Q0 X0,Same G H/\RD K mg G d1 v1/\RD K mg G d2 v2/\F.run [d1,d2] Q0 X0/\Kt K mg G H Q0 Q
noncomputable def r1 (K:W.Frag)(mg:Str->Option Value)(F:Fn):V->Hp->VK->Prop:=fun v H Q=>∃ G d Q0 X0,Same G H/\RD K mg G d v/\F.run [d] Q0 X0/\Kt K mg G H Q0 Q
noncomputable def rN (K:W.Frag)(mg:Str->Option Value)(F:Fn):List V->Hp->VK->Prop:=fun vs H Q=>∃ G ds Q0 X0,Same G H/\RDs K mg G ds vs/\F.run ds Q0 X0/\Kt K mg G H Q0 Q
theorem lk2 {F:Fn}:Lk2 K mg F (r2 K mg F):=fun G H d1 d2 v1 v2 Q0 X0 Q a b c d e=>⟨G,d1,d2,Q0,X0,a,b,c,d,e⟩
theorem lk1 {F:Fn}:Lk1 K mg F (r1 K mg F):=fun G H d v Q0 X0 Q a b c d=>⟨G,_,Q0,X0,a,b,c,d⟩
theorem lkN {F:Fn}:LkN K mg F (rN K mg F):=fun G H d v Q0 X0 Q a b c d=>⟨G,_,Q0,X0,a,b,c,d⟩
theorem zeI {prog:Program}{w:World}{A:Around}{E:Value->Shared->Prop}{s:Shared}{t b:Addr}{ws:List Value}{Q:Value->Shared->Prop}(ht:IsTup s.heap t ([]:List Value).toArray)(hb:IsTup s.heap b ws.toArray)(h:Q (.ref b) s):wpAny (model prog w) A (binaryOp .Add (.ref t) (.ref b)) Q E s:=by
 obtain⟨⟨cls,dd,data,sl⟩,ho,hc,n,hd⟩:=id ht
 obtain⟨⟨cls2,dd2,data2,sl2⟩,ho2,hc2,n2,hd2⟩:=id hb
 simp only at hc hd hc2 hd2
 subst hc hd hc2 hd2
 exact concat_meets ⟨_,ho,rfl⟩ ⟨_,ho2,rfl⟩ noFill_tuple_add seq_tuple_add PySem.F.slot_tuple_add PySem.F.entry_tuple_add (PySem.F.args_tuple_add_2 _ _)
   (tuple_addW0 t b _ ws.toArray n n2 dd dd2 sl sl2 (by simp)) ⟨ho,ho2,h⟩
theorem ze5:OpR X (binaryOp .Add) (fun x y H Q=>∃ a b ys,x = .ref a/\y = .ref b/\SqT X.K H a []/\SqT X.K H b ys/\Q (.ref b) H):=by
 intro pins s σ H x y v u Q I rx ry h
 obtain⟨a,b,ys,rfl,rfl,ha,hb,q⟩:=h
 cases rx
 cases ry
 obtain⟨its,r1,p1,_⟩:=I.tuple ha
 obtain⟨its2,r2,p2,_⟩:=I.tuple hb
 cases r1
 exact zeI p1 p2 ⟨.ref b,H,I,rfl,q⟩
noncomputable def zj9 (K:W.Frag):R2:=fun x y H Q=>∃ l b xs zs,x = .ref l/\y = .ref b/\SqL K H l xs/\SqL K H b zs/\xs.length+zs.length<=sizeLine/\∀ p,H p=none->Q (.ref p) (upd H p (.lst (xs++zs)))
theorem zg4:OpR X (binaryOp .Add) (zj9 X.K):=by
 intro pins s σ H x y v u Q I rx ry h
 obtain⟨l,b,xs,zs,rfl,rfl,hH,hB,hz,q⟩:=h
 cases rx
 cases ry
 obtain⟨its,r,⟨⟨cls,dd,data,sl⟩,n,e,hc,_,hd⟩,z1⟩:=I.list hH
 obtain⟨its2,r2,⟨⟨cls2,dd2,data2,sl2⟩,n2,e2,hc2,_,hd2⟩,z2⟩:=I.list hB
 dsimp only at hc hd hc2 hd2
 subst hc hd hc2 hd2
 have l1:=r.length
 have l2:=r2.length
 have ea:its.toArray++its2.toArray=(its++its2).toArray:=by simp
 refine concat_meets ⟨_,e,rfl⟩ ⟨_,e2,rfl⟩ noFill_list_add seq_list_add PySem.F.slot_list_add PySem.F.entry_list_add (PySem.F.args_list_add_2 _ _) (list_addW l b its.toArray its2.toArray n n2 dd dd2 sl sl2 (by simp only[List.size_toArray]; omega)) ⟨e,e2,?_⟩
 rw[ea]
 exact⟨.ref _,_,I.lnew (t':=s.toks) (r.append r2) (by rw[List.length_append]; omega),rfl,q _ I.fresh⟩
theorem z49 {G:Hp}{l:List D}{v:V}(h:RD K mg G (.tup l) v):∃ a xs,v = .ref a/\SqT K G a xs/\RDs K mg G l xs:=by rw[RD] at h; exact h
theorem z5E {G:Hp}{l:List D}{v:V}(h:RD K mg G (.lst l) v):∃ a xs,v = .ref a/\SqL K G a xs/\RDs K mg G l xs:=by rw[RD] at h; exact h
theorem z5D {G:Hp}{x:Str}{v:V}(h:RD K mg G (.str x) v):v = .str x:=by rw[RD] at h; exact h
theorem zaa {G:Hp}{x:Bool}{v:V}(h:RD K mg G (.bl x) v):v = .bl x:=by rw[RD] at h; exact h
theorem z9b {G:Hp}{v:V}(h:RD K mg G .non v):v = .non:=by rw[RD] at h; exact h
theorem RD.newT {G H:Hp}{p:Addr}{l:List D}{xs:List V}(r:RDs K mg G l xs)(g:Same G H)(hp:H p=none):RD K mg (upd G p (.tup xs)) (.tup l) (.ref p):=by
 rw[RD]
 exact⟨p,xs,rfl,SqT.of z0U,r.same (z1p (z3o g hp) _)⟩
theorem RD.newL {G H:Hp}{p:Addr}{l:List D}{xs:List V}(r:RDs K mg G l xs)(g:Same G H)(hp:H p=none):RD K mg (upd G p (.lst xs)) (.lst l) (.ref p):=by
 rw[RD]
 exact⟨p,xs,rfl,SqL.of z0U,r.same (z1p (z3o g hp) _)⟩
theorem RD.ofT {G:Hp}{a:Addr}{l:List D}{xs:List V}(h:SqT K G a xs)(r:RDs K mg G l xs):RD K mg G (.tup l) (.ref a):=by rw[RD]; exact⟨a,xs,rfl,h,r⟩
theorem RD.ofL {G:Hp}{a:Addr}{l:List D}{xs:List V}(h:SqL K G a xs)(r:RDs K mg G l xs):RD K mg G (.lst l) (.ref a):=by rw[RD]; exact⟨a,xs,rfl,h,r⟩
theorem RD.int' {G:Hp}{i:Int}:RD K mg G (.int i) (.int i):=by rw[RD]
theorem RD.bl' {G:Hp}{i:Bool}:RD K mg G (.bl i) (.bl i):=by rw[RD]
theorem RD.str' {G:Hp}{i:Str}:RD K mg G (.str i) (.str i):=by rw[RD]
theorem RDs.ne_nil {G:Hp}{l:List D}{xs:List V}(r:RDs K mg G l xs):xs=[]↔l=[]:=by
 have:=r.len
 constructor
 ·rintro rfl; exact List.length_eq_zero_iff.mp this.symm
 ·rintro rfl; exact List.length_eq_zero_iff.mp this
theorem z0r:OpR X (binaryOp .Add) (r2 X.K X.mg pAdd):=by
 intro pins s σ H x y v u Q I rx ry ⟨G,d1,d2,Q0,X0,g,h1,h2,hr,hk⟩
 have hr':gAdd d1 d2 Q0:=hr
 unfold gAdd at hr'
 split at hr'
 ·exact zhQ pins s σ H x y v u Q I rx ry ⟨_,_,z1r h1,z1r h2,hk.now g hr' RD.int'⟩
 ·exact zbJ pins s σ H x y v u Q I rx ry ⟨_,_,z5D h1,z5D h2,hr'.1,hk.now g hr'.2 RD.str'⟩
 ·obtain⟨a,xs,rfl,s1,r1⟩:=z5E h1
  obtain⟨b,zs,rfl,s2,r2⟩:=z5E h2
  exact zg4 pins s σ H _ _ v u Q I rx ry ⟨a,b,xs,zs,rfl,rfl,z5k g s1,z5k g s2,by rw[r1.len,r2.len]; exact hr'.1,fun p hp=>hk.new g hp hr'.2 (RD.newL (r1.app r2) g hp)⟩
 ·obtain⟨a,xs,rfl,s1,r1⟩:=z49 h1
  obtain⟨b,zs,rfl,s2,r2⟩:=z49 h2
  by_cases hx:xs=[]
  ·subst hx
   have e:=r1.ne_nil.mp rfl
   subst e
   exact ze5 pins s σ H _ _ v u Q I rx ry ⟨a,b,zs,rfl,rfl,z1X g s1,z1X g s2,hk.now g hr'.2 (RD.ofT s2 r2)⟩
  ·refine zg3 pins s σ H _ _ v u Q I rx ry ⟨a,b,xs,zs,rfl,rfl,z1X g s1,z1X g s2,hx,by rw[r1.len,r2.len]; exact hr'.1,fun e => ?_,fun e p hp=>hk.new g hp hr'.2 (RD.newT (r1.app r2) g hp)⟩
   have e:=r2.ne_nil.mp e
   subst e
   refine hk.now g hr'.2 ?_
   rw[List.append_nil]
   exact RD.ofT s1 r1
 ·exact hr'.elim
theorem z9P {g:Int->Int->DK->Prop}{a b:D}{Q:DK}(h:gI g a b Q):∃ i j,a = .int i/\b = .int j/\g i j Q:=by
 unfold gI at h
 split at h
 ·exact⟨_,_,rfl,rfl,h⟩
 ·exact h.elim
theorem zeb {f:Value->Value->Sem Value}{C:Int->Int->Prop}{gv:Int->Int->Int}{hg}(h:OpR X f (rI C fun i j =>.int (gv i j))):OpR X f (r2 X.K X.mg (fnI (fun i j Q=>C i j/\Q (.int (gv i j))) hg)):=h.imp fun x y H Q ⟨G,d1,d2,Q0,X0,g,h1,h2,hr,hk⟩=>by
 obtain⟨i,j,rfl,rfl,c,q⟩:=z9P (show gI (fun i j Q=>C i j/\Q (.int (gv i j))) d1 d2 Q0 from hr)
 exact⟨i,j,z1r h1,z1r h2,c,hk.now g q RD.int'⟩
theorem z5H:OpR X (binaryOp .Sub) (r2 X.K X.mg pSub):=zhI.imp fun x y H Q ⟨G,d1,d2,Q0,X0,g,h1,h2,hr,hk⟩=>by
 obtain⟨i,j,rfl,rfl,q⟩:=z9P (show gI (fun i j Q=>Q (.int (i - j))) d1 d2 Q0 from hr)
 exact⟨i,j,z1r h1,z1r h2,hk.now g q RD.int'⟩
theorem z1T:OpR X (binaryOp .FloorDiv) (r2 X.K X.mg z3i):=zeb ze4
theorem z5l:OpR X (binaryOp .Mod) (r2 X.K X.mg pMod):=zeb zg2
theorem zcO:OpR X (binaryOp .Pow) (r2 X.K X.mg pPow):=zeb zhJ
theorem z7F:UnR X (unaryOp .USub) (r1 X.K X.mg pNeg):=by
 intro pins s σ H x v Q I rx ⟨G,d,Q0,X0,g,h1,hr,hk⟩
 have hr':gNeg d Q0:=hr
 unfold gNeg at hr'
 split at hr'
 ·exact zgx pins s σ H x v Q I rx ⟨_,z1r h1,hk.now g hr' RD.int'⟩
 ·exact hr'.elim
noncomputable def z1e:Fn:=fnI (fun i j Q=>zgs i j/\Q (.int (i*j))) fun _ _ _ _ m h=>⟨h.1,m _ h.2⟩
theorem z0O:OpR X (binaryOp .Mult) (r2 X.K X.mg z1e):=zeb zg1
end
end Pu
namespace HT
open PySem PyProof.Rows
section
open PySem.SeqAt
open PySem.AutoSeq1 (wpAny_loadPart')
open PySem.MeetsSeq PySem.MeetsSeq2 PySem.MeetsSeq3
theorem zdR (A:Around)(s:Shared)(a:Int)(t:Tok)(c:Int)(u:Tok)(prog:Program)(w:World)(E:Value->Shared->Prop)(Q:Value->Shared->Prop)(h:Q (.bool (decide (c < a))) s):
  wpAny (model prog w) A (richCompare .Gt (.int a t) (.int c u)) Q E s:=
 (PyProof.Rows.gt_int h:wpAny (model prog w) A (compareOp .Gt (.int a t) (.int c u)) Q E s)
theorem z9q (l b:Addr)(z07 items2:Array Value)(n n2:Nat)(dd dd2:Option Addr)(sl sl2:Array (Option Value))(ns ms:List Int)(hi:IntsAre z07.toList ns)(hj:IntsAre items2.toList ms):
  Meets (Builtin.«tuple.__gt__» ⟨[.ref l,.ref b],[]⟩)
   (fun _ R s=>s.heap.get? l=some { cls :=.type "tuple",dict:=dd,data :=.seq z07 n,slots:=sl }/\s.heap.get? b=some { cls :=.type "tuple",dict:=dd2,data :=.seq items2 n2,slots:=sl2 }/\
    R (.ok (.ret (.bool (z2e ms ns)))) s):=
 .of_wp fun prog w A R s h=>by
  obtain⟨hp,g,d,tk,os⟩:=s; obtain⟨hl,hb,h⟩:=h
  have f2:=AutoSeq1.sub_tuple_tuple
  have z1:z07.size=ns.length:=by rw[<- hi.length]; simp
  have z2:items2.size=ms.length:=by rw[<- hj.length]; simp
  wp_walk using wpAny_loadPart' hl,wpAny_loadPart' hb,wpAny_forIn_list _ (fun rest b s'=>b.1=none/\s'=⟨hp,g,d,tk,os⟩/\∃ (vs ws:List Value) (ns' ms':List Int),rest=vs.zip ws/\
   IntsAre vs ns'/\IntsAre ws ms'/\ns'.length+items2.size=ms'.length+z07.size/\R (.ok (.ret (.bool (z2e ms' ns')))) ⟨hp,g,d,tk,os⟩) _
  case turn=>
   rintro⟨y,x⟩ rest b s' ⟨hb',rfl,vs,ws,ns',ms',hz,hvi,hwi,hlen,hR⟩
   cases hvi with
   | nil=>rw[List.zip_nil_left] at hz; cases hz
   | cons a t hvi'=>
    cases hwi with
    | nil=>rw[List.zip_nil_right] at hz; cases hz
    | cons c u hwi'=>
     rw[List.zip_cons_cons] at hz
     injection hz with hyx hrest
     injection hyx with hy hx
     subst hy hx
     rw[z7r] at hR
     simp only[List.length_cons] at hlen
     obtain⟨e,he,hiff⟩:=z9R A.in1 ⟨hp,g,d,tk,os⟩ a t c u
     refine wpAny_bind (he prog w _ _ ?_)
     cases e with
     | true=>
      rw[if_pos (hiff.mp rfl).symm] at hR
      wp_walk
      exact⟨rfl,rfl,_,_,_,_,hrest,hvi',hwi',by omega,hR⟩
     | false=>
      rw[if_neg (fun q=>absurd (hiff.mpr (Eq.symm q)) Bool.false_ne_true)] at hR
      have hri:=zdR A.in1 ⟨hp,g,d,tk,os⟩ a t c u prog w
      wp_walk using hri
      exact⟨_,rfl,by simpa using hR⟩
  case fin=>
   rintro⟨b1,b2⟩ s' ⟨hb',rfl,vs,ws,ns',ms',hz,hvi,hwi,hlen,hR⟩
   simp only at hb'
   subst hb'
   have hv:z2e ms' ns'=decide (items2.size < z07.size):=by
    cases hvi with
    | nil=>
     cases hwi with
     | nil=>
      simp only[List.length_nil] at hlen
      rw[z4T]
      exact(decide_eq_false (by omega)).symm
     | cons c u hw=>
      simp only[List.length_nil,List.length_cons] at hlen
      rw[z4k]
      exact(decide_eq_false (by omega)).symm
    | cons a t hv=>
     cases hwi with
     | nil=>
      simp only[List.length_nil,List.length_cons] at hlen
      rw[z4j]
      exact(decide_eq_true (by omega)).symm
     | cons c u hw=>
      rw[List.zip_cons_cons] at hz
      cases hz
   rw[hv] at hR
   wp_walk
   exact⟨_,rfl,by simpa[Builtin.Tuple.tupleCompareSizes] using hR⟩
  case h=>
   exact⟨rfl,rfl,z07.toList,items2.toList,ns,ms,rfl,hi,hj,by omega,h⟩
theorem zdQ (A:Around)(s:Shared)(a:Int)(t:Tok)(c:Int)(u:Tok)(prog:Program)(w:World)(E:Value->Shared->Prop)(Q:Value->Shared->Prop)(h:Q (.bool (decide (a<=c))) s):
  wpAny (model prog w) A (richCompare .LtE (.int a t) (.int c u)) Q E s:=
 (PyProof.Rows.le_int h:wpAny (model prog w) A (compareOp .LtE (.int a t) (.int c u)) Q E s)
theorem z9p (l b:Addr)(z07 items2:Array Value)(n n2:Nat)(dd dd2:Option Addr)(sl sl2:Array (Option Value))(ns ms:List Int)(hi:IntsAre z07.toList ns)(hj:IntsAre items2.toList ms):
  Meets (Builtin.«tuple.__le__» ⟨[.ref l,.ref b],[]⟩)
   (fun _ R s=>s.heap.get? l=some { cls :=.type "tuple",dict:=dd,data :=.seq z07 n,slots:=sl }/\s.heap.get? b=some { cls :=.type "tuple",dict:=dd2,data :=.seq items2 n2,slots:=sl2 }/\
    R (.ok (.ret (.bool (!z2e ms ns)))) s):=
 .of_wp fun prog w A R s h=>by
  obtain⟨hp,g,d,tk,os⟩:=s; obtain⟨hl,hb,h⟩:=h
  have f2:=AutoSeq1.sub_tuple_tuple
  have z1:z07.size=ns.length:=by rw[<- hi.length]; simp
  have z2:items2.size=ms.length:=by rw[<- hj.length]; simp
  wp_walk using wpAny_loadPart' hl,wpAny_loadPart' hb,wpAny_forIn_list _ (fun rest b s'=>b.1=none/\s'=⟨hp,g,d,tk,os⟩/\∃ (vs ws:List Value) (ns' ms':List Int),rest=vs.zip ws/\
   IntsAre vs ns'/\IntsAre ws ms'/\ns'.length+items2.size=ms'.length+z07.size/\R (.ok (.ret (.bool (!z2e ms' ns')))) ⟨hp,g,d,tk,os⟩) _
  case turn=>
   rintro⟨y,x⟩ rest b s' ⟨hb',rfl,vs,ws,ns',ms',hz,hvi,hwi,hlen,hR⟩
   cases hvi with
   | nil=>rw[List.zip_nil_left] at hz; cases hz
   | cons a t hvi'=>
    cases hwi with
    | nil=>rw[List.zip_nil_right] at hz; cases hz
    | cons c u hwi'=>
     rw[List.zip_cons_cons] at hz
     injection hz with hyx hrest
     injection hyx with hy hx
     subst hy hx
     rw[z7r] at hR
     simp only[List.length_cons] at hlen
     obtain⟨e,he,hiff⟩:=z9R A.in1 ⟨hp,g,d,tk,os⟩ a t c u
     refine wpAny_bind (he prog w _ _ ?_)
     cases e with
     | true=>
      rw[if_pos (hiff.mp rfl).symm] at hR
      wp_walk
      exact⟨rfl,rfl,_,_,_,_,hrest,hvi',hwi',by omega,hR⟩
     | false=>
      have hne:¬ c=a:=fun q=>absurd (hiff.mpr (Eq.symm q)) Bool.false_ne_true
      rw[if_neg hne] at hR
      have hri:=zdQ A.in1 ⟨hp,g,d,tk,os⟩ a t c u prog w
      have ed:(!decide (c < a))=decide (a<=c):=by
       rw[<- decide_not,decide_eq_decide]; omega
      rw[ed] at hR
      wp_walk using hri
      exact⟨_,rfl,by simpa using hR⟩
  case fin=>
   rintro⟨b1,b2⟩ s' ⟨hb',rfl,vs,ws,ns',ms',hz,hvi,hwi,hlen,hR⟩
   simp only at hb'
   subst hb'
   have hv:(!z2e ms' ns')=decide (z07.size<=items2.size):=by
    cases hvi with
    | nil=>
     cases hwi with
     | nil=>
      simp only[List.length_nil] at hlen
      rw[z4T]
      exact(decide_eq_true (by omega)).symm
     | cons c u hw=>
      simp only[List.length_nil,List.length_cons] at hlen
      rw[z4k]
      exact(decide_eq_true (by omega)).symm
    | cons a t hv=>
     cases hwi with
     | nil=>
      simp only[List.length_nil,List.length_cons] at hlen
      rw[z4j]
      exact(decide_eq_false (by omega)).symm
     | cons c u hw=>
      rw[List.zip_cons_cons] at hz
      cases hz
   rw[hv] at hR
   wp_walk
   exact⟨_,rfl,by simpa[Builtin.Tuple.tupleCompareSizes] using hR⟩
  case h=>
   exact⟨rfl,rfl,z07.toList,items2.toList,ns,ms,rfl,hi,hj,by omega,h⟩
end
section
variable {prog:Program}{w:World}{A:Around}{E:Value->Shared->Prop}{s:Shared}
theorem zbT {l b:Addr}{z07 items2:Array Value}{ns ms:List Int}{Q:Value->Shared->Prop}(hl:IsTup s.heap l z07)(hb:IsTup s.heap b items2)(hi:IntsAre z07.toList ns)(hj:IntsAre items2.toList ms)
  (hu:A.units < cLine) (h:Q (.bool (z2e ms ns)) s):wpAny (model prog w) A (compareOp .Gt (.ref l) (.ref b)) Q E s:=by
 obtain⟨⟨cls,dd,data,sl⟩,ho,hc,n,hd⟩:=id hl
 obtain⟨⟨cls2,dd2,data2,sl2⟩,ho2,hc2,n2,hd2⟩:=id hb
 simp only at hc hd hc2 hd2
 subst hc hd hc2 hd2
 exact richCompare_meets_room (op :=.Gt) ⟨_,ho,rfl⟩ ⟨_,ho2,rfl⟩ PySem.F.slot_tuple_gt PySem.F.entry_tuple_gt (PySem.F.args_tuple_gt_2 _ _) (z9q l b z07 items2 n n2 dd dd2 sl sl2 ns ms hi hj)
  ⟨ho,ho2,show Value.bool (z2e ms ns)≠Value.notImplemented/\Q (.bool (z2e ms ns)) s from ⟨(fun x=>nomatch x),h⟩⟩ hu
theorem zbR {l b:Addr}{z07 items2:Array Value}{ns ms:List Int}{Q:Value->Shared->Prop}(hl:IsTup s.heap l z07)(hb:IsTup s.heap b items2)(hi:IntsAre z07.toList ns)(hj:IntsAre items2.toList ms)
  (hu:A.units < cLine) (h:Q (.bool (!z2e ms ns)) s):wpAny (model prog w) A (compareOp .LtE (.ref l) (.ref b)) Q E s:=by
 obtain⟨⟨cls,dd,data,sl⟩,ho,hc,n,hd⟩:=id hl
 obtain⟨⟨cls2,dd2,data2,sl2⟩,ho2,hc2,n2,hd2⟩:=id hb
 simp only at hc hd hc2 hd2
 subst hc hd hc2 hd2
 exact richCompare_meets_room (op :=.LtE) ⟨_,ho,rfl⟩ ⟨_,ho2,rfl⟩ PySem.F.slot_tuple_le PySem.F.entry_tuple_le (PySem.F.args_tuple_le_2 _ _) (z9p l b z07 items2 n n2 dd dd2 sl sl2 ns ms hi hj)
  ⟨ho,ho2,show Value.bool (!z2e ms ns)≠Value.notImplemented/\Q (.bool (!z2e ms ns)) s from ⟨(fun x=>nomatch x),h⟩⟩ hu
end
end HT
namespace Pu
open PySem PySem.Spec PyProof.Rows L2
noncomputable def ints? : List D->Option (List Int)
 | []=>some []
 | .int i::r=>match ints? r with
  | some l=>some (i::l)
  | none=>none
 | _::_=>none
theorem z6Q:∀ {l:List D}{ns:List Int},ints? l=some ns->l=ns.map D.int
 | [],ns,h=>by
  have:ns=[]:=by simpa[ints?] using h.symm
  subst this; rfl
 | .int i::r,ns,h=>by
  unfold ints? at h
  cases q:ints? r with
  | none=>rw[q] at h; cases h
  | some l=>
   rw[q] at h
   cases h
   rw[z6Q q]; rfl
 | .non::_,_,h=>by simp[ints?] at h
 | .bl _::_,_,h=>by simp[ints?] at h
 | .str _::_,_,h=>by simp[ints?] at h
 | .tup _::_,_,h=>by simp[ints?] at h
 | .lst _::_,_,h=>by simp[ints?] at h
 | .dct _ _::_,_,h=>by simp[ints?] at h
 | .fn _::_,_,h=>by simp[ints?] at h
 | .exc _::_,_,h=>by simp[ints?] at h
theorem zen (ns:List Int):ints? (ns.map D.int)=some ns:=by
 induction ns with
 | nil=>rfl
 | cons n ns ih=>rw[List.map_cons,ints?, ih]
noncomputable def onI (o:Option (List Int))(Q:List Int->Prop):Prop:=match o with
 | some l=>Q l
 | none=>False
theorem z9y {o:Option (List Int)}{Q Q':List Int->Prop}(m:∀ d,Q d->Q' d)(h:onI o Q):onI o Q':=by
 cases o with
 | none=>exact h
 | some d=>exact m _ h
theorem z9x {o:Option (List Int)}{Q:List Int->Prop}(h:onI o Q):∃ d,o=some d/\Q d:=by
 cases o with
 | none=>exact h.elim
 | some d=>exact⟨d,rfl,h⟩
noncomputable def gCmp (f:Int->Int->Bool)(t:List Int->List Int->Bool)(a b:D)(Q:DK):Prop:=match a,b with
 | .int i,.int j=>Q (.bl (f i j))
 | .tup l,.tup m=>onI (ints? l) fun ns=>onI (ints? m) fun ms=>Q (.bl (t ns ms))
 | _,_=>False
theorem z8A {f:Int->Int->Bool}{t:List Int->List Int->Bool}(a b:D)(Q Q':DK)(m:∀ d,Q d->Q' d)(h:gCmp f t a b Q):gCmp f t a b Q':=by
 unfold gCmp at h ⊢
 split at h
 ·exact m _ h
 ·exact z9y (fun _ h=>z9y (fun _ h=>m _ h) h) h
 ·exact h.elim
noncomputable def pLt:Fn:=fn2 (gCmp (fun i j=>decide (i < j)) fun ns ms=>HT.z2e ns ms) z8A
noncomputable def pGt:Fn:=fn2 (gCmp (fun i j=>decide (j < i)) fun ns ms=>HT.z2e ms ns) z8A
noncomputable def pLe:Fn:=fn2 (gCmp (fun i j=>decide (i<=j)) fun ns ms => !HT.z2e ms ns) z8A
section
variable {X:Cx}{K:W.Frag}{mg:Str->Option Value}
theorem z7S {G:Hp}:∀ (ns:List Int) {xs:List V},RDs K mg G (ns.map D.int) xs->xs=ns.map V.int
 | [],xs,h=>by rw[List.map_nil,RDs] at h; subst h; rfl
 | n::ns,xs,h=>by
  rw[List.map_cons,RDs] at h
  obtain⟨x,r,rfl,h1,h2⟩:=h
  rw[z1r h1,z7S ns h2]; rfl
theorem zbm {G:Hp}:∀ (ns:List Int),RDs K mg G (ns.map D.int) (ns.map V.int)
 | []=>RDs.nil
 | n::ns=>RDs.cons RD.int' (zbm ns)
theorem zg6 {op:CmpOp}{f:Int->Int->Bool}{t:List Int->List Int->Bool}{hm}(hi:OpR X (compareOp op) (rI0 fun i j =>.bl (f i j)))(ht:OpR X (compareOp op) (fun x y H Q=>∃ a b ns ms,x = .ref a/\y = .ref b/\SqT X.K H a (ns.map V.int)/\SqT X.K H b (ms.map V.int)/\Q (.bl (t ns ms)) H)):
  OpR X (compareOp op) (r2 X.K X.mg (fn2 (gCmp f t) hm)):=by
 intro pins s σ H x y v u Q I rx ry ⟨G,d1,d2,Q0,X0,g,h1,h2,hr,hk⟩
 have hr':gCmp f t d1 d2 Q0:=hr
 unfold gCmp at hr'
 split at hr'
 ·exact hi pins s σ H x y v u Q I rx ry ⟨_,_,z1r h1,z1r h2,hk.now g hr' RD.bl'⟩
 ·obtain⟨ns,e1,hr'⟩:=z9x hr'
  obtain⟨ms,e2,hr'⟩:=z9x hr'
  obtain⟨a,xs,rfl,s1,r1⟩:=z49 h1
  obtain⟨b,ys,rfl,s2,r2⟩:=z49 h2
  rw[z6Q e1] at r1
  rw[z6Q e2] at r2
  rw[z7S ns r1] at s1
  rw[z7S ms r2] at s2
  exact ht pins s σ H _ _ v u Q I rx ry ⟨a,b,ns,ms,rfl,rfl,z1X g s1,z1X g s2,hk.now g hr' RD.bl'⟩
 ·exact hr'.elim
theorem zbO (hu:X.A.units+64 < cLine):OpR X (compareOp .Lt) (r2 X.K X.mg pLt):=zg6 zjt (zhL (by omega))
theorem zhO (hu:X.A.units < cLine):OpR X (compareOp .Gt) (fun x y H Q=>∃ a b ns ms,x = .ref a/\y = .ref b/\SqT X.K H a (ns.map V.int)/\SqT X.K H b (ms.map V.int)/\Q (.bl (HT.z2e ms ns)) H):=by
 intro pins s σ H x y v u Q I rx ry h
 obtain⟨a,b,ns,ms,rfl,rfl,ha,hb,q⟩:=h
 cases rx
 cases ry
 obtain⟨its,r1,p1,_⟩:=I.tuple ha
 obtain⟨its2,r2,p2,_⟩:=I.tuple hb
 exact HT.zbT p1 p2 (z3D r1) (z3D r2) hu ⟨.bl (HT.z2e ms ns),H,I,rfl,q⟩
theorem zhM (hu:X.A.units < cLine):OpR X (compareOp .LtE) (fun x y H Q=>∃ a b ns ms,x = .ref a/\y = .ref b/\SqT X.K H a (ns.map V.int)/\SqT X.K H b (ms.map V.int)/\Q (.bl (!HT.z2e ms ns)) H):=by
 intro pins s σ H x y v u Q I rx ry h
 obtain⟨a,b,ns,ms,rfl,rfl,ha,hb,q⟩:=h
 cases rx
 cases ry
 obtain⟨its,r1,p1,_⟩:=I.tuple ha
 obtain⟨its2,r2,p2,_⟩:=I.tuple hb
 exact HT.zbR p1 p2 (z3D r1) (z3D r2) hu ⟨.bl (!HT.z2e ms ns),H,I,rfl,q⟩
theorem zcN (hu:X.A.units+64 < cLine):OpR X (compareOp .Gt) (r2 X.K X.mg pGt):=zg6 zjv (zhO (by omega))
theorem zjy (hu:X.A.units+64 < cLine):OpR X (compareOp .LtE) (r2 X.K X.mg pLe):=zg6 zju (zhM (by omega))
noncomputable def pGeI:Fn:=fnI (fun i j Q=>Q (.bl (decide (j<=i)))) fun _ _ _ _ m h=>m _ h
theorem zjz:OpR X (compareOp .GtE) (r2 X.K X.mg pGeI):=zjw.imp fun x y H Q ⟨G,d1,d2,Q0,X0,g,h1,h2,hr,hk⟩=>by
 obtain⟨i,j,rfl,rfl,q⟩:=z9P (show gI (fun i j Q=>Q (.bl (decide (j<=i)))) d1 d2 Q0 from hr)
 exact⟨i,j,z1r h1,z1r h2,hk.now g q RD.bl'⟩
end
end Pu
namespace Pu
open PySem PySem.Spec PyProof.Rows L2
mutual
noncomputable def py:D->PyData
 | .non =>.none
 | .bl b =>.bool b
 | .int i =>.int i
 | .str x =>.str x
 | .tup l =>.tuple (pys l)
 | .lst l =>.list (pys l)
 | _ =>.none
noncomputable def pys:List D->List PyData
 | []=>[]
 | d::ds=>py d::pys ds
end
noncomputable def Da:Nat->D->Prop
 | _,.non=>True
 | _,.bl _=>True
 | _,.int _=>True
 | _,.str x=>PyData.strOk x=true
 | 0,.tup _=>False
 | n+1,.tup l=>∀ d∈l,Da n d
 | 0,.lst _=>False
 | n+1,.lst l=>∀ d∈l,Da n d
 | _,.dct _ _=>False
 | _,.fn _=>False
 | _,.exc _=>False
section
variable {X:Cx}{K:W.Frag}{mg:Str->Option Value}
theorem Da.tup {n:Nat}{l:List D}:Da (n+1) (.tup l)↔∀ d∈l,Da n d:=by rw[Da]
theorem Da.lst {n:Nat}{l:List D}:Da (n+1) (.lst l)↔∀ d∈l,Da n d:=by rw[Da]
theorem Da.int {n:Nat}{i:Int}:Da n (.int i):=by cases n <;> (rw[Da]; trivial)
theorem Da.str {n:Nat}{x:Str}:Da n (.str x)↔PyData.strOk x=true:=by cases n <;> rw[Da]
theorem Da.canLay:∀ (n:Nat) (d:D),Da n d->(py d).canLay0=true/\(py d).depth<=n:=by
 intro n
 induction n with
 | zero=>
  intro d h
  cases d with
  | non=>exact⟨rfl,Nat.le_refl _⟩
  | bl _=>exact⟨rfl,Nat.le_refl _⟩
  | int _=>exact⟨rfl,Nat.le_refl _⟩
  | str x=>exact⟨by rw[py,PyData.canLay0]; exact Da.str.mp h,by rw[py,PyData.depth]; exact Nat.le_refl _⟩
  | _=>rw[Da] at h; exact h.elim
 | succ n ih=>
  have all:∀ l:List D,(∀ d∈l,Da n d)->PyData.canLayAll0 (pys l)=true/\PyData.depthAll (pys l)<=n:=by
   intro l
   induction l with
   | nil=>intro _; exact⟨rfl,Nat.zero_le _⟩
   | cons d l ihl=>
    intro h
    obtain⟨a1,a2⟩:=ih d (h d List.mem_cons_self)
    obtain⟨b1,b2⟩:=ihl fun x hx=>h x (List.mem_cons_of_mem _ hx)
    rw[pys,PyData.canLayAll0,PyData.depthAll,a1,b1]
    exact⟨rfl,Nat.max_le.mpr ⟨a2,b2⟩⟩
  intro d h
  cases d with
  | non=>exact⟨rfl,Nat.zero_le _⟩
  | bl _=>exact⟨rfl,Nat.zero_le _⟩
  | int _=>exact⟨rfl,Nat.zero_le _⟩
  | str x=>exact⟨by rw[py,PyData.canLay0]; exact Da.str.mp h,by rw[py,PyData.depth]; exact Nat.zero_le _⟩
  | tup l=>
   obtain⟨a,b⟩:=all l (Da.tup.mp h)
   exact⟨by rw[py,PyData.canLay0]; exact a,by rw[py,PyData.depth]; omega⟩
  | lst l=>
   obtain⟨a,b⟩:=all l (Da.lst.mp h)
   exact⟨by rw[py,PyData.canLay0]; exact a,by rw[py,PyData.depth]; omega⟩
  | _=>rw[Da] at h; exact h.elim
theorem Da.shaped {n:Nat}{d:D}(h:Da n d)(hn:n<=64):PySem.SeqAt.shaped (py d)=true:=by
 obtain⟨a,b⟩:=Da.canLay n d h
 unfold PySem.SeqAt.shaped
 rw[a,decide_eq_true (Nat.le_trans b hn)]
 rfl
theorem Da.rp {G:Hp}:∀ (n:Nat) (d:D) {v:V},Da n d->RD K mg G d v->Rp K G (py d) v:=by
 intro n
 induction n with
 | zero=>
  intro d v h r
  cases d with
  | non=>rw[py,Rp]; exact z9b r
  | bl _=>rw[py,Rp]; exact zaa r
  | int _=>rw[py,Rp]; exact z1r r
  | str x=>rw[py,Rp]; exact z5D r
  | _=>rw[Da] at h; exact h.elim
 | succ n ih=>
  have all:∀ (l:List D) {xs:List V},(∀ d∈l,Da n d)->RDs K mg G l xs->RpL K G (pys l) xs:=by
   intro l
   induction l with
   | nil=>intro xs _ r; rw[RDs] at r; subst r; rw[pys,RpL]
   | cons d l ihl=>
    intro xs h r
    rw[RDs] at r
    obtain⟨x,r',rfl,r1,r2⟩:=r
    rw[pys,RpL]
    exact⟨x,r',rfl,ih d (h d List.mem_cons_self) r1,ihl (fun x hx=>h x (List.mem_cons_of_mem _ hx)) r2⟩
  intro d v h r
  cases d with
  | non=>rw[py,Rp]; exact z9b r
  | bl _=>rw[py,Rp]; exact zaa r
  | int _=>rw[py,Rp]; exact z1r r
  | str x=>rw[py,Rp]; exact z5D r
  | tup l=>
   obtain⟨a,xs,rfl,h1,h2⟩:=z49 r
   rw[py,Rp]
   exact⟨a,xs,rfl,h1,all l (Da.tup.mp h) h2⟩
  | lst l=>
   obtain⟨a,xs,rfl,h1,h2⟩:=z5E r
   rw[py,Rp]
   exact⟨a,xs,rfl,h1,all l (Da.lst.mp h) h2⟩
  | _=>rw[Da] at h; exact h.elim
end
noncomputable def deq (a b:D):Bool:=PyData.eqv (py a) (py b)
noncomputable def gEq (neg:Bool)(a b:D)(Q:DK):Prop:=match a,b with
 | .int i,.int j=>Q (.bl (if neg then !decide (i=j) else decide (i=j)))
 | .str x,.str y=>Q (.bl (if neg then !decide (x=y) else decide (x=y)))
 | .bl x,.bl y=>Q (.bl (if neg then !decide (x=y) else decide (x=y)))
 | a,b=>Da 60 a/\Da 60 b/\Q (.bl (if neg then !deq a b else deq a b))
theorem z9Q {neg:Bool}(a b:D)(Q Q':DK)(m:∀ d,Q d->Q' d)(h:gEq neg a b Q):gEq neg a b Q':=by
 unfold gEq at h ⊢
 split at h
 ·exact m _ h
 ·exact m _ h
 ·exact m _ h
 ·exact⟨h.1,h.2.1,m _ h.2.2⟩
noncomputable def pEq:Fn:=fn2 (gEq false) z9Q
noncomputable def pNe:Fn:=fn2 (gEq true) z9Q
section
variable {X:Cx}{K:W.Frag}{mg:Str->Option Value}
theorem z7z {p q:Prop}[Decidable p][Decidable q](h:p↔q):decide p=decide q:=by rw[decide_eq_decide]; exact h
theorem zf6 {op:CmpOp}{neg:Bool}(h1:OpR X (compareOp op) (fun x y H Q=>scal x y=true/\Q (.bl (if neg then !decide (x=y) else decide (x=y))) H))(h2:OpR X (compareOp op) (rEqD X.K neg)):OpR X (compareOp op) (r2 X.K X.mg (fn2 (gEq neg) z9Q)):=by
 intro pins s σ H x y v u Q I rx ry ⟨G,d1,d2,Q0,X0,g,r1,r2,hr,hk⟩
 have hr':gEq neg d1 d2 Q0:=hr
 unfold gEq at hr'
 split at hr'
 ·have e1:=z1r r1; have e2:=z1r r2
  subst e1; subst e2
  refine h1 pins s σ H _ _ v u Q I rx ry ⟨rfl,?_⟩
  rw[z7z (⟨fun h=>V.int.inj h,fun h=>congrArg V.int h⟩:V.int _=V.int _↔_)]
  exact hk.now g hr' RD.bl'
 ·have e1:=z5D r1; have e2:=z5D r2
  subst e1; subst e2
  refine h1 pins s σ H _ _ v u Q I rx ry ⟨rfl,?_⟩
  rw[z7z (⟨fun h=>V.str.inj h,fun h=>congrArg V.str h⟩:V.str _=V.str _↔_)]
  exact hk.now g hr' RD.bl'
 ·have e1:=zaa r1; have e2:=zaa r2
  subst e1; subst e2
  refine h1 pins s σ H _ _ v u Q I rx ry ⟨rfl,?_⟩
  rw[z7z (⟨fun h=>V.bl.inj h,fun h=>congrArg V.bl h⟩:V.bl _=V.bl _↔_)]
  exact hk.now g hr' RD.bl'
 ·obtain⟨a1,a2,q⟩:=hr'
  exact h2 pins s σ H x y v u Q I rx ry ⟨_,_,(Da.rp 60 _ a1 r1).same g,(Da.rp 60 _ a2 r2).same g,a1.shaped (by decide),a2.shaped (by decide),hk.now g q RD.bl'⟩
theorem z3G (hu:X.A.units+64 < cLine):OpR X (compareOp .Eq) (r2 X.K X.mg pEq):=zf6 (neg:=false) (zjx.imp fun _ _ _ _ h=>h) (zhP hu)
theorem zcM (hu:X.A.units+64 < cLine):OpR X (compareOp .NotEq) (r2 X.K X.mg pNe):=zf6 (neg:=true) (zjs.imp fun _ _ _ _ h=>h) (zhK hu)
noncomputable def isN:D->Bool
 | .non=>true
 | _=>false
noncomputable def gIs (neg:Bool)(a b:D)(Q:DK):Prop:=match b with
 | .non=>Q (.bl (if neg then !isN a else isN a))
 | _=>False
theorem zbp {neg:Bool}(a b:D)(Q Q':DK)(m:∀ d,Q d->Q' d)(h:gIs neg a b Q):gIs neg a b Q':=by
 unfold gIs at h ⊢
 split at h
 ·exact m _ h
 ·exact h.elim
noncomputable def pIs:Fn:=fn2 (gIs false) zbp
noncomputable def zcK:Fn:=fn2 (gIs true) zbp
theorem zeX {G:Hp}{d:D}{v:V}(r:RD K mg G d v):decide (v = .non)=isN d:=by
 cases d with
 | non=>rw[z9b r]; rfl
 | bl b=>rw[zaa r]; rfl
 | int b=>rw[z1r r]; rfl
 | str b=>rw[z5D r]; rfl
 | tup l=>obtain⟨a,xs,rfl,_⟩:=z49 r; rfl
 | lst l=>obtain⟨a,xs,rfl,_⟩:=z5E r; rfl
 | dct k v=>rw[RD] at r; obtain⟨a,xs,rfl,_⟩:=r; rfl
 | fn n=>rw[RD] at r; obtain⟨a,rfl,_⟩:=r; rfl
 | exc n=>rw[RD] at r; obtain⟨a,xs,rfl,_⟩:=r; rfl
theorem zg7:OpR X (compareOp .Is) (r2 X.K X.mg pIs):=zhN.imp fun x y H Q ⟨G,d1,d2,Q0,X0,g,r1,r2,hr,hk⟩=>by
 have hr':gIs false d1 d2 Q0:=hr
 unfold gIs at hr'
 split at hr'
 ·exact⟨z9b r2,by rw[zeX r1]; exact hk.now g hr' RD.bl'⟩
 ·exact hr'.elim
theorem zec:OpR X (compareOp .IsNot) (r2 X.K X.mg zcK):=zg0.imp fun x y H Q ⟨G,d1,d2,Q0,X0,g,r1,r2,hr,hk⟩=>by
 have hr':gIs true d1 d2 Q0:=hr
 unfold gIs at hr'
 split at hr'
 ·exact⟨z9b r2,by rw[zeX r1]; exact hk.now g hr' RD.bl'⟩
 ·exact hr'.elim
theorem z63 {g:D->DK->Prop}{m}{ds:List D}{Q:DK}{Xp:XP}(h:(fn1 g m).run ds Q Xp):∃ d,ds=[d]/\g d Q:=by
 match ds,h with
 | [a],h=>exact⟨a,rfl,h⟩
 | [],h=>exact h.elim
 | _::_::_,h=>exact h.elim
theorem zew {g:D->D->DK->Prop}{m}{ds:List D}{Q:DK}{Xp:XP}(h:(fn2 g m).run ds Q Xp):∃ d e,ds=[d,e]/\g d e Q:=by
 match ds,h with
 | [a,b],h=>exact⟨a,b,rfl,h⟩
 | [],h=>exact h.elim
 | [_],h=>exact h.elim
 | _::_::_::_,h=>exact h.elim
noncomputable def gLen (d:D)(Q:DK):Prop:=match d with
 | .lst l=>Q (.int (l.length:Int))
 | .tup l=>Q (.int (l.length:Int))
 | .str x=>x.length<=sizeLine/\Q (.int (x.length:Int))
 | _=>False
noncomputable def pLen:Fn:=fn1 gLen fun d Q Q' m h=>by
 unfold gLen at h ⊢
 split at h
 ·exact m _ h
 ·exact m _ h
 ·exact⟨h.1,m _ h.2⟩
 ·exact h.elim
theorem z1Z:z2w X (.builtin "len") (rN X.K X.mg pLen):=(z2w.or zaA zaz).imp fun vs H Q ⟨G,ds,Q0,X0,g,rds,hr,hk⟩=>by
 obtain⟨d,rfl,hr'⟩:=z63 hr
 obtain⟨v,rfl,rd⟩:=rds1 rds
 unfold gLen at hr'
 split at hr'
 ·obtain⟨a,xs,rfl,h1,h2⟩:=z5E rd
  exact .inl ⟨a,xs,rfl,.inl (z5k g h1),by rw[h2.len]; exact hk.now g hr' RD.int'⟩
 ·obtain⟨a,xs,rfl,h1,h2⟩:=z49 rd
  exact .inl ⟨a,xs,rfl,.inr (z1X g h1),by rw[h2.len]; exact hk.now g hr' RD.int'⟩
 ·have e:=z5D rd
  subst e
  exact .inr ⟨_,rfl,hr'.1,hk.now g hr'.2 RD.int'⟩
 ·exact hr'.elim
noncomputable def gAbs (d:D)(Q:DK):Prop:=match d with
 | .int i=>Q (.int (if i < 0 then -i else i))
 | _=>False
noncomputable def pAbs:Fn:=fn1 gAbs fun d Q Q' m h=>by
 unfold gAbs at h ⊢
 split at h
 ·exact m _ h
 ·exact h.elim
theorem zdn:z2w X (.builtin "abs") (rN X.K X.mg pAbs):=zeK.imp fun vs H Q ⟨G,ds,Q0,X0,g,rds,hr,hk⟩=>by
 obtain⟨d,rfl,hr'⟩:=z63 hr
 obtain⟨v,rfl,rd⟩:=rds1 rds
 unfold gAbs at hr'
 split at hr'
 ·have e:=z1r rd
  subst e
  exact⟨_,rfl,hk.now g hr' RD.int'⟩
 ·exact hr'.elim
noncomputable def gInt (d:D)(Q:DK):Prop:=match d with
 | .int i=>Q (.int i)
 | .bl b=>Q (.int (if b then 1 else 0))
 | .str x=>∃ n,PySem.intText? x=some n/\x.length<=640/\Q (.int n)
 | _=>False
noncomputable def pInt:Fn:=fn1 gInt fun d Q Q' m h=>by
 unfold gInt at h ⊢
 split at h
 ·exact m _ h
 ·exact m _ h
 ·obtain⟨n,h1,h2,h3⟩:=h
  exact⟨n,h1,h2,m _ h3⟩
 ·exact h.elim
noncomputable def zd8 (d:D)(Q:DK):Prop:=match d with
 | .lst l=>Q (.tup l)
 | .tup l=>Q (.tup l)
 | _=>False
noncomputable def z4B:Fn:=fn1 zd8 fun d Q Q' m h=>by
 unfold zd8 at h ⊢
 split at h
 ·exact m _ h
 ·exact m _ h
 ·exact h.elim
theorem z3A:z2w X (.type "tuple") (rN X.K X.mg z4B):=z9W.imp fun vs H Q ⟨G,ds,Q0,X0,g,rds,hr,hk⟩=>by
 obtain⟨d,rfl,hr'⟩:=z63 hr
 obtain⟨v,rfl,rd⟩:=rds1 rds
 unfold zd8 at hr'
 split at hr'
 ·obtain⟨a,xs,rfl,h1,h2⟩:=z5E rd
  exact⟨a,xs,rfl,.inl ⟨z5k g h1,fun p hp=>hk.new g hp hr' (RD.newT h2 g hp)⟩⟩
 ·obtain⟨a,xs,rfl,h1,h2⟩:=z49 rd
  exact⟨a,xs,rfl,.inr ⟨z1X g h1,hk.now g hr' (RD.ofT h1 h2)⟩⟩
 ·exact hr'.elim
noncomputable def zf9 (d:D)(Q:DK):Prop:=match d with
 | .lst l=>Q (.lst l)
 | .tup l=>Q (.lst l)
 | _=>False
noncomputable def zf4:Fn:=fn1 zf9 fun d Q Q' m h=>by
 unfold zf9 at h ⊢
 split at h
 ·exact m _ h
 ·exact m _ h
 ·exact h.elim
noncomputable def zk5 (d:D)(Q:DK):Prop:=match d with
 | .lst l=>onI (ints? l) fun ns=>ns≠[]/\∀ m,m∈ns->(∀ x∈ns,x<=m)->Q (.int m)
 | _=>False
noncomputable def gSum (d:D)(Q:DK):Prop:=match d with
 | .lst l=>onI (ints? l) fun ns=>Q (.int ns.sum)
 | _=>False
noncomputable def pSum:Fn:=fn1 gSum fun d Q Q' m h=>by
 unfold gSum at h ⊢
 split at h
 ·exact z9y (fun _ q=>m _ q) h
 ·exact h.elim
theorem ziE (hc:X.calm=true):z2w X (.builtin "sum") (rN X.K X.mg pSum):=(zdp hc).imp fun vs H Q ⟨G,ds,Q0,X0,g,rds,hr,hk⟩=>by
 obtain⟨d,rfl,hr'⟩:=z63 hr
 obtain⟨v,rfl,rd⟩:=rds1 rds
 unfold gSum at hr'
 split at hr'
 ·obtain⟨ns,e,q⟩:=z9x hr'
  obtain⟨a,xs,rfl,h1,h2⟩:=z5E rd
  rw[z6Q e] at h2
  rw[z7S ns h2] at h1
  exact⟨a,ns,rfl,z5k g h1,hk.now g q RD.int'⟩
 ·exact hr'.elim
noncomputable def gIx (a b:D)(Q:DK):Prop:=match a,b with
 | .lst l,.int i=>onV (atI l i) Q
 | .tup l,.int i=>onV (atI l i) Q
 | .str x,.int i=>x.length<=sizeLine/\∃ c,atI x.cps.toList i=some c/\Q (.str ⟨#[c]⟩)
 | _,_=>False
theorem zet (a b:D)(Q Q':DK)(m:∀ d,Q d->Q' d)(h:gIx a b Q):gIx a b Q':=by
 unfold gIx at h ⊢
 split at h
 ·exact zbe m h
 ·exact zbe m h
 ·obtain⟨h1,c,h2,h3⟩:=h
  exact⟨h1,c,h2,m _ h3⟩
 ·exact h.elim
noncomputable def pIx:Fn:=fn2 gIx zet
theorem IxR.imp {r r':R2}(h:IxR X r)(i:∀ x y H Q,r' x y H Q->r x y H Q):IxR X r':=fun value slice pins s σ H x y v u Q I rx ry q hs=>h value slice pins s σ H x y v u Q I rx ry (i x y H Q q) hs
theorem ix_p:IxR X (r2 X.K X.mg pIx):=IxR.imp ziq fun x y H Q ⟨G,d1,d2,Q0,X0,g,r1,r2,hr,hk⟩=>by
 have hr':gIx d1 d2 Q0:=hr
 unfold gIx at hr'
 split at hr'
 ·obtain⟨d,e,q⟩:=zbd hr'
  obtain⟨a,xs,rfl,h1,h2⟩:=z5E r1
  obtain⟨v,e1,rv⟩:=h2.at e
  exact .inl ⟨a,xs,_,v,rfl,z1r r2,z5k g h1,e1,hk.now g q rv⟩
 ·obtain⟨d,e,q⟩:=zbd hr'
  obtain⟨a,xs,rfl,h1,h2⟩:=z49 r1
  obtain⟨v,e1,rv⟩:=h2.at e
  exact .inr (.inl ⟨a,xs,_,v,rfl,z1r r2,z1X g h1,e1,hk.now g q rv⟩)
 ·obtain⟨h1,c,h2,h3⟩:=hr'
  exact .inr (.inr ⟨_,_,c,z5D r1,z1r r2,h1,h2,hk.now g h3 RD.str'⟩)
 ·exact hr'.elim
theorem z0e {E:XK}{a b:Expr}{x y:Ex}{pos:Pos}(ha:QX X E a x)(hb:QX X E b y)(hs:zb3 b):QX X E (.Subscript a b pos) (.op pIx [x,y]):=QE.imp (zje ix_p ha hb hs) fun _ _ _ h=>tx2 lk2 h
end
end Pu
namespace HT
open PySem PyProof.Rows
section
variable {prog:Program}{w:World}{A:Around}{E:Value->Shared->Prop}{s:Shared}
theorem zc9 {t sl:Addr}{z07:Array Value}{vl vu vs:Value}{R:Int × Int × Nat}{Q:Value->Shared->Prop}(ht:IsTup s.heap t z07)(hs:s.heap.IsSliceOf sl vl vu vs)
  (ha:∀ {A:Around}{E:Value->Shared->Prop}{Q:Int × Int × Nat->Shared->Prop},Q R s->wpAny (model prog w) A (Builtin.Slice.sliceApplied (.ref sl) (pure (z07.size:Int))) Q E s) (hsz:R.2.2<=sizeLine)
  (h1:(R.1 == 0 && R.2.1 == 1 && R.2.2 == z07.size)=true->Q (.ref t) s)
  (h2:¬ (R.1 == 0 && R.2.1 == 1 && R.2.2 == z07.size)=true->Q (.ref s.heap.objs.size) { s with heap:=s.heap.push { cls :=.type "tuple",data :=.seq ((List.range R.2.2).filterMap fun(k:Nat)=>z07[(R.1+(k:Int)*R.2.1).toNat]?).toArray } }):
  wpAny (model prog w) A (getItem (.ref t) (.ref sl)) Q E s:=by
 obtain⟨os,hos,hcs,hds⟩:=id hs
 have hTs:s.TypeIs (.ref sl) "slice":=⟨os,hos,hcs⟩
 have htake:sizeOk (.seq ((List.range R.2.2).filterMap fun(k:Nat)=>z07[(R.1+(k:Int)*R.2.1).toNat]?).toArray):=by
  show ((List.range R.2.2).filterMap fun(k:Nat)=>z07[(R.1+(k:Int)*R.2.1).toNat]?).toArray.size<=sizeLine
  rw[List.size_toArray]
  refine Nat.le_trans (List.length_filterMap_le _ _) ?_
  rw[List.length_range]; exact hsz
 unfold getItem
 try with_reducible refine wpAny_holding ?_
 first | refine wpAny_bind (wpAny_pure ?_) | skip
 refine wpAny_bind (wpAny_sequenceKey ht.typeIs (by decide) ?_)
 refine wpAny_bind (wpAny_callSpecial?_slot (name:=Str.ofString "__getitem__") ht.typeIs PyProof.Rows.slot_tuple_getitem
  (wpAny_call_entry PyProof.Rows.slot_tuple_getitem ht.typeIs entry_tuple_getitem ?_ (args_tuple_getitem _ _)))
 show wpAny _ _ (Builtin.Tuple.tupleItemsOf (.ref t) >>= _) _ _ s
 refine wpAny_bind (tupleItemsOf_ ht ?_)
 refine wpAny_bind (wpAny_typeOf hTs ?_)
 rw[if_pos (by decide)]
 refine wpAny_bind (ha ?_)
 obtain⟨r1,r2,r3⟩:=R
 show wpAny _ _ (if (r1 == 0 && r2 == 1 && r3 == z07.size)=true then _ else _) _ _ s
 by_cases hb:(r1 == 0 && r2 == 1 && r3 == z07.size)=true
 ·rw[if_pos hb]
  refine wpAny_bind (m:=Builtin.Tuple.tupleIsExact (.ref t)) ?_
  refine wpAny_bind (wpAny_typeOf ht.typeIs (wpAny_pure ?_))
  rw[if_pos (by decide)]
  first
   | exact wpAny_bind (wpAny_pure (wpAny_pure ⟨_,rfl,wpAny_pure (h1 hb)⟩))
   | exact wpAny_bind (wpAny_rule (wpAny_pure ⟨_,rfl,wpAny_pure (h1 hb)⟩))
   | exact wpAny_bind (wpAny_rule (wpAny_bind (wpAny_pure (wpAny_pure ⟨_,rfl,wpAny_pure (h1 hb)⟩))))
   | exact wpAny_pure ⟨_,rfl,wpAny_pure (h1 hb)⟩
 ·rw[if_neg hb]
  have h:=h2 hb
  first
   | exact wpAny_bind (m:=Builtin.Tuple.tupleExact _) (wpAny_newObj_type (wpAny_pure ⟨_,rfl,wpAny_pure h⟩) htake)
   | exact wpAny_bind (m:=Builtin.Tuple.tupleExact _) (wpAny_newObj_type (wpAny_bind (wpAny_pure (wpAny_pure ⟨_,rfl,wpAny_pure h⟩))) htake)
   | exact wpAny_bind (wpAny_bind (m:=Builtin.Tuple.tupleExact _) (wpAny_newObj_type (wpAny_pure (wpAny_pure ⟨_,rfl,wpAny_pure h⟩)) htake))
   | exact wpAny_bind (wpAny_bind (m:=Builtin.Tuple.tupleExact _) (wpAny_newObj_type (wpAny_pure ⟨_,rfl,wpAny_pure h⟩) htake))
end
end HT
namespace Pu
open PySem PySem.Spec PyProof.Rows L2
noncomputable def part (o:Option Ex)(ρ:Pu.Env)(K:Option Int->Prop)(X:XP):Prop:=match o with
 | none=>K none
 | some e=>e.run ρ (fun d=>isI d fun i=>K (some i)) X
theorem z6J {o:Option Ex}{ρ:Pu.Env}{K K':Option Int->Prop}{X X':XP}(m:∀ i,K i->K' i)(mx:∀ x,X x->X' x)(h:part o ρ K X):part o ρ K' X':=by
 cases o with
 | none=>exact m _ h
 | some e=>exact e.mono ρ _ _ X X' (fun d q=>z9I (fun i q=>m _ q) q) mx h
noncomputable def cutD (l:List D)(lo hi:Option Int):List D:=(l.drop (HT.sIx l.length 0 lo)).take (HT.sIx l.length l.length hi - HT.sIx l.length 0 lo)
noncomputable def slcD (d:D)(lo hi:Option Int)(Q:DK):Prop:=match d with
 | .lst l=>Q (.lst (cutD l lo hi))
 | .tup l=>Q (.tup (cutD l lo hi))
 | .str x=>x.length<=sizeLine/\Q (.str (Txt.slice x lo hi))
 | _=>False
theorem zce {d:D}{lo hi:Option Int}{Q Q':DK}(m:∀ d,Q d->Q' d)(h:slcD d lo hi Q):slcD d lo hi Q':=by
 unfold slcD at h ⊢
 split at h
 ·exact m _ h
 ·exact m _ h
 ·exact⟨h.1,m _ h.2⟩
 ·exact h.elim
noncomputable def Ex.sl (e:Ex)(lo hi:Option Ex):Ex:=⟨fun ρ Q X=>e.run ρ (fun d=>part lo ρ (fun l=>part hi ρ (fun u=>slcD d l u Q) X) X) X,fun ρ Q Q' X X' m mx q=>e.mono ρ _ _ X X' (fun d q=>z6J (fun l q=>z6J (fun u q=>zce m q) mx q) mx q) mx q⟩
noncomputable def zjk (l:List D)(lo hi:Option Int)(st:Int):List D:=(sliceRange (sliceBounds lo hi (some st) l.length).1 (sliceBounds lo hi (some st) l.length).2.1 (sliceBounds lo hi (some st) l.length).2.2).filterMap (l[·]?)
noncomputable def zjj (l:List D)(lo hi:Option Int)(st:Int):List D:=
 (List.range (Builtin.Slice.slicePlaces (Builtin.Slice.sliceAdjust lo hi st l.length).1 (Builtin.Slice.sliceAdjust lo hi st l.length).2 st)).filterMap fun(k:Nat)=>l[((Builtin.Slice.sliceAdjust lo hi st l.length).1+(k:Int)*st).toNat]?
noncomputable def slsD (d:D)(lo hi:Option Int)(st:Int)(Q:DK):Prop:=st≠0/\match d with
 | .lst l=>Q (.lst (zjk l lo hi st))
 | .tup l=>st≠1/\Builtin.Slice.slicePlaces (Builtin.Slice.sliceAdjust lo hi st l.length).1 (Builtin.Slice.sliceAdjust lo hi st l.length).2 st<=sizeLine/\Q (.tup (zjj l lo hi st))
 | _=>False
theorem zcd {d:D}{lo hi:Option Int}{st:Int}{Q Q':DK}(m:∀ d,Q d->Q' d)(h:slsD d lo hi st Q):slsD d lo hi st Q':=by
 refine⟨h.1,?_⟩
 have h2:=h.2
 split at h2
 ·exact m _ h2
 ·exact⟨h2.1,h2.2.1,m _ h2.2.2⟩
 ·exact h2.elim
noncomputable def Ex.sls (e:Ex)(lo hi:Option Ex)(st:Ex):Ex:=⟨fun ρ Q X=>e.run ρ (fun d=>part lo ρ (fun l=>part hi ρ (fun u=>st.run ρ (fun k=>isI k fun k=>slsD d l u k Q) X) X) X) X,fun ρ Q Q' X X' m mx q=>e.mono ρ _ _ X X' (fun d q=>z6J (fun l q=>z6J (fun u q=>st.mono ρ _ _ X X' (fun k q=>z9I (fun k q=>zcd m q) q) mx q) mx q) mx q) mx q⟩
noncomputable def rSlP (K:W.Frag)(mg:Str->Option Value):V->Option Int->Option Int->Hp->VK->Prop:=fun x lo hi H Q=>∃ G d Q0,Same G H/\RD K mg G d x/\slcD d lo hi Q0/\Kt K mg G H Q0 Q
section
variable {X:Cx}{K:W.Frag}{mg:Str->Option Value}{E:XK}
theorem zdH:SlR X (fun x lo hi H Q=>∃ a xs,x = .ref a/\SqT X.K H a xs/\(HT.sIx xs.length 0 lo=0/\HT.sIx xs.length xs.length hi=xs.length)/\Q (.ref a) H):=by
 intro pins s σ H x v vl vu lo hi sl Q I rx hs pl pu h
 obtain⟨a,xs,rfl,hx,hw,q⟩:=h
 cases rx
 obtain⟨its,r,ht,hz⟩:=I.tuple hx
 have hlen:its.toArray.size=xs.length:=by rw[List.size_toArray]; exact r.length.symm
 refine⟨"tuple",_,PyProof.Rows.slot_tuple_getitem.lookup,ht.typeIs,?_⟩
 refine HT.zc9 (R:=(((HT.sIx its.toArray.size 0 lo:Nat):Int),1,HT.sIx its.toArray.size its.toArray.size hi - HT.sIx its.toArray.size 0 lo)) ht hs (fun h=>HT.z5j hs pl pu h) ?_ (fun _=>⟨.ref a,H,I,rfl,q⟩) (fun z => ?_)
 ·rw[hlen]; dsimp only; rw[hw.1,hw.2]; omega
 ·rw[hlen] at z
  exact absurd (by dsimp only; rw[hw.1,hw.2]; simp) z
theorem zbY {xs:List D}{lo hi:Option Int}(h:HT.sIx xs.length 0 lo=0/\HT.sIx xs.length xs.length hi=xs.length):cutD xs lo hi=xs:=by
 unfold cutD
 rw[h.1,h.2]
 simp
theorem sl_p:SlR X (rSlP X.K X.mg):=((zfo.or (zgM.or zdH)).or zgN).imp fun x lo hi H Q ⟨G,d,Q0,g,rd,hr,hk⟩=>by
 unfold slcD at hr
 split at hr
 ·obtain⟨a,xs,rfl,h1,h2⟩:=z5E rd
  exact .inl (.inl ⟨a,xs,rfl,z5k g h1,fun p hp=>hk.new g hp hr (RD.newL (h2.cut lo hi) g hp)⟩)
 ·obtain⟨a,xs,rfl,h1,h2⟩:=z49 rd
  by_cases hw:HT.sIx xs.length 0 lo=0/\HT.sIx xs.length xs.length hi=xs.length
  ·refine .inl (.inr (.inr ⟨a,xs,rfl,z1X g h1,hw,hk.now g hr ?_⟩))
   rw[h2.len] at hw
   rw[zbY hw]
   exact RD.ofT h1 h2
  ·exact .inl (.inr (.inl ⟨a,xs,rfl,z1X g h1,hw,fun p hp=>hk.new g hp hr (RD.newT (h2.cut lo hi) g hp)⟩))
 ·exact .inr ⟨_,z5D rd,hr.1,hk.now g hr.2 RD.str'⟩
 ·exact hr.elim
noncomputable def zbC (K:W.Frag)(mg:Str->Option Value)(E:XK)(o:Option Ex):TO:=fun σ H Q=>∃ G ρ Q0 X0,Same G H/\AbE K mg G ρ σ/\part o ρ Q0 X0/\(∀ i G' H',Q0 i->Gr G H G'->Same G' H'->Same H H'->Q i H')/\Kx mg H X0 E
theorem QO.imp {e:Option Expr}{t t':TO}(h:QO X e t)(i:∀ σ H Q,t' σ H Q->t σ H Q):QO X e t':=⟨fun pins s σ H Q I q=>h.p pins s σ H Q I (i σ H Q q)⟩
theorem z4K:QO X none (zbC X.K X.mg E none):=QO.imp zfL fun σ H Q ⟨G,ρ,Q0,X0,hs,ab,hr,hk,hx⟩=>hk none G H hr Gr.refl hs Same.refl'
theorem z2X {e:Expr}{x:Ex}(h:QX X E e x):QO X (some e) (zbC X.K X.mg E (some x)):=QO.imp (zfK h) fun σ H Q ⟨G,ρ,Q0,X0,hs,ab,hr,hk,hx⟩=>by
 refine⟨G,ρ,_,X0,hs,ab,hr,fun d v G1 H1 q g1 g2 g3 rd => ?_,hx⟩
 obtain⟨i,rfl,q⟩:=zbl q
 exact⟨i,z1r rd,hk (some i) G1 H1 q g1 g2 g3⟩
theorem ziP {σ:L2.St}{H:Hp}{Q:VK}{e:Ex}{lo hi:Option Ex}(h:tx K mg E (.sl e lo hi) σ H Q):tSl (rSlP K mg) (tx K mg E e) (zbC K mg E lo) (zbC K mg E hi) σ H Q:=by
 obtain⟨G,ρ,Q0,X0,hs,ab,hr,hk,hx⟩:=h
 refine⟨G,ρ,_,X0,hs,ab,hr,fun d v G1 H1 q g1 g2 g3 rd => ?_,hx⟩
 refine⟨G1,ρ,_,X0,g2,ab.same g1.1,q,fun l G2 H2 q k1 k2 k3 => ?_,hx.same g3⟩
 refine⟨G2,ρ,_,X0,k2,ab.same (z0f g1.1 k1.1),q,fun u G3 H3 q n1 n2 n3 => ?_,hx.same (z0f g3 k3)⟩
 exact⟨G3,d,Q0,n2,rd.same (z0f k1.1 n1.1),q,hk.same (g1.trans g3 (k1.trans k3 n1)) (z0f g3 (z0f k3 n3))⟩
theorem z82 {e:Expr}{x:Ex}{lo hi:Option Expr}{l u:Option Ex}{p2 pos:Pos}(he:QX X E e x)(hl:QO X lo (zbC X.K X.mg E l))(hu:QO X hi (zbC X.K X.mg E u)):QX X E (.Subscript e (.Slice lo hi none p2) pos) (.sl x l u):=QE.imp (zdW sl_p he hl hu) fun _ _ _ h=>ziP h
end
end Pu
namespace Pu
open PySem PySem.Spec PyProof.Rows L2
section
variable {X:Cx}{K:W.Frag}{mg:Str->Option Value}{E:XK}
noncomputable def isiD (T:String):D->Option Bool
 | .int _=>some (T == "int")
 | .bl _=>some (T == "int" || T == "bool")
 | .str _=>some (T == "str")
 | .tup _=>some (T == "tuple")
 | .lst _=>some (T == "list")
 | .non=>some false
 | _=>none
noncomputable def onB (o:Option Bool)(Q:Bool->Prop):Prop:=match o with
 | some b=>Q b
 | none=>False
theorem ze9 {o:Option Bool}{Q Q':Bool->Prop}(m:∀ b,Q b->Q' b)(h:onB o Q):onB o Q':=by
 cases o with
 | none=>exact h
 | some b=>exact m _ h
theorem ze8 {o:Option Bool}{Q:Bool->Prop}(h:onB o Q):∃ b,o=some b/\Q b:=by
 cases o with
 | none=>exact h.elim
 | some b=>exact⟨b,rfl,h⟩
noncomputable def pIsi (T:String):Fn:=fn1 (fun d Q=>onB (isiD T d) fun b=>Q (.bl b)) fun d Q Q' m h=>ze9 (fun b q=>m _ q) h
noncomputable def zem:List String:=["int","bool","str","tuple","list"]
theorem zgg {T:String}(hT:T∈zem):PySem.W.kitOne K (.type "int") (.type T)=some (T == "int")/\PySem.W.kitOne K (.type "bool") (.type T)=some (T == "int" || T == "bool")/\PySem.W.kitOne K (.type "str") (.type T)=some (T == "str")/\
  PySem.W.kitOne K (.type "tuple") (.type T)=some (T == "tuple")/\PySem.W.kitOne K (.type "list") (.type T)=some (T == "list")/\PySem.W.kitOne K (.type "NoneType") (.type T)=some false:=by
 unfold zem at hT
 simp only[List.mem_cons,List.not_mem_nil,or_false] at hT
 rcases hT with rfl | rfl | rfl | rfl | rfl <;> exact⟨rfl,rfl,rfl,rfl,rfl,rfl⟩
noncomputable def zj7 (K:W.Frag)(mg:Str->Option Value)(T:String):List V->Hp->VK->Prop:=fun vs H Q=>∃ v G d Q0,vs=[v,.ty T]/\Same G H/\RD K mg G d v/\(onB (isiD T d) fun b=>Q0 (.bl b))/\Kt K mg G H Q0 Q
theorem ziF {T:String}(hT:T∈zem):z2w X (.builtin "isinstance") (zj7 X.K X.mg T):=by
 intro pins s σ H vs us Q I rv ⟨v,G,d,Q0,e,g,rd,hr,hk⟩
 subst e
 obtain⟨b,eb,q⟩:=ze8 hr
 obtain⟨u,w,rfl,ru,rw'⟩:=zfh rv
 cases (show w=Value.type T from rw')
 obtain⟨t1,t2,t3,t4,t5,t6⟩:=zgg (K:=X.K) hT
 have fin:∀ tk,EP X pins σ Q (.bool b) { s with toks:=tk }:=fun tk=>⟨.bl b,H,I.tok tk,rfl,hk.now g q RD.bl'⟩
 cases d with
 | int i=>
  have e:=z1r rd; subst e
  rw[show isiD T (.int i)=some (T == "int") from rfl] at eb
  exact z6P I ru (.int i) (t1.trans eb) fin
 | bl i=>
  have e:=zaa rd; subst e
  rw[show isiD T (.bl i)=some (T == "int" || T == "bool") from rfl] at eb
  exact z6P I ru (.bl i) (t2.trans eb) fin
 | str i=>
  have e:=z5D rd; subst e
  rw[show isiD T (.str i)=some (T == "str") from rfl] at eb
  exact z6P I ru (.str i) (t3.trans eb) fin
 | non=>
  have e:=z9b rd; subst e
  rw[show isiD T .non=some false from rfl] at eb
  exact z6P I ru .non (t6.trans eb) fin
 | tup l=>
  obtain⟨a,xs,rfl,h1,h2⟩:=z49 rd
  cases ru
  rw[show isiD T (.tup l)=some (T == "tuple") from rfl] at eb
  obtain⟨its,r,⟨o,ho,hc,_⟩,_⟩:=I.tuple (z1X g h1)
  exact PySem.W.kia_one PySem.W.kitx_tuple I.kIn ⟨o,ho,hc⟩ (t4.trans eb) (fun z=>nomatch z) fin
 | lst l=>
  obtain⟨a,xs,rfl,h1,h2⟩:=z5E rd
  cases ru
  rw[show isiD T (.lst l)=some (T == "list") from rfl] at eb
  obtain⟨its,r,⟨o,n,ho,hc,_⟩,_⟩:=I.list (z5k g h1)
  exact PySem.W.kia_one PySem.W.kitx_list I.kIn ⟨o,ho,hc⟩ (t5.trans eb) (fun z=>nomatch z) fin
 | _=>cases eb
theorem z7C {e t:Expr}{x:Ex}{pp pos:Pos}{T:String}(hT:T∈zem)(hg:Gl X "isinstance")(hm:X.mg "isinstance"=none)(he:QX X E e x)(ht:QE X t (tC (.ty T)))
  (hs1:starEach [e,t] X.env=(false,eval e X.env)::starEach [t] X.env:=by rfl) (hs2:starEach [t] X.env=(false,eval t X.env)::starEach [] X.env:=by rfl) (hpl:(backTo pos (starEach [t] X.env)).any (·.1)=false:=by rfl)
  (hv:bootBuiltins "isinstance"=some (.builtin "isinstance"):=by rfl) (hn:("isinstance":Str)≠"__name__":=by decide) (hdb:(("isinstance":Str) == ("__debug__":Str))=false:=by decide):QX X E (.Call (.Name "isinstance" pp) [e,t] [] pos) (.op (pIsi T) [x]):=
 QE.imp (z9w (ziF hT) hg hm hv (z5G he (z5G ht z9e hs2) hs1) hn hdb hs1 hpl) fun σ H Q ⟨G,ρ,Q0,X0,hs,ab,hr,hk,hx⟩=>by
  refine⟨G,ρ,_,X0,hs,ab,hr,fun d v G1 H1 q g1 g2 g3 rd => ?_,hx⟩
  exact⟨v,G1,d,Q0,rfl,g2,rd,q,hk.same g1 g3⟩
theorem zev {g:Int->Int->DK->Prop}{hg}{ds:List D}{Q:DK}{Xp:XP}(h:(fnI g hg).run ds Q Xp):∃ i j,ds=[.int i,.int j]/\g i j Q:=by
 obtain⟨d,e,rfl,h'⟩:=zew (m:=zdb hg) h
 obtain⟨i,j,rfl,rfl,q⟩:=z9P h'
 exact⟨i,j,rfl,q⟩
noncomputable def zjr:Fn:=fnI (fun i j Q=>Q (.int (if j > i then j else i))) fun _ _ _ _ m h=>m _ h
noncomputable def zbI:Fn:=fnI (fun i j Q=>Q (.int (if j < i then j else i))) fun _ _ _ _ m h=>m _ h
theorem z9V (hc:X.calm=true):z2w X (.builtin "min") (rN X.K X.mg zbI):=(zdr hc).imp fun vs H Q ⟨G,ds,Q0,X0,g,rds,hr,hk⟩=>by
 obtain⟨i,j,rfl,q⟩:=zev hr
 obtain⟨v,w,rfl,r1,r2⟩:=rds2 rds
 exact⟨i,j,by rw[z1r r1,z1r r2],hk.now g q RD.int'⟩
end
end Pu
namespace Pu
open PySem PySem.Spec PyProof.Rows L2
noncomputable def GlS (sc:Scope)(x:Str):Prop:=sc.names.lookup x=some .globalImplicit
structure Nm (sc:Scope)(x:Str):Prop where
 loc:Loc sc x
 hd:(x == ("__debug__":Str))=false
 hcd:(x == ("__classdict__":Str))=false
theorem Nm.vis {sc:Scope}{x:Str}(h:Nm sc x):Vis sc x:=h.loc.elim .inl fun z =>.inr (.inl z)
section
variable {CX:CXT}{P:Program}{w:World}{K:W.Frag}{mg:Str->Option Value}{base:Heap}{N:List Str}{qual:Str}{sc:Scope}{f:Addr}{cdv:Value}{A:Around}{outer:List PySem.Env}{s:Shared}{H:Hp}{E:XK}{xe:Value->Shared->Prop}{x:Str}{pos pos2:Pos}{e:Expr}{te:TE}
theorem vg (i:Nat)(h:Nm sc x)(hN:N[i]? = some x:=by rfl):QE ((cxOf CX P w K mg base N qual sc f cdv A outer s H E).wish xe) (.Name x pos) (tVar i):=⟨zf2 hN h.vis h.hd h.hcd⟩
theorem ng (i:Nat)(nd:N.Nodup)(h:Nm sc x)(hN:N[i]? = some x:=by rfl):QG ((cxOf CX P w K mg base N qual sc f cdv A outer s H E).wish xe) (.Name x pos) (z6z i):=⟨zcF nd hN h.loc (.inl rfl)⟩
theorem ag (i:Nat)(nd:N.Nodup)(h:Nm sc x)(he:QE ((cxOf CX P w K mg base N qual sc f cdv A outer s H E).wish xe) e te)(hN:N[i]? = some x:=by rfl)(hs:swapsWith e (some (.Name x pos2)) pos.line ((cxOf CX P w K mg base N qual sc f cdv A outer s H E).wish xe).env=pure false:=by rfl):QS ((cxOf CX P w K mg base N qual sc f cdv A outer s H E).wish xe) (.Assign [.Name x pos2] e pos) (tAsg te (z6z i)):=⟨zf1 nd hN h.loc he.p hs (.inl rfl)⟩
theorem glg (h:GlS sc x):Gl ((cxOf CX P w K mg base N qual sc f cdv A outer s H E).wish xe) x:=h
end
noncomputable def spL (K:W.Frag):Sp:=fun vs H Q _=>∃ (a:Addr) (ns:List Int),vs=[.ref a]/\SqL K H a (ns.map V.int)/\ns.length<=63/\∀ H',Q (.bl true) H'
theorem zih {P:Program}{w:World}{K:W.Frag}{mg:Str->Option Value}{base:Heap}{CX:CXT}{k:Nat}{f:Addr}{fd:FuncData}{ps:List Str}{F:Fn}(h:∀ ns:List Int,ns.length<=63->F.run [.lst (ns.map .int)] (fun d=>d = .bl true) (fun _=>False))(ok:FnOk P w K mg base CX k f fd ps (spP K mg F)):FnOk P w K mg base CX k f fd ps (spL K):=
 ok.imp fun vs H Q E ⟨a,ns,e,hS,hl,q⟩=>⟨H,[.lst (ns.map .int)],_,_,Same.refl',by rw[e]; exact RDs.cons (RD.ofL hS (zbm ns)) RDs.nil,h ns hl,fun d v G' H' e g1 g2 g3 rd=>by
  subst e
  rw[zaa rd]
  exact q H',Kx.no⟩
end Pu
namespace Pu
open PySem L2
open Builtin.Int (intBits)
section
variable {ρ:Pu.Env}{Q:DK}{X:XP}{N:Pu.Env->Prop}{a b c e:Ex}{s t:Sm}{F:Fn}{d:D}{i j:Nat}
theorem z8a {d:D}(q:Q d):onV (some d) Q:=q
theorem e_c (q:Q d):(Ex.c d).run ρ Q X:=q
theorem e_v (q:onV (ρ.get i) Q):(Ex.v i).run ρ Q X:=q
theorem zde (q:a.run ρ (fun x=>F.run [x] Q X) X):(Ex.op F [a]).run ρ Q X:=q
theorem zez (q:a.run ρ (fun x=>b.run ρ (fun y=>F.run [x,y] Q X) X) X):(Ex.op F [a,b]).run ρ Q X:=q
theorem zjR (q:a.run ρ (fun x=>b.run ρ (fun y=>c.run ρ (fun z=>F.run [x,y,z] Q X) X) X) X):(Ex.op F [a,b,c]).run ρ Q X:=q
theorem zjQ (q:a.run ρ (fun x=>b.run ρ (fun y=>c.run ρ (fun z=>e.run ρ (fun u=>F.run [x,y,z,u] Q X) X) X) X) X):(Ex.op F [a,b,c,e]).run ρ Q X:=q
theorem ziy {es:List Ex}(q:runs es ρ (fun ds=>F.run ds Q X) X):(Ex.op F es).run ρ Q X:=q
theorem zeW {Q:List D->Prop}(q:Q []):runs [] ρ Q X:=q
theorem zaN {es:List Ex}{Q:List D->Prop}(q:a.run ρ (fun d=>runs es ρ (fun ds=>Q (d::ds)) X) X):runs (a::es) ρ Q X:=q
theorem zjT (q:a.run ρ (fun d=>tst d (b.run ρ Q X) (Q (.bl false))) X):(Ex.and a b).run ρ Q X:=q
theorem e_or (q:a.run ρ (fun d=>tst d (Q (.bl true)) (b.run ρ Q X)) X):(Ex.or a b).run ρ Q X:=q
noncomputable def notD (d:D)(Q:DK):Prop:=match d with
 | .bl b=>Q (.bl (!b))
 | _=>False
theorem ziz (q:a.run ρ (fun d=>notD d Q) X):(Ex.not a).run ρ Q X:=q
theorem n_bl {k:Bool}(q:Q (.bl (!k))):notD (.bl k) Q:=q
theorem zjS (q:c.run ρ (fun d=>tst d (a.run ρ Q X) (b.run ρ Q X)) X):(Ex.ifx c a b).run ρ Q X:=q
theorem zfb {nt:Nat}{js:List Nat}{tg:Tg}{src:Ex}{ct:Option Ex}{elt:Ex}(q:src.run ρ (fun d=>onL (z07 d) fun l=>l.length < sizeLine/\z7g (z7h tg ct elt (z1W nt js ρ)) l fun r=>Q (.lst r)) X):(Ex.comp nt js tg src ct elt).run ρ Q X:=q
theorem zjO {l:List D}{K:List D->Prop}(q:K l):onL (z07 (.lst l)) K:=q
theorem zjN {l:List D}{K:List D->Prop}(q:K l):onL (z07 (.tup l)) K:=q
theorem e_sl {lo hi:Option Ex}(q:a.run ρ (fun d=>part lo ρ (fun l=>part hi ρ (fun u=>slcD d l u Q) X) X) X):(Ex.sl a lo hi).run ρ Q X:=q
theorem zjP {lo hi:Option Ex}(q:a.run ρ (fun d=>part lo ρ (fun l=>part hi ρ (fun u=>b.run ρ (fun k=>isI k fun k=>slsD d l u k Q) X) X) X) X):(Ex.sls a lo hi b).run ρ Q X:=q
theorem zhG {K:Option Int->Prop}(q:K none):part none ρ K X:=q
theorem zhF {K:Option Int->Prop}(q:a.run ρ (fun d=>isI d fun i=>K (some i)) X):part (some a) ρ K X:=q
theorem zir {k:Int}{K:Int->Prop}(q:K k):isI (.int k) K:=q
theorem zk0 {l:List D}{lo hi:Option Int}(q:Q (.lst (cutD l lo hi))):slcD (.lst l) lo hi Q:=q
theorem zjZ {l:List D}{lo hi:Option Int}(q:Q (.tup (cutD l lo hi))):slcD (.tup l) lo hi Q:=q
theorem z3F {A B:Prop}(h:A):tst (.bl true) A B:=⟨fun _=>h,(fun z=>by cases z)⟩
theorem z4I {A B:Prop}(h:B):tst (.bl false) A B:=⟨(fun z=>by cases z),fun _=>h⟩
theorem z3b {d:D}{ρ:Pu.Env}{B:Prop}(h:Safe d ρ)(q:B):Safe d ρ/\B:=⟨h,q⟩
theorem z7l {d:D}{ρ:Pu.Env}{B:Prop}(h:zeN d ρ)(q:B):zeN d ρ/\B:=⟨h,q⟩
theorem t_bl {k:Bool}{A B:Prop}(h:k=true->A)(h':k=false->B):tst (.bl k) A B:=⟨h,h'⟩
theorem z2q {p:Prop}[Decidable p]{A B:Prop}(h:p->A)(h':¬ p->B):tst (.bl (decide p)) A B:=⟨fun e=>h (of_decide_eq_true e),fun e=>h' (of_decide_eq_false e)⟩
theorem zbD {p:Prop}[Decidable p]{A B:Prop}(hp:p)(h:A):tst (.bl (decide p)) A B:=z2q (fun _=>h) fun n=>(n hp).elim
theorem t_no {p:Prop}[Decidable p]{A B:Prop}(hp:¬ p)(h:B):tst (.bl (decide p)) A B:=z2q (fun y=>(hp y).elim) fun _=>h
theorem z2A {k:Bool}{A B:Prop}(h:tst (.bl k) B A):tst (.bl (!k)) A B:=by
 cases k
 ·exact z3F (h.2 rfl)
 ·exact z4I (h.1 rfl)
theorem za1 {k:Bool}{A B:Prop}(e:k=true)(h:A):tst (.bl k) A B:=by rw[e]; exact z3F h
theorem z9r {k:Bool}{A B:Prop}(e:k=false)(h:B):tst (.bl k) A B:=by rw[e]; exact z4I h
theorem zgR (q:N ρ):Sm.skip.run ρ N Q X:=q
theorem za6 (q:s.run ρ (fun ρ'=>t.run ρ' N Q X) Q X):(Sm.seq s t).run ρ N Q X:=q
theorem ziT (q:a.run ρ (fun d=>Safe d (ρ.set i .n)/\N (ρ.set i (.s d))) X):(Sm.set i a).run ρ N Q X:=q
theorem ziV (q:a.run ρ (fun d=>zeN d (ρ.set i .n)/\N (ρ.set i (.o d))) X):(Sm.own i a).run ρ N Q X:=q
theorem zgS {js:List Nat}(q:a.run (vis (dem js ρ)) (fun d=>N ((dem js ρ).set i (.s d))) X):(Sm.setx js i a).run ρ N Q X:=q
theorem s_if (q:c.run ρ (fun d=>tst d (s.run ρ N Q X) (t.run ρ N Q X)) X):(Sm.ifs c s t).run ρ N Q X:=q
theorem ziU (q:a.run ρ Q X):(Sm.ret a).run ρ N Q X:=q
theorem zgT (q:Q .non):Sm.retN.run ρ N Q X:=q
theorem s_ex (q:a.run ρ (fun _=>N ρ) X):(Sm.ex a).run ρ N Q X:=q
theorem zfr {x:Str}(q:X x):(Sm.raise x).run ρ N Q X:=q
theorem zgZ (q:s.run ρ N Q (fun _=>False)):(Sm.calm s).run ρ N Q X:=q
theorem ziX {js:List Nat}{tg:Tg}(q:a.run (vis (dem js ρ)) (fun d=>onL (z07 d) fun l=>forL tg s N Q X l (dem js ρ)) X):(Sm.for_ js tg a s).run ρ N Q X:=q
theorem zfv {tg:Tg}(q:a.run ρ (fun d=>onR [d] fun l=>forL tg s N Q X l ρ) X):(Sm.forr [a] tg s).run ρ N Q X:=q
theorem zfu {tg:Tg}(q:a.run ρ (fun d=>b.run ρ (fun d'=>onR [d,d'] fun l=>forL tg s N Q X l ρ) X) X):(Sm.forr [a,b] tg s).run ρ N Q X:=q
theorem zfw {l:List D}(h:ownL ρ i fun l=>a.run ρ (fun d=>l.length < sizeLine/\Safe d ρ/\N (ρ.set i (.o (.lst (l++[d]))))) X):(Sm.app i a).run ρ N Q X:=h
theorem ziY (h:ownL ρ i fun l=>a.run ρ (fun d=>isLs d fun m=>l.length+m.length<=sizeLine/\(∀ x∈m,Safe x ρ)/\N (ρ.set i (.o (.lst (l++m))))) X):(Sm.ext i a).run ρ N Q X:=h
theorem zfs (h:ownL ρ i fun l=>a.run ρ (fun d=>Safe d ρ/\b.run ρ (fun kd=>isI kd fun z=>onN (ixN l.length z) fun j=>N (ρ.set i (.o (.lst (l.set j d))))) X) X):(Sm.put i b a).run ρ N Q X:=h
theorem zj1 {np nn:Nat}{ds:List D}(h:ds.length=np)(q:s.run (ds.map B.s++List.replicate (nn - np) .n) (fun _=>Q .non) Q (fun _=>False)):(Fn.mkN np nn s).run ds Q X:=⟨h,q⟩
theorem zj2 {np nn:Nat}{ds:List D}(h:ds.length=np)(q:s.run (ds.map B.s++List.replicate (nn - np) .n) (fun _=>Q .non) Q X):(Fn.mk' np nn s).run ds Q X:=⟨h,q⟩
theorem zgD (W:Pu.Env->Prop)(h:tst d (s.run ρ W Q X) (t.run ρ W Q X))(k:∀ ρ',W ρ'->N ρ'):tst d (s.run ρ N Q X) (t.run ρ N Q X):=z47 (s.mono ρ W N Q Q X X k (fun _ z=>z) (fun _ z=>z)) (t.mono ρ W N Q Q X X k (fun _ z=>z) (fun _ z=>z)) h
theorem z1M {α:Type}{f:α->D}{tg:Tg}{l:List α}(I:List α->Pu.Env->Prop)(h0:I [] ρ)(hs:∀ (dn:List α) (x:α) (r:List α) (ρ:Pu.Env),l=dn++x::r->I dn ρ->tg.put (f x) ρ fun ρ'=>s.run ρ' (fun ρ''=>I (dn++[x]) ρ'') Q X)(hd:∀ ρ,I l ρ->N ρ):forL tg s N Q X (l.map f) ρ:=by
 have main:∀ (r dn:List α) (ρ:Pu.Env),l=dn++r->I dn ρ->forL tg s N Q X (r.map f) ρ:=by
  intro r
  induction r with
  | nil=>
   intro dn ρ e h
   rw[List.append_nil] at e
   subst e
   exact hd ρ h
  | cons x r ih=>
   intro dn ρ e h
   rw[List.map_cons]
   exact Tg.put_mono (fun ρ' q=>s.mono ρ' _ _ Q Q X X (fun ρ'' q=>ih (dn++[x]) ρ'' (by rw[e]; simp) q) (fun _ z=>z) (fun _ z=>z) q) (hs dn x r ρ e h)
 exact main l [] ρ rfl h0
theorem z9X (I:Pu.Env->Prop)(μ:Pu.Env->Nat)(h0:I ρ)(hs:∀ ρ,I ρ->c.run ρ (fun d=>tst d (s.run ρ (fun ρ'=>I ρ'/\μ ρ' < μ ρ) Q X) (N ρ)) X):(Sm.wh c s).run ρ N Q X:=by
 have main:∀ (n:Nat) (ρ:Pu.Env),I ρ->μ ρ < n->wh c s N Q X n ρ:=by
  intro n
  induction n with
  | zero=>intro ρ _ h; exact absurd h (Nat.not_lt_zero _)
  | succ n ih=>
   intro ρ hI hm
   exact c.mono ρ _ _ X X (fun d q=>z47 (s.mono ρ _ _ Q Q X X (fun ρ' q=>ih ρ' q.1 (by lia)) (fun _ z=>z) (fun _ z=>z)) (fun z=>z) q) (fun _ z=>z) (hs ρ hI)
 exact⟨μ ρ+1,main _ ρ h0 (Nat.lt_succ_self _)⟩
theorem z3g {α:Type}{f g:α->D}{G:D->(Option D->Prop)->Prop}{M:List D->Prop}:∀ {l:List α},(∀ x∈l,∀ K:Option D->Prop,K (some (g x))->G (f x) K)->M (l.map g)->z7g G (l.map f) M
 | [],_,q=>q
 | x::r,h,q=>h x List.mem_cons_self _ (z3g (l:=r) (fun y hy=>h y (List.mem_cons_of_mem _ hy)) q)
theorem z5Y {α:Type}{f g:α->D}{p:α->Bool}{G:D->(Option D->Prop)->Prop}{M:List D->Prop}:∀ {l:List α},(∀ x∈l,∀ K:Option D->Prop,(p x=true->K (some (g x)))->(p x=false->K none)->G (f x) K)->M ((l.filter p).map g)->z7g G (l.map f) M
 | [],_,q=>q
 | x::r,h,q=>by
  refine h x List.mem_cons_self _ (fun e => ?_) (fun e => ?_)
  ·refine z5Y (l:=r) (fun y hy=>h y (List.mem_cons_of_mem _ hy)) ?_
   rw[List.filter_cons,e] at q
   exact q
  ·refine z5Y (l:=r) (fun y hy=>h y (List.mem_cons_of_mem _ hy)) ?_
   rw[List.filter_cons,e] at q
   exact q
theorem z7f {α β:Type}{f:α->D}{g:β->D}{P:α->β->Prop}{G:D->(Option D->Prop)->Prop}:∀ {l:List α}{M:List D->Prop},(∀ x∈l,∀ K:Option D->Prop,(∀ y,P x y->K (some (g y)))->G (f x) K)->(∀ ys:List β,ys.length=l.length->(∀ y∈ys,∃ x∈l,P x y)->M (ys.map g))->z7g G (l.map f) M
 | [],_,_,q=>q [] rfl (fun _ z=>by simp at z)
 | x::r,M,h,q=>h x List.mem_cons_self _ fun y hy=>z7f (l:=r) (M:=fun t=>M ((some (g y)).toList++t)) (fun z hz=>h z (List.mem_cons_of_mem _ hz)) fun ys hl ha=>q (y::ys) (by simp[hl]) fun z hz=>by
  rcases List.mem_cons.mp hz with rfl | hz
  ·exact⟨x,List.mem_cons_self,hy⟩
  ·obtain⟨w,hw,hp⟩:=ha z hz
   exact⟨w,List.mem_cons_of_mem _ hw,hp⟩
theorem zjX {k:Nat}{elt:Ex}{x:D}{K:Option D->Prop}(q:elt.run (ρ.set k (.s x)) (fun d=>K (some d)) (fun _=>False)):z7h (.nm k) none elt ρ x K:=q
theorem ziD {k:Nat}{elt:Ex}{x:D}{K:Option D->Prop}(q:c.run (ρ.set k (.s x)) (fun b=>tst b (elt.run (ρ.set k (.s x)) (fun d=>K (some d)) (fun _=>False)) (K none)) (fun _=>False)):z7h (.nm k) (some c) elt ρ x K:=q
variable {m n:Int}
theorem zjI (q:Q (.int (m+n))):pAdd.run [.int m,.int n] Q X:=q
theorem zjB (q:Q (.int (m - n))):pSub.run [.int m,.int n] Q X:=q
theorem zjD (h:zgs m n)(q:Q (.int (m*n))):z1e.run [.int m,.int n] Q X:=⟨h,q⟩
theorem zjC (q:Q (.int (-m))):pNeg.run [.int m] Q X:=q
theorem zf7 (h:0 < n)(hb:Bt 9000 n)(q:Q (.int (m / n))):z3i.run [.int m,.int n] Q X:=⟨⟨by lia,hb⟩,by rw[Int.fdiv_eq_ediv_of_nonneg m (by lia)]; exact q⟩
theorem zhY (h:0 < n)(q:Q (.int (m % n))):pMod.run [.int m,.int n] Q X:=⟨by lia,by rw[Int.fmod_eq_emod_of_nonneg m (by lia)]; exact q⟩
theorem zhW (h:CPow m n)(q:Q (.int (m ^ n.toNat))):pPow.run [.int m,.int n] Q X:=⟨h,q⟩
theorem o_lt (q:Q (.bl (decide (m < n)))):pLt.run [.int m,.int n] Q X:=q
theorem o_le (q:Q (.bl (decide (m<=n)))):pLe.run [.int m,.int n] Q X:=q
theorem o_gt (q:Q (.bl (decide (n < m)))):pGt.run [.int m,.int n] Q X:=q
theorem o_ge (q:Q (.bl (decide (n<=m)))):pGeI.run [.int m,.int n] Q X:=q
theorem o_eq (q:Q (.bl (decide (m=n)))):pEq.run [.int m,.int n] Q X:=q
theorem o_ne (q:Q (.bl (!decide (m=n)))):pNe.run [.int m,.int n] Q X:=q
theorem zid {l r:List D}(a:Da 60 (.tup l))(b:Da 60 (.tup r))(q:Q (.bl (deq (.tup l) (.tup r)))):pEq.run [.tup l,.tup r] Q X:=⟨a,b,q⟩
theorem zhX {l r:List D}(a:Da 60 (.tup l))(b:Da 60 (.tup r))(q:Q (.bl (!deq (.tup l) (.tup r)))):pNe.run [.tup l,.tup r] Q X:=⟨a,b,q⟩
theorem o_is (q:Q (.bl (isN d))):pIs.run [d,.non] Q X:=q
theorem zga (q:Q (.bl (!isN d))):zcK.run [d,.non] Q X:=q
theorem zi4 {l:List D}(q:Q (.int (l.length:Int))):pLen.run [.lst l] Q X:=q
theorem zi3 {l:List D}(q:Q (.int (l.length:Int))):pLen.run [.tup l] Q X:=q
theorem zjG {l:List D}(q:onV (atI l m) Q):pIx.run [.lst l,.int m] Q X:=q
theorem zjF {l:List D}(q:onV (atI l m) Q):pIx.run [.tup l,.int m] Q X:=q
theorem zjA {ds:List D}(h:ds.length<=sizeLine)(q:Q (.tup ds)):pTup.run ds Q X:=⟨h,q⟩
theorem zjE {ds:List D}(h:ds.length<=sizeLine)(q:Q (.lst ds)):pLst.run ds Q X:=⟨h,q⟩
theorem zhV {l:List D}(q:Q (.tup l)):z4B.run [.lst l] Q X:=q
theorem zhU {l:List D}(q:Q (.tup l)):z4B.run [.tup l] Q X:=q
theorem zi2 {l:List D}(q:Q (.lst l)):zf4.run [.lst l] Q X:=q
theorem zi1 {l:List D}(q:Q (.lst l)):zf4.run [.tup l] Q X:=q
theorem zjJ (q:Q (.int (if m < 0 then -m else m))):pAbs.run [.int m] Q X:=q
theorem zib (q:Q (.int m)):pInt.run [.int m] Q X:=q
theorem zic {k:Bool}(q:Q (.int (if k then 1 else 0))):pInt.run [.bl k] Q X:=q
theorem zi9 {T:String}(q:Q (.bl (T == "int"))):(pIsi T).run [.int m] Q X:=q
theorem zia {T:String}{k:Bool}(q:Q (.bl (T == "int" || T == "bool"))):(pIsi T).run [.bl k] Q X:=q
theorem zi5 {T:String}{l:List D}(q:Q (.bl (T == "tuple"))):(pIsi T).run [.tup l] Q X:=q
theorem zi8 {T:String}{l:List D}(q:Q (.bl (T == "list"))):(pIsi T).run [.lst l] Q X:=q
theorem zi6 {T:String}{x:Str}(q:Q (.bl (T == "str"))):(pIsi T).run [.str x] Q X:=q
theorem zi7 {T:String}(q:Q (.bl false)):(pIsi T).run [.non] Q X:=q
theorem zi0 (q:Q (.int (if n > m then n else m))):zjr.run [.int m,.int n] Q X:=q
theorem zhZ (q:Q (.int (if n < m then n else m))):zbI.run [.int m,.int n] Q X:=q
theorem zg8 {ns:List Int}(q:Q (.int ns.sum)):pSum.run [.lst (ns.map D.int)] Q X:=by
 show onI (ints? (ns.map D.int)) fun ns=>Q (.int ns.sum)
 rw[zen]
 exact q
theorem zie {l r:List D}(h:l.length+r.length<=sizeLine)(q:Q (.lst (l++r))):pAdd.run [.lst l,.lst r] Q X:=⟨h,q⟩
theorem z7G {l r:List D}(h:l.length+r.length<=sizeLine)(q:Q (.tup (l++r))):pAdd.run [.tup l,.tup r] Q X:=⟨h,q⟩
end
theorem Safe.of_noL {d:D}(h1:noL d=true)(h2:noD d=true):∀ ρ:Pu.Env,Safe d ρ
 | []=>trivial
 | .n::r=>⟨trivial,Safe.of_noL h1 h2 r⟩
 | .s _::r=>⟨trivial,Safe.of_noL h1 h2 r⟩
 | .o x::r=>⟨by cases x <;> first | exact h1 | exact h2 | trivial,Safe.of_noL h1 h2 r⟩
theorem z4O {ρ:Pu.Env}{i:Nat}{l:List D}{K:List D->Prop}(h:ρ[i]? = some (B.o (.lst l)))(q:K l):ownL ρ i K:=by unfold ownL; rw[h]; exact q
theorem zeY {k:Int}{K:List D->Prop}(h : -(2 ^ 62)<=k)(h':k < 2 ^ 62)(q:K ((List.range k.toNat).map fun(j:Nat)=>D.int (j:Int))):onR [.int k] K:=⟨⟨h,h'⟩,q⟩
theorem z2r {l:List D}{k:Int}{d:D}{Q:DK}(e:atI l k=some d)(q:Q d):onV (atI l k) Q:=by rw[e]; exact q
noncomputable abbrev vec (p:Int × Int):D :=.tup [.int p.1,.int p.2]
theorem z4Q:∀ {l:List D},(∀ d∈l,noL d=true)->noLs l=true
 | [],_=>rfl
 | d::r,h=>by rw[noLs,h d List.mem_cons_self,z4Q fun x hx=>h x (List.mem_cons_of_mem _ hx)]; rfl
theorem z4R:∀ {l:List D},(∀ d∈l,noD d=true)->noDs l=true
 | [],_=>rfl
 | d::r,h=>by rw[noDs,h d List.mem_cons_self,z4R fun x hx=>h x (List.mem_cons_of_mem _ hx)]; rfl
noncomputable abbrev vecs (l:List (Int × Int)):D :=.tup (l.map vec)
theorem zbj (l:List (Int × Int)):noL (vecs l)=true:=by
 show noLs (l.map vec)=true
 refine z4Q fun d hd => ?_
 obtain⟨p,_,rfl⟩:=List.mem_map.mp hd
 rfl
theorem zbk (l:List (Int × Int)):noD (vecs l)=true:=by
 show noDs (l.map vec)=true
 refine z4R fun d hd => ?_
 obtain⟨p,_,rfl⟩:=List.mem_map.mp hd
 rfl
theorem z1Q {α:Type}{f:α->D}{l:List α}{k:Int}{x:α}(h:atI l k=some x):atI (l.map f) k=some (f x):=by
 unfold atI at h ⊢
 rw[List.length_map]
 cases q:ixN l.length k with
 | none=>rw[q] at h; cases h
 | some j=>
  rw[q] at h
  have h':l[j]? = some x:=h
  show (l.map f)[j]? = some (f x)
  rw[List.getElem?_map,h']
  rfl
theorem menu {ns:List Int}{k:Int}{Q:DK}(h0:0<=k)(h1:k < ns.length)(q:∀ v∈ns,Q (.int v)):onV (atI (ns.map D.int) k) Q:=by
 obtain⟨v,hv,e⟩:=z8H (xs:=ns) h0 h1
 rw[z1Q e]
 exact q v hv
theorem z5i {α:Type}(f:α->D)(l:List α)(lo hi:Option Int):cutD (l.map f) lo hi=((l.drop (HT.sIx l.length 0 lo)).take (HT.sIx l.length l.length hi - HT.sIx l.length 0 lo)).map f:=by
 unfold cutD
 rw[List.length_map,List.map_take,List.map_drop]
theorem zgk (p r:Int × Int):deq (vec p) (vec r)=decide (p=r):=by
 obtain⟨a,b⟩:=p
 obtain⟨c,d⟩:=r
 show PyData.eqv (.tuple [.int a,.int b]) (.tuple [.int c,.int d])=decide ((a,b)=(c,d))
 rw[eqv2,decide_eq_decide,Prod.mk.injEq]
theorem Da.vec (p:Int × Int){n:Nat}:Da (n+1) (vec p):=Da.tup.mpr fun d hd=>by
 simp only[List.mem_cons,List.not_mem_nil,or_false] at hd
 rcases hd with rfl | rfl <;> exact Da.int
theorem Da.vecs (l:List (Int × Int)){n:Nat}:Da (n+2) (vecs l):=Da.tup.mpr fun d hd=>by
 obtain⟨p,_,rfl⟩:=List.mem_map.mp hd
 exact Da.vec p
end Pu
namespace Geo
noncomputable abbrev P:=Int × Int
noncomputable def cr (a b c:P):Int:=(b.1 - a.1)*(c.2 - a.2) - (b.2 - a.2)*(c.1 - a.1)
noncomputable def Lx (a b:P):Prop:=a.1 < b.1\/(a.1=b.1/\a.2 < b.2)
noncomputable instance (a b:P):Decidable (Lx a b):=inferInstanceAs (Decidable (_\/_))
noncomputable def ziM (S:P->Prop):List P->Prop
 | b::a::r=>(∀ p,S p->0<=cr a b p)/\Lx a b/\ziM S (a::r)
 | _=>True
noncomputable def Conv:List P->Prop
 | c::b::a::r=>0 < cr a b c/\Conv (b::a::r)
 | _=>True
structure Ok (S:P->Prop)(s:List P):Prop where
 sub:∀ x∈s,S x
 desc:s.Pairwise fun x y=>Lx y x
 top:∃ b r,s=b::r/\∀ p,S p->¬ Lx b p
 bot:∃ z,s.getLast? = some z/\∀ p,S p->¬ Lx p z
 edges:ziM S s
 conv:Conv s
end Geo
namespace Geo
noncomputable def dot (a b p:P):Int:=(p.1 - a.1)*(b.1 - a.1)+(p.2 - a.2)*(b.2 - a.2)
end Geo
namespace Geo
end Geo
namespace Lcg
noncomputable def step (M x:Nat):Nat:=(x*5+1) % M
end Lcg
namespace Tab
open PySem PySem.SetTable
noncomputable def adv (mask:Nat)(p:Probe):Probe:=
 if p.more > 0 then { p with j:=p.j+1,more:=p.more - 1 } else
 { p with j:=(leap mask p.i p.perturb).1,more:=runEnd mask (leap mask p.i p.perturb).1 - (leap mask p.i p.perturb).1,i:=(leap mask p.i p.perturb).1,perturb:=(leap mask p.i p.perturb).2 }
noncomputable def advs (mask:Nat)(p:Probe):Nat->Probe
 | 0=>p
 | n+1=>adv mask (advs mask p n)
theorem zbz (mask:Nat)(p:Probe)(m:Nat):∀ n,advs mask p (m+n)=advs mask (advs mask p m) n
 | 0=>rfl
 | n+1=>congrArg (adv mask) (zbz mask p m n)
theorem zby (mask:Nat):∀ (p:Probe) (n:Nat),n<=p.more->advs mask p n={ p with j:=p.j+n,more:=p.more - n }
 | p,0,_=>rfl
 | p,n+1,h=>by
  rw[advs,zby mask p n (by lia)]
  unfold adv
  rw[if_pos (by show p.more - n > 0; lia)]
  show ({ p with j:=p.j+n+1,more:=p.more - n - 1 }:Probe)=_
  congr 1
theorem zcn (mask i:Nat):runEnd mask i - i<=9:=by unfold runEnd; split <;> lia
noncomputable def lp (mask:Nat)(i q:Nat):Nat->Nat × Nat
 | 0=>(i,q)
 | c+1=>leap mask (lp mask i q c).1 (lp mask i q c).2
theorem z6N (mask:Nat)(p:Probe):advs mask p (p.more+1)={ p with j:=(leap mask p.i p.perturb).1,more:=runEnd mask (leap mask p.i p.perturb).1 - (leap mask p.i p.perturb).1,i:=(leap mask p.i p.perturb).1,perturb:=(leap mask p.i p.perturb).2 }:=by
 rw[advs,zby mask p p.more (Nat.le_refl _)]
 unfold adv
 rw[if_neg (by show ¬ p.more - p.more > 0; lia)]
theorem runs (mask:Nat):∀ (c:Nat) (p:Probe),p.more<=9->∃ s,s<=10*(c+1)/\(advs mask p s).j=(lp mask p.i p.perturb (c+1)).1/\(advs mask p s).i=(lp mask p.i p.perturb (c+1)).1/\(advs mask p s).perturb=(lp mask p.i p.perturb (c+1)).2/\(advs mask p s).more<=9
 | 0,p,h=>⟨p.more+1,by lia,by rw[z6N]; rfl,by rw[z6N]; rfl,by rw[z6N]; rfl,by rw[z6N]; exact zcn _ _⟩
 | c+1,p,h=>by
  obtain⟨s,h1,h2,h3,h4,h5⟩:=runs mask c p h
  refine⟨s+((advs mask p s).more+1),by lia,?_⟩
  rw[zbz,z6N]
  refine⟨?_,?_,?_,zcn _ _⟩
  ·show (leap mask (advs mask p s).i (advs mask p s).perturb).1=_; rw[h3,h4]; rfl
  ·show (leap mask (advs mask p s).i (advs mask p s).perturb).1=_; rw[h3,h4]; rfl
  ·show (leap mask (advs mask p s).i (advs mask p s).perturb).2=_; rw[h3,h4]; rfl
end Tab
namespace Tab
open PySem PySem.SetTable
variable {α:Type}
end Tab
namespace Tab
open PySem PySem.SetTable
variable {α:Type}
end Tab
namespace Tab
open PySem PySem.SetTable PyProof.Rows
end Tab
namespace Tab
open PySem PySem.SetTable PyProof.Rows
end Tab
namespace Tab
open PySem PySem.SetTable PyProof.Rows
end Tab
namespace Tab
open PySem PySem.SetTable PyProof.Rows
end Tab
namespace Tim
open PySem PyProof.Rows
end Tim
namespace Tim
open PySem PyProof.Rows
end Tim
namespace Tim
open PySem PyProof.Rows
end Tim
namespace Tim
open PySem PyProof.Rows
end Tim
namespace Tim
open PySem PyProof.Rows
end Tim
namespace Tim
open PySem PyProof.Rows
end Tim
namespace Tim
open PySem PyProof.Rows
end Tim
namespace Tim
open PySem PyProof.Rows
end Tim
namespace Tim
open PySem PyProof.Rows PySem.W HT
section
variable {prog:Program}{w:World}{A:Around}{E:Value->Shared->Prop}{s:Shared}
noncomputable def TI (h:Heap)(v:Value)(k:List Int):Prop:=∃ a o z07 n,v = .ref a/\h.get? a=some o/\o.cls = .type "tuple"/\o.data = .seq z07 n/\IntsAre z07.toList k
end
end Tim
namespace Tim
open PySem PyProof.Rows PySem.W HT
end Tim
namespace Tab
open PySem PySem.SetTable PyProof.Rows
end Tab
namespace Tab
open PySem PySem.SetTable PyProof.Rows
end Tab
namespace Tab
open PySem PySem.SetTable PyProof.Rows
end Tab
namespace Tab
open PySem PySem.SetTable PyProof.Rows
end Tab
namespace Tab
open PySem PySem.SetTable PyProof.Rows
end Tab
namespace Tab
open PySem PySem.SetTable PyProof.Rows
end Tab
namespace Tab
open PySem PySem.SetTable PyProof.Rows
end Tab
namespace Tab
open PySem PySem.SetTable PyProof.Rows
end Tab
namespace Pu
open PySem PySem.Spec PyProof.Rows L2 Tab
theorem z2S.there {P:Program}{w:World}{H:Hp}{h:Heap}{a:Addr}{o:HO}(x:z2S P w H h a o):∃ u,h.get? a=some u:=by
 cases o with
 | lst xs=>obtain⟨_,_,_,_,e⟩:=x; exact⟨_,e⟩
 | tup xs=>obtain⟨_,_,_,o,e,_⟩:=x; exact⟨_,e⟩
 | dK kvs=>obtain⟨_,_,_,_,o,_,_,e,_⟩:=x; exact⟨_,e⟩
 | dT kvs=>obtain⟨_,_,_,_,o,_,_,e,_⟩:=x; exact⟨_,e⟩
 | set S n=>obtain⟨o,_,_,_,e,_⟩:=x; exact⟨_,e⟩
 | ins C dx fs=>obtain⟨_,_,_,e,_⟩:=x; exact⟨_,e⟩
 | own y=>exact x
 | xd fs=>obtain⟨_,⟨_,_,_,e,_⟩,_⟩:=x; exact⟨_,e⟩
 | rng lo hi=>obtain⟨_,_,_,e⟩:=x; exact⟨_,e⟩
 | frz ob u=>obtain⟨e,_⟩:=x; exact⟨_,e⟩
 | tbl ps=>exact⟨_,(show h.get? a=some _ from x)⟩
 | met f y=>exact⟨_,(show h.get? a=some _ from x)⟩
 | ext φ=>obtain⟨_,z,_⟩:=x; exact z
theorem _root_.L2.HOk.none_of {P:Program}{w:World}{H:Hp}{h:Heap}{a:Addr}(x:HOk P w H h)(e:h.get? a=none):H a=none:=by
 cases q:H a with
 | none=>rfl
 | some u=>
  obtain⟨v,z⟩:=z2S.there (x a u q)
  rw[e] at z; cases z
end Pu
namespace Pu
open PySem PySem.Spec PyProof.Rows L2 Tab
structure Rows (ks kl:List (List Int)):Prop where
 up:kl.Pairwise (fun a b=>HT.z2e a b=true)
 mem:∀ x,x∈kl↔x∈ks
end Pu
namespace Rev
open PySem PyProof.Rows
theorem no_len:typeLookup (.type "list_reverseiterator") "__len__"=pure none:=by
 rw[typeLookup_type,builtinLookup_eq_fast]
 kernel_rfl
theorem its_hint:typeLookup (.type "list_reverseiterator") "__length_hint__"=pure (some (.builtin "list_reverseiterator.__length_hint__")):=by
 rw[typeLookup_type,builtinLookup_eq_fast]
 kernel_rfl
end Rev
namespace Rev
open PySem PyProof.Rows
end Rev
namespace Pu
open PySem PySem.Spec PyProof.Rows L2 Tab
theorem _root_.L2.Inv.spent {X:Cx}{H:Hp}{pins:List (Addr × Obj)}{σ:L2.St}{s:Shared}{h':Heap}{r a:Addr}{φ:Heap->Prop}{o:HO}{t':Nat}(I:Inv X pins σ (upd H r (.ext φ)) s)(hr:H r=none)(h0:X.s₀.heap.objs.size<=r)(k:∀ b u,b≠r->s.heap.get? b=some u->h'.get? b=some u)(hp:s.heap.get? a=none)
  (new:z2S X.prog X.w (upd H a o) h' a o):Inv X pins σ (upd H a o) { s with heap:=h',toks:=t' }:=by
 have Hr:upd H r (.ext φ) r=some (.ext φ):=z0U
 have back:∀ b (u:HO),upd H r (.ext φ) b=some u->(∀ ψ,u ≠ .ext ψ)->H b=some u/\b≠r:=fun b u e z=>by
  have hb:b≠r:=fun y=>by rw[y,Hr] at e; cases e; exact z φ rfl
  rw[z0q hb] at e; exact⟨e,hb⟩
 have hn0:=I.hok.none_of hp
 have har:a≠r:=fun y=>by rw[y,Hr] at hn0; cases hn0
 have hn:H a=none:=by rw[z0q har] at hn0; exact hn0
 have ne:∀ b u,s.heap.get? b=some u->b≠a:=fun b u e z=>by rw[z,hp] at e; cases e
 have neH:∀ b u,H b=some u->b≠a:=fun b u e z=>by rw[z,hn] at e; cases e
 have out:∀ b,upd H r (.ext φ) b=none->b≠r/\H b=none:=fun b e=>by
  have hb:b≠r:=fun y=>by rw[y,Hr] at e; cases e
  rw[z0q hb] at e; exact⟨hb,e⟩
 have same:∀ b (u:HO),upd H r (.ext φ) b=some u->(∀ ψ,u ≠ .ext ψ)->upd H a o b=some u:=fun b u e z=>by
  obtain⟨e',_⟩:=back b u e z
  rw[z0q (neH b u e')]; exact e'
 refine I.step (g':=s.gens) (d':=s.drawn) (ch:=[r]) (fun b hb => ?_) (fun b u _ _ hc e _=>k b u (fun z=>hc (by simp[z])) e) (fun b u _ _ hc e _=>⟨u.slots,k b u (fun z=>hc (by simp[z])) e⟩) (fun b u _ e q=>by rw[z0q (ne b u e)]; exact(out b q).2)
  (fun b u hc e=>⟨u,k b u (fun z=>hc (by simp[z])) e⟩) (fun b xs e=>same b _ e fun _=>nofun) (fun b u v e=>same b _ e fun _=>nofun) (fun b ps e=>⟨#[],by rw[same b _ e fun _=>nofun,Array.append_empty]⟩) (fun m hm => ?_) (fun b u e => ?_) I.bare
 ·have e:b=r:=by simpa using hb
  subst e
  exact⟨.inr h0,(fun z=>(out _ I.free).1 z.symm),fun x c e=>(out c (I.freeC x c e)).1,fun p hp=>(out _ (I.pin p hp).2.1).1⟩
 ·obtain⟨u,es,ep,ho,q⟩:=hm
  exact⟨u,es,ep,k _ u (out _ I.free).1 ho,q⟩
 by_cases hb:b=a
 ·subst hb; rw[z0U] at e; cases e; exact new
 rw[z0q hb] at e
 have hbr:b≠r:=fun z=>by rw[z,hr] at e; cases e
 have e':upd H r (.ext φ) b=some u:=by rw[z0q hbr]; exact e
 refine(I.hok b u e').stay (fun c v hc q=>k c v ?_ q) (fun c q=>same c _ q fun _=>nofun) fun c xs q=>same c _ q fun _=>nofun
 rcases hc with rfl | hc
 ·exact hbr
 ·exact(back c _ hc fun _=>nofun).2
end Pu
namespace Pu
open PySem PySem.Spec PyProof.Rows L2 Tab
end Pu
namespace Rev
open PySem PyProof.Rows
end Rev
namespace Pu
open PySem PySem.Spec PyProof.Rows L2 Tab
end Pu
namespace Pu
open PySem L2
noncomputable def z0i:Fn:=Fn.mkN 2 5 (.seq (.set 2 (.op pAbs [(.v 0)]))
 (.seq (.set 3 (.op pAbs [(.v 1)]))
 (.seq (.wh (.op pNe [(.v 3),(.c (.int 0))]) (.seq (.set 4 (.op pMod [(.v 2),(.v 3)]))
 (.seq (.set 2 (.v 3))
 (.set 3 (.v 4)))))
 (.ret (.v 2)))))
end Pu
namespace Pu
open PySem L2
noncomputable def Fn.bot:Fn:=⟨fun _ _ _=>False,fun _ _ _ _ _ _ _ h=>h⟩
theorem ziv {P:Program}{w:World}{K:W.Frag}{mg:Str->Option Value}{base:Heap}{CX:CXT}{k:Nat}{f:Addr}{fd:FuncData}{ps:List Str}:FnOk P w K mg base CX k f fd ps (spP K mg Fn.bot):=
 ⟨fun _ _ _ _ ⟨_,_,_,_,_,_,h,_⟩=>h.elim,fun _ _ _ _ _ _ _ _ _ _ _ _ _ ⟨_,_,_,_,_,_,h,_⟩=>h.elim⟩
end Pu
namespace Pu
open PySem PySem.Spec PyProof.Rows L2
end Pu
namespace Pu
open PySem PySem.Spec PyProof.Rows L2
noncomputable def Sm.par2 (i j:Nat)(es:List Ex):Sm:=⟨fun ρ N _ Xp=>runs es (vis ρ) (fun ds=>[i,j].length=ds.length/\N (z0E [i,j] ds ρ)) Xp,fun ρ N N' Q Q' Xp X' mn m mx q=>z4A es _ _ _ Xp X' (fun d q1=>⟨q1.1,mn _ q1.2⟩) mx q⟩
end Pu
namespace Pu
open PySem PySem.Spec PyProof.Rows L2
noncomputable def gAll (d:D)(Q:DK):Prop:=∃ bs:List Bool,d = .lst (bs.map .bl)/\Q (.bl (bs.all id))
noncomputable def pAll:Fn:=fn1 gAll fun d Q Q' m h=>by
 obtain⟨bs,e,q⟩:=h
 exact⟨bs,e,m _ q⟩
theorem zjH {bs:List Bool}{Q:DK}{X:XP}(q:Q (.bl (bs.all id))):pAll.run [.lst (bs.map .bl)] Q X:=⟨bs,rfl,q⟩
section
variable {X:Cx}
theorem zco {K:W.Frag}{mg:Str->Option Value}{G:Hp}:∀ (bs:List Bool) {xs:List V},RDs K mg G (bs.map .bl) xs->xs=bs.map .bl
 | [],xs,h=>by
  rw[List.map_nil,RDs] at h
  exact h
 | b::bs,xs,h=>by
  rw[List.map_cons,RDs] at h
  obtain⟨v,r,rfl,h1,h2⟩:=h
  rw[zco bs h2,zaa h1]
  rfl
theorem ziG (hc:X.calm=true):z2w X (.builtin "all") (rN X.K X.mg pAll):=(zdt hc).imp fun vs H Q ⟨G,ds,Q0,X0,g,rds,hr,hk⟩=>by
 obtain⟨d,rfl,hr'⟩:=z63 hr
 obtain⟨v,rfl,rd⟩:=rds1 rds
 obtain⟨bs,rfl,q⟩:=hr'
 obtain⟨a,xs,rfl,h1,h2⟩:=z5E rd
 rw[zco bs h2] at h1
 exact⟨a,bs,rfl,z5k g h1,hk.now g q RD.bl'⟩
end
end Pu
namespace Pu
open PySem L2
noncomputable def z1n:Fn:=Fn.mkN 2 2 (.seq (.ifs (.op pLt [(.v 1),(.op pLen [(.v 0)])]) (.ret (.op pIx [(.v 0),(.v 1)])) .skip)
 (.ret (.c (.int 0))))
end Pu
namespace Pu
open PySem L2
noncomputable def z6A:Fn:=Fn.mkN 2 7 (.seq (.set 2 (.op z0i [(.op pIx [(.v 0),(.c (.int 1))]),(.op pIx [(.v 1),(.c (.int 1))])]))
 (.seq (.set 3 (.op z3i [(.op pIx [(.v 1),(.c (.int 1))]),(.v 2)]))
 (.seq (.set 4 (.op z3i [(.op pIx [(.v 0),(.c (.int 1))]),(.v 2)]))
 (.seq (.set 5 (.op pAdd [(.op z1e [(.op pIx [(.v 0),(.c (.int 0))]),(.v 3)]),(.op z1e [(.op pIx [(.v 1),(.c (.int 0))]),(.v 4)])]))
 (.seq (.set 6 (.op z0i [(.v 2),(.v 5)]))
 (.ret (.op pTup [(.op z3i [(.v 5),(.v 6)]),(.op z1e [(.v 4),(.op z3i [(.op pIx [(.v 1),(.c (.int 1))]),(.v 6)])])])))))))
noncomputable def z2m:Fn:=Fn.mkN 3 4 (.seq (.set 3 (.op z0i [(.op z0i [(.v 2),(.v 0)]),(.v 1)]))
 (.ret (.op pTup [(.op z3i [(.v 0),(.v 3)]),(.op z3i [(.v 1),(.v 3)]),(.op z3i [(.v 2),(.v 3)])])))
noncomputable def z1u:Fn:=Fn.mkN 2 8 (.seq (.set 2 (.op z0i [(.op pIx [(.v 0),(.c (.int 2))]),(.op pIx [(.v 1),(.c (.int 2))])]))
 (.seq (.set 3 (.op z3i [(.op pIx [(.v 1),(.c (.int 2))]),(.v 2)]))
 (.seq (.set 4 (.op z3i [(.op pIx [(.v 0),(.c (.int 2))]),(.v 2)]))
 (.seq (.set 5 (.op pAdd [(.op z1e [(.op pIx [(.v 0),(.c (.int 0))]),(.v 3)]),(.op z1e [(.op pIx [(.v 1),(.c (.int 0))]),(.v 4)])]))
 (.seq (.set 6 (.op pAdd [(.op z1e [(.op pIx [(.v 0),(.c (.int 1))]),(.v 3)]),(.op z1e [(.op pIx [(.v 1),(.c (.int 1))]),(.v 4)])]))
 (.seq (.set 7 (.op z0i [(.op z0i [(.v 2),(.v 5)]),(.v 6)]))
 (.ret (.op pTup [(.op z3i [(.v 5),(.v 7)]),(.op z3i [(.v 6),(.v 7)]),(.op z1e [(.v 4),(.op z3i [(.op pIx [(.v 1),(.c (.int 2))]),(.v 7)])])]))))))))
noncomputable def z1N:Fn:=Fn.mkN 2 2 (.ret (.op z2m [(.op z1e [(.op pIx [(.v 0),(.c (.int 0))]),(.op pIx [(.v 1),(.c (.int 0))])]),(.op z1e [(.op pIx [(.v 0),(.c (.int 1))]),(.op pIx [(.v 1),(.c (.int 0))])]),(.op z1e [(.op pIx [(.v 0),(.c (.int 2))]),(.op pIx [(.v 1),(.c (.int 1))])])]))
noncomputable def z3E:Fn:=Fn.mkN 1 1 (.ret (.and (.op pGt [(.op pIx [(.v 0),(.c (.int 0))]),(.c (.int 0))]) (.and (.op pGt [(.op pIx [(.v 0),(.c (.int 1))]),(.c (.int 0))]) (.op pEq [(.op z0i [(.op pIx [(.v 0),(.c (.int 0))]),(.op pIx [(.v 0),(.c (.int 1))])]),(.c (.int 1))]))))
noncomputable def z13:Fn:=Fn.mkN 2 5 (.seq (.set 2 (.op pNeg [(.c (.int 1))]))
 (.seq (.for_ [] (.tp [3,4]) (.v 1) (.seq (.ifs (.or (.op pLe [(.v 3),(.v 2)]) (.or (.op pGeI [(.v 3),(.op pLen [(.v 0)])]) (.not (.op z3E [(.v 4)])))) (.ret (.c (.bl false))) .skip)
 (.set 2 (.v 3))))
 (.ret (.c (.bl true)))))
noncomputable def z0C:Fn:=Fn.mkN 1 4 (.seq (.set 1 (.op pTup [(.c (.int 0)),(.c (.int 1))]))
 (.seq (.for_ [] (.tp [2,3]) (.v 0) (.set 1 (.op z6A [(.v 1),(.v 3)])))
 (.ret (.v 1))))
noncomputable def z3f:Fn:=Fn.mk' 2 6 (.seq (.ifs (.not (.op z13 [(.v 0),(.v 1)])) (.raise "NoShares") .skip)
 (.seq (.set 2 (.op pTup [(.c (.int 0)),(.c (.int 0)),(.c (.int 1))]))
 (.seq (.calm (.for_ [] (.tp [3,4]) (.v 1) (.seq (.set 5 (.op pIx [(.v 0),(.v 3)]))
 (.set 2 (.op z1u [(.v 2),(.op z1N [(.op pTup [(.op pIx [(.v 5),(.c (.int 0))]),(.op pIx [(.v 5),(.c (.int 1))]),(.c (.int 1))]),(.v 4)])])))))
 (.ret (.v 2)))))
noncomputable def z2O:Fn:=Fn.mkN 2 2 (.seq (.wh (.op pNe [(.v 1),(.c (.int 0))]) (.par2 0 1 [(.v 1),(.op pMod [(.v 0),(.v 1)])]))
 (.ret (.v 0)))
noncomputable def z41:Fn:=Fn.mkN 3 4 (.seq (.set 3 (.op z2O [(.op z2O [(.op pAbs [(.v 0)]),(.op pAbs [(.v 1)])]),(.v 2)]))
 (.ret (.op pTup [(.op z3i [(.v 0),(.v 3)]),(.op z3i [(.v 1),(.v 3)]),(.op z3i [(.v 2),(.v 3)])])))
noncomputable def z8D:Fn:=Fn.mkN 2 7 (.seq (.set 2 (.c (.int 1)))
 (.seq (.for_ [] (.tp [3,4]) (.v 1) (.set 2 (.op z1e [(.v 2),(.op pIx [(.v 4),(.c (.int 1))])])))
 (.seq (.set 5 (.op pSum [(.comp 2 [2,0] (.tp [0,1]) (.v 1) none (.op z1e [(.op z1e [(.op pIx [(.op pIx [(.v 3),(.v 0)]),(.c (.int 0))]),(.op pIx [(.v 1),(.c (.int 0))])]),(.op z3i [(.v 2),(.op pIx [(.v 1),(.c (.int 1))])])]))]))
 (.seq (.set 6 (.op pSum [(.comp 2 [2,0] (.tp [0,1]) (.v 1) none (.op z1e [(.op z1e [(.op pIx [(.op pIx [(.v 3),(.v 0)]),(.c (.int 1))]),(.op pIx [(.v 1),(.c (.int 0))])]),(.op z3i [(.v 2),(.op pIx [(.v 1),(.c (.int 1))])])]))]))
 (.ret (.op z41 [(.v 5),(.v 6),(.v 2)]))))))
end Pu
namespace Pu
open PySem L2
noncomputable def z0y:Fn:=Fn.mkN 2 3 (.seq (.set 2 (.op pAdd [(.op z1e [(.c (.int 2)),(.v 1)]),(.c (.int 1))]))
 (.ret (.op pTup [(.op pSub [(.op pMod [(.v 0),(.v 2)]),(.v 1)]),(.op pSub [(.op pMod [(.op z3i [(.v 0),(.v 2)]),(.v 2)]),(.v 1)])])))
noncomputable def z0M:Fn:=Fn.mkN 1 7 (.seq (.set 1 (.op pIx [(.op pLst [(.c (.int 3)),(.c (.int 12)),(.op pPow [(.c (.int 10)),(.c (.int 9))])]),(.op pMod [(.op z3i [(.op pIx [(.v 0),(.c (.int 0))]),(.c (.int 2))]),(.c (.int 3))])]))
 (.seq (.own 2 (.op pLst []))
 (.seq (.set 3 (.c (.int 1)))
 (.seq (.wh (.and (.op pLt [(.v 3),(.op zbI [(.op pLen [(.v 0)]),(.c (.int 61))])]) (.op pLt [(.op pLen [(.v 2)]),(.c (.int 12))])) (.seq (.set 4 (.op pAdd [(.c (.int 1)),(.op pMod [(.op pIx [(.v 0),(.v 3)]),(.c (.int 12))])]))
 (.seq (.set 5 (.op z3i [(.op pIx [(.v 0),(.v 3)]),(.c (.int 12))]))
 (.seq (.own 6 (.op pLst [(.op z0y [(.v 5),(.v 1)])]))
 (.seq (.ext 6 (.comp 1 [1] (.nm 0) (.sl (.v 0) (some (.op pAdd [(.v 3),(.c (.int 1))])) (some (.op zbI [(.op pAdd [(.v 3),(.v 4)]),(.c (.int 61))]))) none (.op z0y [(.v 0),(.v 1)])))
 (.seq (.app 2 (.op pTup [(.op z4B [(.v 6)]),(.op z0y [(.op z3i [(.v 5),(.op pPow [(.op pAdd [(.op z1e [(.c (.int 2)),(.v 1)]),(.c (.int 1))]),(.c (.int 2))])]),(.v 1)])]))
 (.set 3 (.op pAdd [(.v 3),(.v 4)]))))))))
 (.ret (.op z4B [(.v 2)]))))))
noncomputable def z05:Fn:=Fn.mkN 3 5 (.seq (.set 3 (.c (.int 170141183460469231731687303715884105727)))
 (.seq (.set 4 (.op pMod [(.op z1e [(.op pAdd [(.op pMod [(.v 0),(.v 3)]),(.op z1e [(.op pAdd [(.v 1),(.c (.int 3))]),(.c (.int 1000000007))])]),(.c (.int 105172331949523456789012345678901234567))]),(.v 3)]))
 (.seq (.set 4 (.op pMod [(.op z1e [(.v 4),(.v 4)]),(.v 3)]))
 (.ret (.op pMod [(.op z3i [(.op pMod [(.op z1e [(.op pAdd [(.v 4),(.v 1)]),(.c (.int 83492791123456789012345678901234567891))]),(.v 3)]),(.c (.int 7))]),(.v 2)])))))
noncomputable def z15:Fn:=Fn.mkN 3 4 (.seq (.ifs (.op zcK [(.v 2),(.c .non)]) (.seq (.set 3 (.op pSub [(.op z05 [(.v 0),(.c (.int 2)),(.c (.int 7))]),(.c (.int 3))]))
 (.ret (.op pTup [(.op z1e [(.op pIx [(.v 2),(.c (.int 0))]),(.v 3)]),(.op z1e [(.op pIx [(.v 2),(.c (.int 1))]),(.v 3)])]))) .skip)
 (.ret (.op pTup [(.op pSub [(.op z05 [(.v 0),(.c (.int 2)),(.op pAdd [(.op z1e [(.c (.int 2)),(.v 1)]),(.c (.int 1))])]),(.v 1)]),(.op pSub [(.op z05 [(.v 0),(.c (.int 3)),(.op pAdd [(.op z1e [(.c (.int 2)),(.v 1)]),(.c (.int 1))])]),(.v 1)])])))
noncomputable def z1k:Fn:=Fn.mkN 1 10 (.seq (.set 1 (.op z1n [(.v 0),(.c (.int 0))]))
 (.seq (.ifs (.op pEq [(.op pMod [(.v 1),(.c (.int 2))]),(.c (.int 1))]) (.ret (.op z0M [(.v 0)])) .skip)
 (.seq (.set 2 (.op pIx [(.op pLst [(.c (.int 3)),(.c (.int 3)),(.c (.int 12)),(.op pPow [(.c (.int 10)),(.c (.int 9))])]),(.op z05 [(.v 1),(.c (.int 1)),(.c (.int 4))])]))
 (.seq (.set 3 (.c .non))
 (.seq (.ifs (.op pEq [(.op z05 [(.v 1),(.c (.int 4)),(.c (.int 5))]),(.c (.int 0))]) (.set 3 (.op pTup [(.op pSub [(.op z05 [(.v 1),(.c (.int 5)),(.c (.int 7))]),(.c (.int 3))]),(.op pSub [(.op z05 [(.v 1),(.c (.int 6)),(.c (.int 7))]),(.c (.int 3))])])) .skip)
 (.seq (.set 4 (.op pIx [(.op pLst [(.c (.int 3)),(.c (.int 3)),(.c (.int 5)),(.c (.int 12))]),(.op z05 [(.v 1),(.c (.int 8)),(.c (.int 4))])]))
 (.seq (.own 5 (.op pLst []))
 (.seq (.set 6 (.c (.int 1)))
 (.seq (.wh (.and (.op pLt [(.v 6),(.op zbI [(.op pLen [(.v 0)]),(.c (.int 61))])]) (.op pLt [(.op pLen [(.v 5)]),(.c (.int 12))])) (.seq (.set 7 (.op pAdd [(.c (.int 1)),(.op z05 [(.op pIx [(.v 0),(.v 6)]),(.c (.int 7)),(.v 4)])]))
 (.seq (.own 8 (.comp 1 [2,3] (.nm 0) (.sl (.v 0) (some (.v 6)) (some (.op zbI [(.op pAdd [(.v 6),(.v 7)]),(.c (.int 61))]))) none (.op z15 [(.v 0),(.v 1),(.v 2)])))
 (.seq (.set 9 (.op pTup [(.c (.int 0)),(.c (.int 0))]))
 (.seq (.ifs (.op pEq [(.op z05 [(.op pIx [(.v 0),(.v 6)]),(.c (.int 9)),(.c (.int 2))]),(.c (.int 1))]) (.set 9 (.op z15 [(.op pAdd [(.op pIx [(.v 0),(.v 6)]),(.c (.int 1))]),(.v 2),(.v 3)])) .skip)
 (.seq (.app 5 (.op pTup [(.op z4B [(.v 8)]),(.v 9)]))
 (.set 6 (.op pAdd [(.v 6),(.v 7)]))))))))
 (.ret (.op z4B [(.v 5)])))))))))))
end Pu
namespace L2
open PySem PySem.Spec PyProof.Rows
noncomputable def ziQ (sp:Sp)(ta:TA)(mt:Value->Prop)(j:Nat)(ts:TS):TS:=fun D σ H=>ta σ H fun vs H1=>sp (vs++[]) H1 (fun _ H2=>D.nx σ H2) fun Cv _ H2=>mt Cv/\∃ C,Cv = .ref C/\∀ ea H3,H2 ea=none->Same H2 H3->H3 ea=some (.ext (z5z ea C))->ts (D.less j) (σ.set j (some (.ref ea))) H3
section
variable {X:Cx}{k:Nat}{ps:List Str}{sp:Sp}{x g cx n:Str}{e:Expr}{es:List Expr}{ta:TA}{C2:Addr}{b0:Stmt}{suite:List Stmt}{ts:TS}{p1 p2 p3 p4 p5 p6 pos:Pos}{j:Nat}
theorem zfl {pins:List (Addr × Obj)}{σ:St}{H1:Hp}{s1 s':Shared}{ev:Value}{D:Ends}{Q:Flow->Shared->Prop}{E':Value->Shared->Prop}(I1:Inv X pins σ H1 s1)(hst:X.stack=X.env::X.outer/\X.env.frame=some X.env.locals)
  (hN:X.N.Nodup) (hi:X.N[j]? = some n) (hk:X.env.scope.names.lookup n=some .local)
  (T:Exc X.K X.mg cx C2) (hgc:Gl X cx) (hs:∀ ea,QSs (X.suite ea) (b0::suite) ts) (hx:CXe X.prog X.w X.stack H1 s1 (fun Cv _ H2=>PySem.W.exmOne X.K Cv (.ref C2)=some true/\∃ C,Cv = .ref C/\∀ ea H3,H2 ea=none->Same H2 H3->H3 ea=some (.ext (z5z ea C))->ts (D.less j) (σ.set j (some (.ref ea))) H3) ev s')
  (hQ:∀ f s2,SP X pins D f s2->Q f s2) (hdb:(cx == ("__debug__":Str))=false):
  wpAny (model X.prog X.w) X.A (noteFrame ev X.env) (fun _ s2=>wpAny (model X.prog X.w) X.A (setFlight ev none) (fun _ s3=>wpAny (model X.prog X.w) X.A (handleBy ev X.env (.ExceptHandler (some (.Name cx p5)) (some n) (b0::suite) p6::[])) Q E' s3) E' s2) E' s':=by
 obtain⟨ea,t,Cv,H2,B,rfl,F,hb,ho,hm,C,rfl,q⟩:=hx
 have F':=F.fl
 rw[hst.1] at F'
 refine wpAny_looks_onW (by rw[I1.ok.frames,hst.1]) hst.2 F' fun h4 held4 sm4 => ?_
 refine wpAny_landsW held4 fun h5 fl5 sm5 => ?_
 obtain⟨un5,hok5⟩:=F.on fl5.1 (sm4.trans sm5)
 have I5:Inv X pins σ H2 { s' with heap:=h5 }:=I1.call' (s':={ s' with heap:=h5 }) ho un5 hok5 hb (fun b z=>by simp at z)
 refine wpAny_handleBy_cons (codeAny_handlers_test ?_) (by intro z; cases z)
 refine z8c (X:=X.suite ea) I5.suite hgc T.nm ?_ hdb
 obtain⟨ob,hob,hobc⟩:=fl5.there
 have LT:PySem.W.Looks (model X.prog X.w) h5 (typeOf (.ref ea)) (.ref C):=by
  rw[<- hobc]
  exact(PySem.W.Looks.ld hob).andThen .now
 refine(PySem.W.exm_one I5.kIn LT hm) _ _ _ _ (fun _ _ z=>z) ?_
 show codeAny _ _ _ _ _
 refine codeAny_handlers_suite_as ?_
 refine lands_againW fl5 fun h6 fl6 sm6 => ?_
 have F5:Fly X.prog X.w X.stack H1 s1.heap (.ref C) H2 ea t B h5:=⟨hst.1 ▸ fl5,un5,hok5,F.trk,F.kep⟩
 obtain⟨un6,hok6⟩:=F5.on fl6.1 sm6
 obtain⟨oe,ws,hoe,hoec,hoed,_⟩:=fl6.first
 have hxe:z5z ea C h6:=⟨oe,hoe,hoec,ws,hoed⟩
 have I6:Inv X pins σ (upd H2 ea (.ext (z5z ea C))) { s' with heap:=h6 }:=I1.call' (s':={ s' with heap:=h6 }) ho (zfi un6 F.out F.free) (zeo hok6 F.free hxe) hb (fun b z=>by simp at z)
 refine z9s (X:=X.suite ea) I6.suite hN hi (.inl hk) (v :=.ref ea) rfl (fun s7 I7 => ?_) (.inr hk)
 refine wpAny_mono ((hs ea).p pins _ _ _ (D.less j) I7 (q ea _ F.free (zdJ F.free) z0U)) (fun f s8 z => ?_) fun _ _ z=>z.elim
 have z:=z.unsuite I1.ok
 show wpAny _ _ _ (fun _ s3=>Q f s3) E' s8
 cases f with
 | next=>obtain⟨σ',H',I,q⟩:=z; exact z9M I hN hi hk fun s9 I9=>hQ _ _ ⟨_,_,I9,q⟩
 | brk=>obtain⟨σ',H',I,q⟩:=z; exact z9M I hN hi hk fun s9 I9=>hQ _ _ ⟨_,_,I9,q⟩
 | cont=>obtain⟨σ',H',I,q⟩:=z; exact z9M I hN hi hk fun s9 I9=>hQ _ _ ⟨_,_,I9,q⟩
 | ret u=>obtain⟨v,σ',H',I,r,q⟩:=z; exact z9M I hN hi hk fun s9 I9=>hQ _ _ ⟨_,_,_,I9,r,q⟩
theorem zfJ (hst:X.stack=X.env::X.outer/\X.env.frame=some X.env.locals)(C:Cal X.prog X.w X.K X.mg X.base (CXe X.prog X.w) k g ps sp)(hr:Room k X.A)(ha:∀ pins xe,QA (X.within pins xe) (e::es) ta)(hg:Gl X g)(hdg:(g == ("__debug__":Str))=false)
  (hN:X.N.Nodup) (hi:X.N[j]? = some n) (hk':X.env.scope.names.lookup n=some .local) (T:Exc X.K X.mg cx C2) (hgc:Gl X cx) (hdc:(cx == ("__debug__":Str))=false) (hs:∀ ea,QSs (X.suite ea) (b0::suite) ts)
  (he:starEach (e::es) X.env=(false,eval e X.env)::starEach es X.env:=by rfl) (hpl:(backTo p3 (starEach es X.env)).any (·.1)=false:=by rfl)
  (hsw:swapsWith (.Call (.Name g p2) (e::es) [] p3) none p4.line X.env=pure false:=by rfl):
  QS X (.Try [.Expr (.Call (.Name g p2) (e::es) [] p3) p4] [.ExceptHandler (some (.Name cx p5)) (some n) (b0::suite) p6] [] [] pos) (ziQ sp ta (fun Cv=>PySem.W.exmOne X.K Cv (.ref C2)=some true) j ts):=by
 constructor
 intro pins s σ H D I h
 obtain⟨f,fd,F,hm,hk,hb⟩:=C.ex
 refine wpAny_Try_except ?_
 generalize hxe:(fun(e:Value) (s1:Shared)=>wpAny (model X.prog X.w) X.A (noteFrame e X.env) (fun _ s2=>wpAny (model X.prog X.w) X.A (setFlight e none) (fun _ s3=>wpAny (model X.prog X.w) X.A (handleBy e X.env [.ExceptHandler (some (.Name cx p5)) (some n) (b0::suite) p6]) (SP X pins D) X.xe s3) X.xe s2) X.xe s1)=xe
 have call:PE (X.within pins xe) (.Call (.Name g p2) (e::es) [] p3) (fun σ' H' Q=>σ'=σ/\ta σ' H' fun vs H1=>sp (vs++[]) H1 Q fun Cv _ H2=>PySem.W.exmOne X.K Cv (.ref C2)=some true/\∃ C,Cv = .ref C/\∀ ea H3,H2 ea=none->Same H2 H3->H3 ea=some (.ext (z5z ea C))->ts (D.less j) (σ.set j (some (.ref ea))) H3):=by
  intro pins' s' σ' H' Q' I' h'
  obtain⟨rfl,h'⟩:=h'
  refine wpAny_Call_Name_kw (z8c I' hg hm ?_ hdg)
  refine PySem.W.callWith_K (h₀:=X.base) I'.ok.mod.kin hk (thn ((ha pins xe).p p3 pins' s' σ' H' _ I' h') fun us s1 ⟨vs,H1,I1,r,q⟩=>⟨I1.kIn,?_⟩) he hpl
  have r2:Vals (vs++[]) (us++[]):=r.append .nil
  have hl:(us++[]).length=ps.length:=by rw[<- r2.length]; exact F.len _ _ _ _ q
  refine wpAny_call (codeAny_mono (F.run X.A X.stack s1 H1 ⟨us,[]⟩ (us++[]) (vs++[]) Q' _ hr I1.env0 (hb s1 us I1.kIn hl) r2 q) fun rr s2 hq => ?_)
  cases rr with
  | ok fl=>
   cases fl with
   | ret u=>exact I1.after hq
   | next=>exact False.elim hq
   | brk=>exact False.elim hq
   | cont=>exact False.elim hq
  | error ev=>
   show xe ev s2
   rw[<- hxe]
   exact zfl (I1.out I.ok) hst hN hi hk' T hgc hs hq (fun _ _ z=>z) hdc
 have body:=zcz (zcA (X:=X.within pins xe) (pos:=p4) call hsw)
 refine wpAny_mono (body [] s σ H { D with nx:=D.nx } I.within ⟨rfl,h⟩) (fun fl s2 z => ?_) fun ev s2 z => ?_
 ·have z':=SP.out I.ok z
  cases fl with
  | next=>exact wpAny_execs_nil z'
  | brk=>exact z'
  | cont=>exact z'
  | ret u=>exact z'
 ·exact z
end
end L2
namespace Pu
open PySem PySem.Spec PyProof.Rows L2
noncomputable def XT (mg:Str->Option Value)(xs:List Str)(P:Str->Addr->Prop):Prop:=∀ x C,x∈xs->mg x=some (.ref C)->P x C
theorem z7W {mg:Str->Option Value}{P:Str->Addr->Prop}:XT mg [] P:=fun _ _ h=>by cases h
theorem z2z {mg:Str->Option Value}{P:Str->Addr->Prop}{x:Str}{C:Addr}{xs:List Str}(h:mg x=some (.ref C))(p:P x C)(r:XT mg xs P):XT mg (x::xs) P:=fun y C' hy e=>by
 rcases List.mem_cons.mp hy with z | z
 ·subst z
  rw[h] at e
  cases e
  exact p
 ·exact r y C' z e
section
variable {K:W.Frag}{mg:Str->Option Value}{H0 G0 G H:Hp}{ρ:Pu.Env}{σ:L2.St}
theorem AbS.del (h:AbS K mg H0 G0 G ρ σ H)(i:Nat):AbS K mg H0 G0 G (ρ.set i .n) (σ.set i none) H:=by
 have old:∀ {k:Nat}{b:B},b ≠ .n->(ρ.set i .n)[k]? = some b->k≠i/\ρ[k]? = some b:=fun {k b} hb z=>by
  by_cases hk:k=i
  ·subst hk
   rcases Nat.lt_or_ge k ρ.length with l | l
   ·rw[List.getElem?_set_self l] at z; cases z; exact(hb rfl).elim
   ·rw[List.getElem?_eq_none (by simpa using l)] at z; cases z
  ·rw[List.getElem?_set_ne (Ne.symm hk)] at z; exact⟨hk,z⟩
 refine⟨by simp[h.len],h.s0,h.g0,h.g,h.nw,fun k e z => ?_,fun k e z => ?_,fun k l e e' b hkl z z' s s' => ?_⟩
 ·obtain⟨hk,z⟩:=old (by intro y; cases y) z
  obtain⟨v,h1,h2⟩:=h.sh k e z
  exact⟨v,by rw[List.getElem?_set_ne (Ne.symm hk)]; exact h1,h2⟩
 ·obtain⟨hk,z⟩:=old (by intro y; cases y) z
  obtain⟨a,h1,h2⟩:=h.ow k e z
  exact⟨a,by rw[List.getElem?_set_ne (Ne.symm hk)]; exact h1,h2⟩
 ·obtain⟨hk,z⟩:=old (by intro y; cases y) z
  obtain⟨hl,z'⟩:=old (by intro y; cases y) z'
  rw[List.getElem?_set_ne (Ne.symm hk)] at s
  rw[List.getElem?_set_ne (Ne.symm hl)] at s'
  exact h.ne k l e e' b hkl z z' s s'
end
section
variable {X:Cx}{E:XK}{k:Nat}{ps:List Str}{F:Fn}{g cx n:Str}{e:Expr}{es:List Expr}{ys:List Ex}{C2:Addr}{b0:Stmt}{suite:List Stmt}{t:Sm}{p2 p3 p4 p5 p6 pos:Pos}{j:Nat}{xs:List Str}
theorem zh3 (hst:X.stack=X.env::X.outer/\X.env.frame=some X.env.locals)(C:Cal X.prog X.w X.K X.mg X.base (CXe X.prog X.w) k g ps (spP X.K X.mg F))(hr:Room k X.A)(ha:∀ pins xe,QXA (X.within pins xe) E (e::es) ys)(hg:Gl X g)(hdg:(g == ("__debug__":Str))=false)
  (hN:X.N.Nodup) (hi:X.N[j]? = some n) (hk':X.env.scope.names.lookup n=some .local) (T:Exc X.K X.mg cx C2) (hgc:Gl X cx) (hdc:(cx == ("__debug__":Str))=false) (hm:XT X.mg xs fun _ C=>PySem.W.exmOne X.K (.ref C) (.ref C2)=some true) (hs:∀ ea,QZs (X.suite ea) E (b0::suite) t)
  (he:starEach (e::es) X.env=(false,eval e X.env)::starEach es X.env:=by rfl) (hpl:(backTo p3 (starEach es X.env)).any (·.1)=false:=by rfl)
  (hsw:swapsWith (.Call (.Name g p2) (e::es) [] p3) none p4.line X.env=pure false:=by rfl):
  QZ X E (.Try [.Expr (.Call (.Name g p2) (e::es) [] p3) p4] [.ExceptHandler (some (.Name cx p5)) (some n) (b0::suite) p6] [] [] pos) (.tryc none F ys (fun x=>decide (x∈xs)) (some j) t):=
 QS.imp (zfJ (ta:=txa X.K X.mg E ys) (ts:=Pu.ts X.K X.mg E t) hst C hr ha hg hdg hN hi hk' T hgc hdc hs he hpl hsw) fun D σ H ⟨H0,G0,G,ρ,N0,R0,X0,ab,hr,hn,hR,hx⟩=>by
  show txa X.K X.mg E ys σ H _
  refine⟨plus G H (z29 ρ σ),ρ,_,X0,z4N ab.g,ab.abe,hr,fun ds vs G1 H1 q g1 g2 g3 rds => ?_,hx.same ab.s0⟩
  have ab1:=ab.back g1 g2 g3
  refine⟨G1,ds,_,_,g2,by rw[List.append_nil]; exact rds,q,fun d v G2 H2 q2 k1 k2 k3 rd => ?_,fun x C H2 q2 mC k3 => ?_⟩
  ·have g13:Gr (plus G H (z29 ρ σ)) H G2:=g1.trans g3 k1
   obtain⟨ab2,l2⟩:=ab.back g13 k2 (z0f g3 k3)
   exact hn ρ σ H2 _ q2 ab2 l2
  ·have hx1:x∈xs:=of_decide_eq_true q2.1
   refine⟨hm x C hx1 mC,C,rfl,fun ea H3 h0 h3 e3 => ?_⟩
   have a2:AbS X.K X.mg H0 G0 (minus G1 (z29 ρ σ)) ρ σ H3:=by
    have:=ab.back g1 (z0f g2 (z0f k3 h3)) (z0f g3 (z0f k3 h3))
    exact this.1
   have n1:H1 ea=none:=by
    cases z:H1 ea with
    | none=>rfl
    | some u=>rw[k3 ea u z] at h0; cases h0
   have n0:H0 ea=none:=by
    cases z:H0 ea with
    | none=>rfl
    | some u=>rw[g3 ea u (ab.s0 ea u z)] at n1; cases n1
   have nG:minus G1 (z29 ρ σ) ea=none:=by
    cases z:minus G1 (z29 ρ σ) ea with
    | none=>rfl
    | some u=>rw[g2 ea u (z3p ea u z)] at n1; cases n1
   have a3:AbS X.K X.mg H0 G0 (upd (minus G1 (z29 ρ σ)) ea (.ext (z5z ea C))) (ρ.set j (.s (.exc x))) (σ.set j (some (.ref ea))) H3:=by
    refine a2.put (fun a o z => ?_) (z1p nG _) (fun a o z => ?_) Same.refl' (fun i d' a hj q1 q2 => ?_) ?_
    ·by_cases ha:a=ea
     ·subst ha; exact .inr n0
     ·rw[z0q ha] at z; exact a2.nw a o z
    ·by_cases ha:a=ea
     ·subst ha; rw[z0U] at z; rw[e3]; exact z
     ·rw[z0q ha] at z; exact a2.g a o z
    ·have hf:=a2.free a ⟨i,d',q1,q2⟩
     by_cases ha:a=ea
     ·obtain⟨b,z1,z2,z3,z4⟩:=a2.ow i d' q1
      rw[q2] at z1; cases z1
      subst ha
      obtain⟨b,z1,z2,z3,z4⟩:=ab.ow i d' q1
      rw[q2] at z1; cases z1
      obtain⟨u,hu⟩:=z4.some
      rw[g3 _ u hu] at n1; cases n1
     ·rw[z0q ha]; exact hf
    ·rw[RD]; exact⟨ea,C,rfl,z0U,mC⟩
   refine⟨H0,G0,_,_,_,R0,X0,a3,q2.2,fun ρ' σ' H' G' y ab' l' => ?_,hR,hx⟩
   exact hn _ _ H' G' y (ab'.del j) (z0f ab1.2 (z0f (z1p nG _) l'))
noncomputable def gIsx (xs:List Str)(f:Str->Bool)(d:D)(Q:DK):Prop:=match d with
 | .exc x=>x∈xs/\Q (.bl (f x))
 | _=>False
theorem zda {xs:List Str}{f:Str->Bool}(d:D)(Q Q':DK)(m:∀ d,Q d->Q' d)(h:gIsx xs f d Q):gIsx xs f d Q':=by
 cases d with
 | exc x=>exact⟨h.1,m _ h.2⟩
 | _=>exact h.elim
noncomputable def pIsx (xs:List Str)(f:Str->Bool):Fn:=fn1 (gIsx xs f) zda
theorem zd9 {xs:List Str}{f:Str->Bool}{d:D}{Q:DK}(h:gIsx xs f d Q):∃ x,d = .exc x/\x∈xs/\Q (.bl (f x)):=by
 cases d with
 | exc x=>exact⟨x,rfl,h⟩
 | _=>exact h.elim
noncomputable def clsV (K:W.Frag)(C:Addr)(b:Bool)(y:V)(H:Hp):Prop:=(∃ C2,y = .ref C2/\PySem.W.kitOne K (.ref C) (.ref C2)=some b)\/(∃ T,y = .ty T/\PySem.W.kitOne K (.ref C) (.type T)=some b)\/(∃ (tp:Addr) (cs:List Addr),y = .ref tp/\SqT K H tp (cs.map V.ref)/\PySem.W.kitAny K (.ref C) (cs.map Value.ref)=some b)
theorem zct {f:Str->Bool}{t:Expr}{x:Ex}{tc:TE}{pp:Pos}(hg:Gl X "isinstance")(hmg:X.mg "isinstance"=none)(hx:QX X E e x)(ht:QE X t tc)
  (h:∀ σ H Q,(∀ y H',Same H H'->(XT X.mg xs fun z C=>clsV X.K C (f z) y H')->Q y H')->tc σ H Q) (hl:XT X.mg xs fun _ C=>z2P X.K C=true)
  (hs1:starEach [e,t] X.env=(false,eval e X.env)::starEach [t] X.env:=by rfl) (hs2:starEach [t] X.env=(false,eval t X.env)::starEach [] X.env:=by rfl) (hpl:(backTo pos (starEach [t] X.env)).any (·.1)=false:=by rfl)
  (hv:bootBuiltins "isinstance"=some (.builtin "isinstance"):=by rfl) (hn:("isinstance":Str)≠"__name__":=by decide) (hdb:(("isinstance":Str) == ("__debug__":Str))=false:=by decide):QX X E (.Call (.Name "isinstance" pp) [e,t] [] pos) (.op (pIsx xs f) [x]):=
 QE.imp (z9w zds hg hmg hv (z5G hx (z5G ht z9e hs2) hs1) hn hdb hs1 hpl) fun σ H Q ⟨G,ρ,Q0,X0,hs,ab,hr,hk,hx⟩=>by
  refine⟨G,ρ,_,X0,hs,ab,hr,fun d v G1 H1 q g1 g2 g3 rd => ?_,hx⟩
  obtain⟨z,rfl,hz,q⟩:=zd9 q
  rw[RD] at rd
  obtain⟨ea,C,rfl,h1,h2⟩:=rd
  refine h σ H1 _ fun y H' s' hc => ?_
  refine⟨ea,C,y,f z,rfl,s' _ _ (g2 _ _ h1),hl z C hz h2,hc z C hz h2,?_⟩
  exact hk (.bl (f z)) (.bl (f z)) G1 H' q g1 (z0f g2 s') (z0f g3 s') RD.bl'
theorem zfE {f:Str->Bool}{c:Str}{C2:Addr}{x:Ex}{pp p1:Pos}(hg:Gl X "isinstance")(hmg:X.mg "isinstance"=none)(hx:QX X E e x)(hgc:Gl X c)(T:Exc X.K X.mg c C2)(hd:(c == ("__debug__":Str))=false)(hl:XT X.mg xs fun _ C=>z2P X.K C=true)(hc:XT X.mg xs fun z C=>PySem.W.kitOne X.K (.ref C) (.ref C2)=some (f z))
  (hs1:starEach [e,.Name c p1] X.env=(false,eval e X.env)::starEach [.Name c p1] X.env:=by rfl) (hs2:starEach [.Name c p1] X.env=(false,eval (.Name c p1) X.env)::starEach [] X.env:=by rfl) (hpl:(backTo pos (starEach [.Name c p1] X.env)).any (·.1)=false:=by rfl):
  QX X E (.Call (.Name "isinstance" pp) [e,.Name c p1] [] pos) (.op (pIsx xs f) [x]):=
 zct hg hmg hx (zcy (v :=.ref C2) hgc T.nm rfl hd) (fun σ H Q q=>q (.ref C2) H Same.refl' fun z C hz e =>.inl ⟨C2,rfl,hc z C hz e⟩) hl hs1 hs2 hpl
theorem zfC {f:Str->Bool}{c:Str}{T:String}{x:Ex}{pp p1:Pos}(hg:Gl X "isinstance")(hmg:X.mg "isinstance"=none)(hx:QX X E e x)(ht:QE X (.Name c p1) (tC (.ty T)))(hl:XT X.mg xs fun _ C=>z2P X.K C=true)(hc:XT X.mg xs fun z C=>PySem.W.kitOne X.K (.ref C) (.type T)=some (f z))
  (hs1:starEach [e,.Name c p1] X.env=(false,eval e X.env)::starEach [.Name c p1] X.env:=by rfl) (hs2:starEach [.Name c p1] X.env=(false,eval (.Name c p1) X.env)::starEach [] X.env:=by rfl) (hpl:(backTo pos (starEach [.Name c p1] X.env)).any (·.1)=false:=by rfl):
  QX X E (.Call (.Name "isinstance" pp) [e,.Name c p1] [] pos) (.op (pIsx xs f) [x]):=
 zct hg hmg hx ht (fun σ H Q q=>q (.ty T) H Same.refl' fun z C hz e =>.inr (.inl ⟨T,rfl,hc z C hz e⟩)) hl hs1 hs2 hpl
noncomputable def zdF (cs:List Addr):TA:=fun _ H Q=>Q (cs.map V.ref) H
theorem zfO:QA X [] (zdF []):=QA.imp z9e fun _ _ _ q=>q
theorem z6I {c:Str}{C2:Addr}{cs:List Addr}{es:List Expr}{p1:Pos}(hgc:Gl X c)(T:Exc X.K X.mg c C2)(hd:(c == ("__debug__":Str))=false)(r:QA X es (zdF cs))(hs:starEach (.Name c p1::es) X.env=(false,eval (.Name c p1) X.env)::starEach es X.env:=by rfl):QA X (.Name c p1::es) (zdF (C2::cs)):=
 QA.imp (z5G (zcy (v :=.ref C2) hgc T.nm rfl hd) r hs) fun _ _ _ q=>q
theorem zfD {f:Str->Bool}{cs:List Addr}{tes:List Expr}{x:Ex}{pp p1:Pos}{x1}(hg:Gl X "isinstance")(hmg:X.mg "isinstance"=none)(hx:QX X E e x)(ht:QA X tes (zdF cs))(hz:cs.length<=sizeLine)(hl:XT X.mg xs fun _ C=>z2P X.K C=true)(hc:XT X.mg xs fun z C=>PySem.W.kitAny X.K (.ref C) (cs.map Value.ref)=some (f z))
  (hs1:starEach [e,.Tuple tes x1 p1] X.env=(false,eval e X.env)::starEach [.Tuple tes x1 p1] X.env:=by rfl) (hs2:starEach [.Tuple tes x1 p1] X.env=(false,eval (.Tuple tes x1 p1) X.env)::starEach [] X.env:=by rfl) (hpl:(backTo pos (starEach [.Tuple tes x1 p1] X.env)).any (·.1)=false:=by rfl):
  QX X E (.Call (.Name "isinstance" pp) [e,.Tuple tes x1 p1] [] pos) (.op (pIsx xs f) [x]):=
 zct hg hmg hx (zfM ht) (fun σ H Q q=>by
  refine⟨by rw[List.length_map]; exact hz,fun p H' s' e'=>q _ _ s' fun z C hz e =>.inr (.inr ⟨p,cs,rfl,SqT.of e',hc z C hz e⟩)⟩) hl hs1 hs2 hpl
theorem zfB {i:Nat}{x:Str}{y:Ex}{p1:Pos}(hN:X.N.Nodup)(hi:X.N[i]? = some x)(hx:Loc X.env.scope x)(he:QX X E e y)(hs:swapsWith e (some (.Name x p1)) pos.line X.env=pure false:=by rfl)(hf:X.fn x=true\/X.env.scope.names.lookup x=some .local:=by first | exact .inl rfl | exact .inr rfl):QZ X E (.Assign [.Name x p1] e pos) (.set i y):=
 z08 (zh9 hN hi hx he hs hf)
end
end Pu
namespace Pu
open PySem PySem.Spec PyProof.Rows L2
end Pu
namespace Zp
open PySem PySem.Spec PyProof.Rows L2
section
variable {prog:Program}{w:World}{A:Around}{E:Value->Shared->Prop}{s:Shared}
theorem nx {j t:Addr}{n:Nat}{xs:Array Value}{x:Value}{Q:Value->Shared->Prop}(it:s.heap.IsTupleIter j t n)(tu:s.heap.IsTuple t xs)(e:xs[n]? = some x)
  (q:∀ h',h'.IsTupleIter j t (n+1)->Heap.SameBut j s.heap h'->Q x { s with heap:=h' }):wpAny (model prog w) A (Builtin.SmallTypes.nextOf (.ref j)) Q E s:=by
 obtain⟨ob,g,gc,gd⟩:=id it
 obtain⟨ot,gt,_,nt,gdt⟩:=tu
 delta Builtin.SmallTypes.nextOf
 refine wpAny_bind (wpAny_callSpecial?_slot (name:=Str.ofString "__next__") it.typeIs F.slot_tuple_iterator_next (wpAny_call_entry F.slot_tuple_iterator_next it.typeIs F.entry_tuple_iterator_next ?_ (F.args_tuple_iterator_next_1 _)))
 show wpAny _ _ (PySem.field (.ref j) 0 >>= _) _ _ s
 refine wpAny_bind (wpAny_field g gd (x :=.ref t) rfl ?_)
 show wpAny _ _ (if (Value.ref t == Value.none)=true then _ else (PySem.field (.ref j) 1 >>= _)) _ _ s
 rw[if_neg (show ¬ (Value.ref t == Value.none)=true from Bool.false_ne_true)]
 refine wpAny_bind (wpAny_field g gd (x :=.int n 0) rfl ?_)
 show wpAny _ _ (seqItems? (.ref t) >>= fun _=>_) _ _ s
 refine wpAny_bind (wpAny_seqItems gt gdt ?_)
 simp only[Int.toNat_natCast,e]
 refine wpAny_bind (wpAny_setField g gd (by simp) (wpAny_pure ⟨x,rfl,wpAny_pure (q _ ⟨_,Heap.get?_update_self _ g (Obj.isFreed_of_fields (Obj.data_mapFields gd _)),(Obj.cls_mapFields ..).trans gc,by rw[Obj.data_mapFields gd]; simp[rawInt]⟩ (Heap.SameBut.update ..))⟩))
theorem nxE {j t:Addr}{n:Nat}{xs:Array Value}{Q:Value->Shared->Prop}(hh:A.handled=none)(it:s.heap.IsTupleIter j t n)(tu:s.heap.IsTuple t xs)(e:xs[n]? = none)
  (q:∀ h' z,Heap.ExtBut j s.heap h'->(∃ o,h'.get? z=some o/\o.cls = .type "StopIteration")->E (.ref z) { s with heap:=h' }):wpAny (model prog w) A (Builtin.SmallTypes.nextOf (.ref j)) Q E s:=by
 obtain⟨ob,g,gc,gd⟩:=id it
 obtain⟨ot,gt,_,nt,gdt⟩:=tu
 delta Builtin.SmallTypes.nextOf
 refine wpAny_bind (wpAny_callSpecial?_slot (name:=Str.ofString "__next__") it.typeIs F.slot_tuple_iterator_next (wpAny_call_entry F.slot_tuple_iterator_next it.typeIs F.entry_tuple_iterator_next ?_ (F.args_tuple_iterator_next_1 _)))
 show wpAny _ _ (PySem.field (.ref j) 0 >>= _) _ _ s
 refine wpAny_bind (wpAny_field g gd (x :=.ref t) rfl ?_)
 show wpAny _ _ (if (Value.ref t == Value.none)=true then _ else (PySem.field (.ref j) 1 >>= _)) _ _ s
 rw[if_neg (show ¬ (Value.ref t == Value.none)=true from Bool.false_ne_true)]
 refine wpAny_bind (wpAny_field g gd (x :=.int n 0) rfl ?_)
 show wpAny _ _ (seqItems? (.ref t) >>= fun _=>_) _ _ s
 refine wpAny_bind (wpAny_seqItems gt gdt ?_)
 simp only[Int.toNat_natCast,e]
 refine wpAny_bind (wpAny_rule (wpAny_bind (wpAny_setField g gd (by simp) (show wpAny _ _ (newExc (.type "StopIteration") [] >>= fun _=>_) _ _ _ from wpAny_bind ?_))))
 simp only[newExc,newTuple]
 refine wpAny_bind (wpAny_newObj_type (wpAny_bind (m:=firstArgMember _ _) (wpAny_of_eq (a:=Value.none) (by first | rfl | (simp only[firstArgMember]; rfl)) (wpAny_newObj_type ?_ (by size_fits)))) (by size_fits))
 simp only[raiseNew]
 refine wpAny_bind (wpAny_handled ?_)
 first | rw[show A.in1.handled=none from hh] | rw[hh]
 exact wpAny_bind (wpAny_pure (wpAny_throw (q _ _ (((Heap.SameBut.update ..).extBut.push _).push _) ⟨_,Heap.get?_push_size _ rfl,rfl⟩)))
structure St (h:Heap)(z TI TO i1 i2 t1 t2:Addr)(f:Value)(n:Nat):Prop where
 z:IsZip h z TI TO f
 ti:IsPair h TI (.ref i1) (.ref i2)
 to:∃ a b,IsPair h TO a b
 a:h.IsTupleIter i1 t1 n
 b:h.IsTupleIter i2 t2 n
theorem tat {h h':Heap}{t:Addr}{xs:Array Value}(x:h.IsTuple t xs)(k:∀ o,h.get? t=some o->h'.get? t=some o):h'.IsTuple t xs:=by
 obtain⟨o,e,r⟩:=x
 exact⟨o,k o e,r⟩
variable {z TI TO i1 i2 t1 t2:Addr}{n:Nat}{xs ys:Array Value}{x y:Value}
theorem item {Q:Option Value->Shared->Prop}(D:ZipApart z TI TO i1 i2 t1 t2)(S:St s.heap z TI TO i1 i2 t1 t2 .none n)(hx:s.heap.IsTuple t1 xs)(hy:s.heap.IsTuple t2 ys)(ex:xs[n]? = some x)(ey:ys[n]? = some y)
  (q:∀ h',St h' z TI TO i1 i2 t1 t2 (rawInt s.heap.objs.size) (n+1)->IsPair h' s.heap.objs.size x y->h'.objs.size=s.heap.objs.size+1->(∀ c o,c≠z->c≠TO->c≠i1->c≠i2->s.heap.get? c=some o->h'.get? c=some o)->Q (some (.ref s.heap.objs.size)) { s with heap:=h' }):
  wpAny (model prog w) A (pyNext (.ref z)) Q E s:=by
 obtain⟨sz,sti,⟨pa,pb,sto⟩,sa,sb⟩:=S
 have ty:s.TypeIs (.ref z) "zip":=⟨_,sz,rfl⟩
 delta pyNext
 refine wpAny_bind (wpAny_attempt (wpAny_callSpecial?_slot (name:=Str.ofString "__next__") ty F.slot_zip_next (wpAny_call_entry F.slot_zip_next ty F.entry_zip_next ?_ (F.args_zip_next_1 _))))
 show wpAny _ _ (PySem.field (.ref z) 2 >>= fun _=>_) _ _ _
 refine wpAny_bind (wpAny_field sz rfl (x :=.bool false) rfl (show wpAny _ _ (PySem.field (.ref z) 3 >>= fun _=>_) _ _ _ from wpAny_bind (wpAny_field sz rfl (x :=.ref TI) rfl (wpAny_bind (wpAny_seqItems sti rfl ?_)))))
 show wpAny _ _ (Builtin.SmallTypes.ownedTupleIsFree (.ref z) >>= fun _=>_) _ _ _
 refine wpAny_bind ?_
 delta Builtin.SmallTypes.ownedTupleIsFree
 refine wpAny_bind (wpAny_field sz rfl (x:=Value.none) rfl (wpAny_pure ?_))
 simp only[if_true]
 refine wpAny_bind (wpAny_rule (wpAny_bind (wpAny_field sz rfl (x:=Value.ref TO) rfl (wpAny_bind (wpAny_setField_rec sz (by simp) fun g1 z1 k1 => ?_)))))
 replace z1:IsZip g1 z TI TO .ellipsis:=z1
 refine wpAny_bind ?_
 simp only[List.zipIdx_cons,List.zipIdx_nil,List.forIn_cons,List.forIn_nil]
 refine wpAny_bind (wpAny_bind (wpAny_onRaise (show wpAny _ _ (Builtin.SmallTypes.nextOf (.ref i1) >>= fun _=>_) _ _ _ from wpAny_bind (nx (sa.extBut k1.extBut D.i1z) (tat hx fun o e=>k1.extBut _ _ D.l1z e) ex fun g2 a2 k2=>wpAny_pure ?_))))
 have o2:IsPair g2 TO pa pb:=k2.extBut _ _ D.TOi1 (k1.extBut _ _ D.TOz sto)
 refine wpAny_bind (wpAny_seqItems o2 rfl (wpAny_bind (wpAny_updateSeq_pair o2 fun g3 o3 k3 => ?_)))
 replace o3:IsPair g3 TO x pb:=o3
 refine wpAny_bind (wpAny_letGo (wpAny_pure ?_))
 refine wpAny_bind (wpAny_bind (wpAny_onRaise (show wpAny _ _ (Builtin.SmallTypes.nextOf (.ref i2) >>= fun _=>_) _ _ _ from wpAny_bind (nx (((sb.extBut k1.extBut D.i2z).extBut k2.extBut D.i12.symm).extBut k3.extBut D.TOi2.symm)
  (tat hy fun o e=>k3.extBut _ _ D.l2TO (k2.extBut _ _ D.l2i1 (k1.extBut _ _ D.l2z e))) ey fun g4 b4 k4=>wpAny_pure ?_))))
 have o4:IsPair g4 TO x pb:=k4.extBut _ _ D.TOi2 o3
 refine wpAny_bind (wpAny_seqItems o4 rfl (wpAny_bind (wpAny_updateSeq_pair o4 fun g5 o5 k5 => ?_)))
 replace o5:IsPair g5 TO x y:=o5
 refine wpAny_bind (wpAny_letGo (wpAny_pure (wpAny_pure (wpAny_bind (wpAny_seqItems o5 rfl (wpAny_bind (wpAny_newTuple ?_)))))))
 have sze:g5.objs.size=s.heap.objs.size:=by rw[k5.1,k4.1,k3.1,k2.1,k1.1]
 have z5:IsZip g5 z TI TO .ellipsis:=k5.extBut _ _ D.TOz.symm (k4.extBut _ _ D.i2z.symm (k3.extBut _ _ D.TOz.symm (k2.extBut _ _ D.i1z.symm z1)))
 have kk:∀ c o,c≠z->c≠TO->c≠i1->c≠i2->s.heap.get? c=some o->g5.get? c=some o:=fun c o c1 c2 c3 c4 e=>k5.extBut _ _ c2 (k4.extBut _ _ c4 (k3.extBut _ _ c2 (k2.extBut _ _ c3 (k1.extBut _ _ c1 e))))
 have a5:g5.IsTupleIter i1 t1 (n+1):=((a2.extBut k3.extBut D.TOi1.symm).extBut k4.extBut D.i12).extBut k5.extBut D.TOi1.symm
 have b5:g5.IsTupleIter i2 t2 (n+1):=b4.extBut k5.extBut D.TOi2.symm
 have zlt:z < g5.objs.size:=Heap.lt_size z5
 show wpAny _ _ (Builtin.SmallTypes.ownedTupleHandOut (.ref z) (.ref g5.objs.size) >>= fun _=>_) _ _ _
 refine wpAny_bind ?_
 delta Builtin.SmallTypes.ownedTupleHandOut
 have z6:IsZip (g5.push { cls :=.type "tuple",data :=.seq #[x,y] }) z TI TO .ellipsis:=Heap.get?_push_of_some _ z5
 refine wpAny_bind (wpAny_setField_rec z6 (by simp) fun g7 z7 k7 => ?_)
 replace z7:IsZip g7 z TI TO (rawInt g5.objs.size):=z7
 refine wpAny_setField_rec z7 (by simp) fun g8 z8 k8 => ?_
 replace z8:IsZip g8 z TI TO (rawInt g5.objs.size):=z8
 have up:∀ c o,c≠z->g5.get? c=some o->g8.get? c=some o:=fun c o c1 e=>k8.extBut _ _ c1 (k7.extBut _ _ c1 (Heap.get?_push_of_some _ e))
 have tp:IsPair g8 g5.objs.size x y:=k8.extBut _ _ (Nat.ne_of_gt zlt) (k7.extBut _ _ (Nat.ne_of_gt zlt) (Heap.get?_push_size _ rfl))
 have s8:g8.objs.size=g5.objs.size+1:=by rw[k8.1,k7.1,Heap.size_push]
 rw[sze] at z8 tp s8
 refine wpAny_pure ⟨_,rfl,wpAny_pure ?_⟩
 show Q (some (.ref g5.objs.size)) _
 rw[sze]
 exact q g8 ⟨z8,up _ _ D.TIz (kk _ _ D.TIz D.TITO D.TIi1 D.TIi2 sti),⟨_,_,up _ _ D.TOz o5⟩,a5.at fun o e=>up _ o D.i1z e,b5.at fun o e=>up _ o D.i2z e⟩ tp s8 fun c o c1 c2 c3 c4 e=>up c o c1 (kk c o c1 c2 c3 c4 e)
theorem fin {Q:Option Value->Shared->Prop}(hh:A.handled=none)(D:ZipApart z TI TO i1 i2 t1 t2)(S:St s.heap z TI TO i1 i2 t1 t2 .none n)(hx:s.heap.IsTuple t1 xs)(hy:s.heap.IsTuple t2 ys)(e:xs[n]? = none\/ys[n]? = none)
  (q:∀ h',(∀ c o,c≠z->c≠TO->c≠i1->c≠i2->s.heap.get? c=some o->h'.get? c=some o)->Q none { s with heap:=h' }):wpAny (model prog w) A (pyNext (.ref z)) Q E s:=by
 obtain⟨sz,sti,⟨pa,pb,sto⟩,sa,sb⟩:=S
 have ty:s.TypeIs (.ref z) "zip":=⟨_,sz,rfl⟩
 have stop:∀ h' v,(∀ c o,c≠z->c≠TO->c≠i1->c≠i2->s.heap.get? c=some o->h'.get? c=some o)->(∃ o,h'.get? v=some o/\o.cls = .type "StopIteration")->wpAny (model prog w) A (isInstance (.ref v) (.type "StopIteration") >>= fun b=>if b=true then pure none else throw (Value.ref v)) Q E { s with heap:=h' }:=fun h' v kk ⟨o,ho,hc⟩=>
  wpAny_bind (wpAny_isInstance (T:="StopIteration") (b:=true) ⟨o,ho,hc⟩ isSubtype_stop (wpAny_pure (q _ kk)))
 delta pyNext
 refine wpAny_bind (wpAny_attempt (wpAny_callSpecial?_slot (name:=Str.ofString "__next__") ty F.slot_zip_next (wpAny_call_entry F.slot_zip_next ty F.entry_zip_next ?_ (F.args_zip_next_1 _))))
 show wpAny _ _ (PySem.field (.ref z) 2 >>= fun _=>_) _ _ _
 refine wpAny_bind (wpAny_field sz rfl (x :=.bool false) rfl (show wpAny _ _ (PySem.field (.ref z) 3 >>= fun _=>_) _ _ _ from wpAny_bind (wpAny_field sz rfl (x :=.ref TI) rfl (wpAny_bind (wpAny_seqItems sti rfl ?_)))))
 show wpAny _ _ (Builtin.SmallTypes.ownedTupleIsFree (.ref z) >>= fun _=>_) _ _ _
 refine wpAny_bind ?_
 delta Builtin.SmallTypes.ownedTupleIsFree
 refine wpAny_bind (wpAny_field sz rfl (x:=Value.none) rfl (wpAny_pure ?_))
 simp only[if_true]
 refine wpAny_bind (wpAny_rule (wpAny_bind (wpAny_field sz rfl (x:=Value.ref TO) rfl (wpAny_bind (wpAny_setField_rec sz (by simp) fun g1 z1 k1 => ?_)))))
 replace z1:IsZip g1 z TI TO .ellipsis:=z1
 refine wpAny_bind ?_
 simp only[List.zipIdx_cons,List.zipIdx_nil,List.forIn_cons,List.forIn_nil]
 refine wpAny_bind (wpAny_bind (wpAny_onRaise (show wpAny _ _ (Builtin.SmallTypes.nextOf (.ref i1) >>= fun _=>_) _ _ _ from wpAny_bind ?_)))
 cases ex:xs[n]? with
 | none=>
  refine nxE hh (sa.extBut k1.extBut D.i1z) (tat hx fun o e=>k1.extBut _ _ D.l1z e) ex fun g2 v k2 hv => ?_
  obtain⟨oe,hoe,hce⟩:=hv
  have z2:IsZip g2 z TI TO .ellipsis:=k2 _ _ D.i1z.symm z1
  have ne:v≠z:=fun w=>by subst w; rw[z2] at hoe; cases hoe; simp at hce
  exact wpAny_setField_rec z2 (by simp) fun g3 _ k3=>stop g3 v (fun c o c1 _ c3 _ w=>k3.extBut _ _ c1 (k2 _ _ c3 (k1.extBut _ _ c1 w))) ⟨oe,k3.extBut _ _ ne hoe,hce⟩
 | some x=>
  have ey:ys[n]? = none:=e.resolve_left (by rw[ex]; exact fun w=>nomatch w)
  refine nx (sa.extBut k1.extBut D.i1z) (tat hx fun o e=>k1.extBut _ _ D.l1z e) ex fun g2 a2 k2=>wpAny_pure ?_
  have o2:IsPair g2 TO pa pb:=k2.extBut _ _ D.TOi1 (k1.extBut _ _ D.TOz sto)
  refine wpAny_bind (wpAny_seqItems o2 rfl (wpAny_bind (wpAny_updateSeq_pair o2 fun g3 o3 k3 => ?_)))
  refine wpAny_bind (wpAny_letGo (wpAny_pure ?_))
  refine wpAny_bind (wpAny_bind (wpAny_onRaise (show wpAny _ _ (Builtin.SmallTypes.nextOf (.ref i2) >>= fun _=>_) _ _ _ from wpAny_bind (nxE hh (((sb.extBut k1.extBut D.i2z).extBut k2.extBut D.i12.symm).extBut k3.extBut D.TOi2.symm)
   (tat hy fun o e=>k3.extBut _ _ D.l2TO (k2.extBut _ _ D.l2i1 (k1.extBut _ _ D.l2z e))) ey fun g4 v k4 hv => ?_))))
  obtain⟨oe,hoe,hce⟩:=hv
  have z4:IsZip g4 z TI TO .ellipsis:=k4 _ _ D.i2z.symm (k3.extBut _ _ D.TOz.symm (k2.extBut _ _ D.i1z.symm z1))
  have ne:v≠z:=fun w=>by subst w; rw[z4] at hoe; cases hoe; simp at hce
  exact wpAny_setField_rec z4 (by simp) fun g5 _ k5=>stop g5 v (fun c o c1 c2 c3 c4 w=>k5.extBut _ _ c1 (k4 _ _ c4 (k3.extBut _ _ c2 (k2.extBut _ _ c3 (k1.extBut _ _ c1 w))))) ⟨oe,k5.extBut _ _ ne hoe,hce⟩
end
end Zp
namespace Zp
open PySem PySem.Spec PyProof.Rows L2
noncomputable abbrev mk1 (h:Heap)(t:Addr):Heap:=h.push { cls :=.type "tuple_iterator",data :=.fields #[.ref t,.int 0 0] }
noncomputable abbrev mk3 (h:Heap)(t1 t2:Addr):Heap:=((mk1 (mk1 h t1) t2).push { cls :=.type "tuple",data :=.seq #[.ref h.objs.size,.ref (mk1 h t1).objs.size] }).push { cls :=.type "tuple",data :=.seq #[.none,.none] }
noncomputable abbrev mk5 (h:Heap)(t1 t2:Addr):Heap:=(mk3 h t1 t2).push { cls :=.type "zip",data :=.fields #[.none,.bool false,.bool false,.ref (mk1 (mk1 h t1) t2).objs.size,.ref ((mk1 (mk1 h t1) t2).push { cls :=.type "tuple",data :=.seq #[.ref h.objs.size,.ref (mk1 h t1).objs.size] }).objs.size] }
theorem newZ (t1 t2:Addr)(xs ys:Array Value):Meets (Builtin.«zip.__new__» ⟨[.type "zip",.ref t1,.ref t2],[]⟩) (fun _ R s=>s.heap.IsTuple t1 xs/\s.heap.IsTuple t2 ys/\R (.ok (.ret (.ref (mk3 s.heap t1 t2).objs.size))) { s with heap:=mk5 s.heap t1 t2 }):=
 .of_wp fun prog w A R s h=>by
  obtain⟨hp,g,d,tk,os⟩:=s
  obtain⟨a1,a2,h⟩:=h
  have sub:=sub_zip
  have b1:Heap.IsTuple (Shared.heap ⟨hp,g,d,tk,os⟩) t1 xs:=a1
  have b2:Heap.IsTuple (Shared.heap ⟨mk1 hp t1,g,d,tk,os⟩) t2 ys:=Heap.IsTuple.push a2 _
  wp_walk using wpAny_pyIter_tuple b1,wpAny_pyIter_tuple b2
  exact⟨_,rfl,h⟩
section
variable {prog:Program}{w:World}{A:Around}{E:Value->Shared->Prop}{s:Shared}{t1 t2:Addr}{xs ys:Array Value}
theorem zjY {Q:Value->Shared->Prop}(h1:s.heap.IsTuple t1 xs)(h2:s.heap.IsTuple t2 ys)
  (q:∀ h',St h' (s.heap.objs.size+4) (s.heap.objs.size+2) (s.heap.objs.size+3) s.heap.objs.size (s.heap.objs.size+1) t1 t2 .none 0->(∀ c o,s.heap.get? c=some o->h'.get? c=some o)->Q (.ref (s.heap.objs.size+4)) { s with heap:=h' }):
  wpAny (model prog w) A (call (.type "zip") [.ref t1,.ref t2]) Q E s:=by
 refine callType_new F.called_zip (by decide) (F.typeCall_zip_2 _ _) (F.newCall_zip_2 _ _) (fun obj=>F.args_object_init_3 obj _ _) F.entry_zip_new (newZ t1 t2 xs ys) ⟨h1,h2,?_⟩
 have n1:(mk1 s.heap t1).objs.size=s.heap.objs.size+1:=Heap.size_push ..
 have n2:(mk1 (mk1 s.heap t1) t2).objs.size=s.heap.objs.size+2:=by rw[Heap.size_push,n1]
 have n3:((mk1 (mk1 s.heap t1) t2).push { cls :=.type "tuple",data :=.seq #[.ref s.heap.objs.size,.ref (mk1 s.heap t1).objs.size] }).objs.size=s.heap.objs.size+3:=by rw[Heap.size_push,n2]
 have n4:(mk3 s.heap t1 t2).objs.size=s.heap.objs.size+4:=by rw[Heap.size_push,n3]
 have up1:∀ {h:Heap}{c:Addr}{o o':Obj},h.get? c=some o->(h.push o').get? c=some o:=fun e=>Heap.get?_push_of_some _ e
 have e5:(mk5 s.heap t1 t2).get? (mk3 s.heap t1 t2).objs.size=some _:=Heap.get?_push_size _ rfl
 have e4:(mk5 s.heap t1 t2).get? ((mk1 (mk1 s.heap t1) t2).push { cls :=.type "tuple",data :=.seq #[.ref s.heap.objs.size,.ref (mk1 s.heap t1).objs.size] }).objs.size=some _:=up1 (Heap.get?_push_size _ rfl)
 have e3:(mk5 s.heap t1 t2).get? (mk1 (mk1 s.heap t1) t2).objs.size=some _:=up1 (up1 (Heap.get?_push_size _ rfl))
 have e2:(mk5 s.heap t1 t2).get? (mk1 s.heap t1).objs.size=some _:=up1 (up1 (up1 (Heap.get?_push_size _ rfl)))
 have e1:(mk5 s.heap t1 t2).get? s.heap.objs.size=some _:=up1 (up1 (up1 (up1 (Heap.get?_push_size _ rfl))))
 show _/\_
 rw[n4,n2,n3] at e5
 rw[n3] at e4
 rw[n1,n2] at e3
 rw[n1] at e2
 rw[n4]
 exact⟨⟨_,e5,rfl⟩,q _ ⟨e5,e3,⟨_,_,e4⟩,⟨_,e1,rfl,rfl⟩,⟨_,e2,rfl,rfl⟩⟩ fun c o e=>up1 (up1 (up1 (up1 (up1 e))))⟩
end
end Zp
namespace L2
open PySem PySem.Spec PyProof.Rows
section
variable {X:Cx}{pins:List (Addr × Obj)}{σ:List (Option V)}{H H':Hp}{s:Shared}{h':Heap}
theorem Inv.turnedL {t':Nat}{fp:List Addr}(I:Inv X pins σ H s)(k:∀ b o,b ∉ fp->s.heap.get? b=some o->h'.get? b=some o)(hf:∀ b∈fp,FpOk X pins H b):Inv X pins σ H { s with heap:=h',toks:=t' }:=by
 have nit:∀ b u,H b=some u->b ∉ fp:=fun b u e z=>by rw[(hf b z).1] at e; cases e
 have hL:X.env.locals ∉ fp:=fun z=>(hf _ z).2.1 rfl
 refine I.step (g':=s.gens) (d':=s.drawn) (ch:=fp) (fun b hb => ?_) (fun b o _ _ hc e _=>k b o hc e) (fun b o _ _ hc e _=>⟨o.slots,k b o hc e⟩) (fun _ _ _ _ n=>n)
  (fun b o hc e=>⟨o,k b o hc e⟩) (fun _ _ e=>e) (fun _ _ _ e=>e) (fun b ps e=>⟨#[],by rw[e]; simp⟩) (fun m hm => ?_) (fun b u e => ?_) I.bare
 ·obtain⟨f0,f1,f2,f3,f4,f5⟩:=hf b hb
  exact⟨f3,f1,f4,f5⟩
 ·obtain⟨o,es,ep,ho,r⟩:=hm
  exact⟨o,es,ep,k _ o hL ho,r⟩
 ·refine(I.hok b u e).stay (fun c v hc q=>k c v ?_ q) (fun _ q=>q) fun _ _ q=>q
  rcases hc with z | z
  ·rw[z]; exact nit b u e
  ·exact nit c _ z
end
end L2
namespace Zp
open PySem PySem.Spec PyProof.Rows L2
noncomputable def Itz (K:W.Frag)(t1 t2:Addr):It:=
 ⟨fun i H=>∃ xs ys x y,SqT K H t1 xs/\SqT K H t2 ys/\xs[i]? = some x/\ys[i]? = some y,
  fun i H v H'=>∃ p x y,v = .ref p/\H p=none/\H'=upd H p (.tup [x,y])/\∀ xs ys,SqT K H t1 xs->SqT K H t2 ys->xs[i]? = some x/\ys[i]? = some y,
  fun i H=>∃ xs ys,SqT K H t1 xs/\SqT K H t2 ys/\(xs.length<=i\/ys.length<=i)⟩
theorem zdB {P:Program}{w:World}{K:W.Frag}{es:List Expr}{kk:Nat}{pos:Pos}{z TI TO i1 i2 t1 t2:Addr}(D:ZipApart z TI TO i1 i2 t1 t2):Turn P w K (.Tuple es kk pos) (Itz K t1 t2) [z,TO,i1,i2,TI] z (fun i h=>St h z TI TO i1 i2 t1 t2 .none i) where
 mem:=by simp
 obj:=fun i h st b hb=>by
  obtain⟨sz,sti,⟨pa,pb,sto⟩,⟨oa,ea,ca,da⟩,⟨ob,eb,cb,db⟩⟩:=st
  simp only[List.mem_cons,List.not_mem_nil,or_false] at hb
  rcases hb with rfl | rfl | rfl | rfl | rfl
  ·exact⟨_,sz,fun v q=>by cases (show Data.fields _=Data.cell v from q)⟩
  ·exact⟨_,sto,fun v q=>by cases (show Data.seq _ _=Data.cell v from q)⟩
  ·exact⟨_,ea,fun v q=>by rw[da] at q; cases q⟩
  ·exact⟨_,eb,fun v q=>by rw[db] at q; cases q⟩
  ·exact⟨_,sti,fun v q=>by cases (show Data.seq _ _=Data.cell v from q)⟩
 keep:=fun i h h' st k=>by
  obtain⟨sz,sti,⟨pa,pb,sto⟩,sa,sb⟩:=st
  exact⟨k z (by simp) _ sz,k TI (by simp) _ sti,⟨pa,pb,k TO (by simp) _ sto⟩,sa.at fun o e=>k i1 (by simp) o e,sb.at fun o e=>k i2 (by simp) o e⟩
 item:=by
  intro X hP hw hK hc i pins s σ H E I hf st hg
  subst hP hw hK
  obtain⟨xs,ys,x,y,q1,q2,ex,ey⟩:=hg
  obtain⟨us,r1,p1,_⟩:=I.tuple q1
  obtain⟨vs,r2,p2,_⟩:=I.tuple q2
  obtain⟨u,hu,ru⟩:=r1.get ex
  obtain⟨v,hv,rv⟩:=r2.get ey
  refine item D st (show s.heap.IsTuple t1 us.toArray from p1) (show s.heap.IsTuple t2 vs.toArray from p2) (x:=u) (y:=v) (by simpa using hu) (by simpa using hv) fun h' S' tp _ kp=>⟨_,rfl,?_⟩
  refine wpAny_letOwnedTupleGo_zip S'.z fun h2 z2 k2 => ?_
  have lt:∀ {b o},s.heap.get? b=some o->b≠s.heap.objs.size:=fun e=>Nat.ne_of_lt (Heap.lt_size e)
  have ob:∀ b∈[z,TO,i1,i2,TI],b≠s.heap.objs.size:=fun b hb=>by
   obtain⟨sz,sti,⟨pa,pb,sto⟩,⟨oa,ea,_⟩,⟨oo,eb,_⟩⟩:=st
   simp only[List.mem_cons,List.not_mem_nil,or_false] at hb
   rcases hb with rfl | rfl | rfl | rfl | rfl
   ·exact lt sz
   ·exact lt sto
   ·exact lt ea
   ·exact lt eb
   ·exact lt sti
  have hz:z≠s.heap.objs.size:=ob z (by simp)
  have new:(s.heap.push { cls :=.type "tuple",data :=.seq #[u,v] }).get? s.heap.objs.size=some { cls :=.type "tuple",data :=.seq #[u,v] }:=Heap.get?_push_size _ rfl
  have I1:Inv X pins σ (upd H s.heap.objs.size (.tup [x,y])) { s with heap:=s.heap.push { cls :=.type "tuple",data :=.seq #[u,v] },toks:=s.toks }:=
   I.laid (fun _ _ q=>Heap.get?_push_of_some _ q) (Nat.le_refl _) ⟨Nat.le_trans (show 2<=64 by decide) (by decide),[u,v],.cons ru (.cons rv .nil),⟨_,Heap.get?_push_size _ rfl,rfl,_,rfl⟩⟩
  have hf1:∀ b∈[z,TO,i1,i2,TI],FpOk X pins (upd H s.heap.objs.size (.tup [x,y])) b:=fun b hb=>by
   obtain⟨f0,f⟩:=hf b hb
   exact⟨by rw[z0q (ob b hb)]; exact f0,f⟩
  have I2:Inv X pins σ (upd H s.heap.objs.size (.tup [x,y])) { s with heap:=h2,toks:=s.toks }:=I1.turnedL (t':=s.toks) (fun b o hb e=>by
   simp only[List.mem_cons,List.not_mem_nil,or_false,not_or] at hb
   obtain⟨b1,b2,b3,b4,b5⟩:=hb
   refine k2.extBut _ _ b1 ?_
   by_cases he:b=s.heap.objs.size
   ·subst he
    rw[new] at e
    cases e
    exact tp
   ·rw[Heap.get?_push_ne _ _ _ he] at e
    exact kp b o b1 b2 b3 b4 e) hf1
  refine⟨.ref s.heap.objs.size,_,I2,rfl,⟨_,x,y,rfl,I.fresh,rfl,fun as bs ha hb=>⟨by rw[I.tuple_inj ha q1]; exact ex,by rw[I.tuple_inj hb q2]; exact ey⟩⟩,⟨z2,k2.extBut _ _ D.TIz S'.ti,?_,S'.a.extBut k2.extBut D.i1z,S'.b.extBut k2.extBut D.i2z⟩,fun b hb=>(hf1 b hb).1⟩
  obtain⟨pa,pb,e⟩:=S'.to
  exact⟨pa,pb,k2.extBut _ _ D.TOz e⟩
 done:=by
  intro X hP hw hK hc i pins s σ H E I hf st hg
  subst hP hw hK
  obtain⟨xs,ys,q1,q2,e⟩:=hg
  obtain⟨us,r1,p1,_⟩:=I.tuple q1
  obtain⟨vs,r2,p2,_⟩:=I.tuple q2
  have l1:=r1.length
  have l2:=r2.length
  refine fin (I.ok.hd hc) D st (show s.heap.IsTuple t1 us.toArray from p1) (show s.heap.IsTuple t2 vs.toArray from p2) (e.imp (fun q=>by simp; omega) fun q=>by simp; omega) fun h' kp=>⟨rfl,I.turnedL (t':=s.toks) (fun b o hb e => ?_) hf⟩
  simp only[List.mem_cons,List.not_mem_nil,or_false,not_or] at hb
  exact kp b o hb.1 hb.2.1 hb.2.2.1 hb.2.2.2.1 e
 self:=fun _ _ _ _ _ st h=>wpAny_pyIter_zip st.z h
noncomputable def iZip (K:W.Frag)(ta:TA):TI:=fun σ H R=>ta σ H fun vs H1=>∃ a b,vs=[.ref a,.ref b]/\(∃ xs,SqT K H1 a xs)/\(∃ ys,SqT K H1 b ys)/\R (Itz K a b) H1
section
variable {X:Cx}{es:List Expr}{kk:Nat}{tp:Pos}
theorem zht {a b:Expr}{ta:TA}{p pos:Pos}(hg:Gl X "zip")(hm:X.mg "zip"=none)(ha:PA X [a,b] ta)(hs:starEach [a,b] X.env=[(false,eval a X.env),(false,eval b X.env)]:=by rfl)(hs2:starEach [b] X.env=[(false,eval b X.env)]:=by rfl):PI X (.Tuple es kk tp) (.Call (.Name "zip" p) [a,b] [] pos) (iZip X.K ta):=by
 intro pins s σ H R I h
 refine Call_ (zam I hg hm (show bootBuiltins "zip"=some (.type "zip") from rfl) (PyProof.Rows.callWith_type1 (thn (ha pos pins s σ H _ I h) fun us s1 ⟨vs,H1,I1,r1,q1⟩ => ?_) (by rw[hs,hs2]) (by rw[hs2]; rfl)))
 obtain⟨t1,t2,e,⟨xs,q2⟩,⟨ys,q3⟩,q⟩:=q1
 subst e
 cases r1 with
 | cons r rr=>
  cases rr with
  | cons r' rr=>
   cases rr
   cases (show _=Value.ref t1 from r)
   cases (show _=Value.ref t2 from r')
   obtain⟨us,rv1,p1,_⟩:=I1.tuple q2
   obtain⟨vs,rv2,p2,_⟩:=I1.tuple q3
   have l1:t1 < s1.heap.objs.size:=by obtain⟨o,e,_⟩:=p1; exact Heap.lt_size e
   have l2:t2 < s1.heap.objs.size:=by obtain⟨o,e,_⟩:=p2; exact Heap.lt_size e
   refine zjY (show s1.heap.IsTuple t1 us.toArray from p1) (show s1.heap.IsTuple t2 vs.toArray from p2) fun h' S kp => ?_
   refine wpAny_pyIter_zip S.z ?_
   have I2:Inv X pins σ H1 { s1 with heap:=h',toks:=s1.toks }:=I1.kept (t':=s1.toks) kp
   refine⟨_,_,_,_,H1,rfl,I2,zdB (zipApart_new l1 l2),S,fun b hb => ?_,q⟩
   have hb':s1.heap.objs.size<=b:=by
    simp only[List.mem_cons,List.not_mem_nil,or_false] at hb
    rcases hb with rfl | rfl | rfl | rfl | rfl
    ·exact Nat.le_add_right _ 4
    ·exact Nat.le_add_right _ 3
    ·exact Nat.le_refl _
    ·exact Nat.le_add_right _ 1
    ·exact Nat.le_add_right _ 2
   exact I1.fpOk hb' (I1.hok.fresh hb')
end
end Zp
namespace Pu
open PySem PySem.Spec PyProof.Rows L2 Zp
noncomputable def gZip (a b:D)(Q:DK):Prop:=match a,b with
 | .tup l,.tup m=>Q (.lst ((l.zip m).map fun p =>.tup [p.1,p.2]))
 | _,_=>False
theorem zd7 (a b:D)(Q Q':DK)(m:∀ d,Q d->Q' d)(h:gZip a b Q):gZip a b Q':=by
 unfold gZip at h ⊢
 split at h
 ·exact m _ h
 ·exact h.elim
noncomputable def zcJ:Fn:=fn2 gZip zd7
theorem zdy {K:W.Frag}{mg:Str->Option Value}{G:Hp}{a b:Addr}{xs ys:List V}{l m:List D}(h1:SqT K G a xs)(h2:SqT K G b ys)(r1:RDs K mg G l xs)(r2:RDs K mg G m ys):Walk K mg G ((l.zip m).map fun p =>.tup [p.1,p.2]) (Itz K a b):=fun i G1 H g1 g2=>by
 have k1:=z1X (z0f g1 g2) h1
 have k2:=z1X (z0f g1 g2) h2
 refine⟨fun d e => ?_,fun hi=>⟨xs,ys,k1,k2,?_⟩⟩
 ·rw[List.getElem?_map,Option.map_eq_some_iff] at e
  obtain⟨⟨d1,d2⟩,e,rfl⟩:=e
  rw[List.getElem?_zip_eq_some] at e
  obtain⟨v1,e1,rd1⟩:=r1.get e.1
  obtain⟨v2,e2,rd2⟩:=r2.get e.2
  refine⟨⟨xs,ys,v1,v2,k1,k2,e1,e2⟩,fun v H' y => ?_⟩
  obtain⟨p,x,y,rfl,hp,rfl,q⟩:=y
  obtain⟨w1,w2⟩:=q xs ys k1 k2
  rw[e1] at w1
  rw[e2] at w2
  cases w1
  cases w2
  have gp:=z3o g2 hp
  refine⟨z1p hp _,upd G1 p (.tup [v1,v2]),?_,?_,?_⟩
  ·exact Gr.new g2 hp
  ·intro c u e
   by_cases z:c=p
   ·subst z; rw[z0U] at e ⊢; exact e
   ·rw[z0q z] at e ⊢; exact g2 c u e
  ·exact RD.newT (RDs.cons (rd1.same g1) (RDs.cons (rd2.same g1) RDs.nil)) g2 hp
 ·simp only[List.length_map,List.length_zip] at hi
  rw[r1.len,r2.len]
  omega
section
variable {X:Cx}{E:XK}
theorem zbc {es:List Expr}{kk:Nat}{tp p pos:Pos}{a b:Expr}{x y:Ex}(hg:Gl X "zip")(hm:X.mg "zip"=none)(ha:QXA X E [a,b] [x,y])(hs:starEach [a,b] X.env=[(false,eval a X.env),(false,eval b X.env)]:=by rfl)(hs2:starEach [b] X.env=[(false,eval b X.env)]:=by rfl):
  QXI X E (.Tuple es kk tp) (.Call (.Name "zip" p) [a,b] [] pos) (.op zcJ [x,y]):=QI.imp (⟨zht hg hm ha.p hs hs2⟩:QI X (.Tuple es kk tp) (.Call (.Name "zip" p) [a,b] [] pos) _) fun σ H R ⟨G,ρ,Q0,X0,hs,ab,hr,hz,hk,hx⟩=>by
 refine⟨G,ρ,_,X0,hs,ab,(show runs [x,y] ρ (fun ds=>zcJ.run ds Q0 X0) X0 from hr),fun ds vs G1 H1 q g1 g2 g3 rds => ?_,hx⟩
 match ds,q,rds with
 | [d1,d2],q,rds=>
  have q':gZip d1 d2 Q0:=q
  unfold gZip at q'
  split at q'
  ·rw[RDs] at rds
   obtain⟨v1,r1,rfl,h1,h2⟩:=rds
   rw[RDs] at h2
   obtain⟨v2,r2,rfl,h2,h3⟩:=h2
   rw[RDs] at h3
   subst h3
   obtain⟨a1,xs,rfl,s1,w1⟩:=z49 h1
   obtain⟨a2,ys,rfl,s2,w2⟩:=z49 h2
   exact⟨a1,a2,rfl,⟨xs,z1X g2 s1⟩,⟨ys,z1X g2 s2⟩,hk _ G1 H1 q' g1 g2 g3 _ _ rfl (zdy s1 s2 w1 w2)⟩
  ·exact q'.elim
end
end Pu
namespace Rvt
open PySem PyProof.Rows
theorem own:Manifest.owners.lookup (String.ofList ['d','e','s','r','e','v','e','r'].reverse)=some Manifest.sig_reversed:=by kernel_rfl
theorem nx:Slot "reversed" "__next__" "reversed.__next__" :=.of (owner:="reversed") (n:="__next__") (by rw[typeLookup_type,builtinLookup_eq_fast]; kernel_rfl) (by decide +kernel) (by decide +kernel) (by decide +kernel) (.inl (by decide +kernel)) (by rw[isSubtype_type]; kernel_rfl)
theorem nx_e:entryFor table "reversed.__next__"=some Builtin.«reversed.__next__»:=entryFor_of_tree (by kernel_rfl)
theorem nx_a (a:Value):argsOk "reversed.__next__" ⟨[a],[]⟩:=by
 unfold argsOk
 rw[signature?_of (id:="reversed.__next__") (n:=['_','_','t','x','e','n','_','_']) (o:=['d','e','s','r','e','v','e','r']) (by kernel_rfl) own]
 kernel_rfl
theorem it:Slot "reversed" "__iter__" "reversed.__iter__" :=.of (owner:="reversed") (n:="__iter__") (by rw[typeLookup_type,builtinLookup_eq_fast]; kernel_rfl) (by decide +kernel) (by decide +kernel) (by decide +kernel) (.inl (by decide +kernel)) (by rw[isSubtype_type]; kernel_rfl)
theorem it_a (a:Value):argsOk "reversed.__iter__" ⟨[a],[]⟩:=by
 unfold argsOk
 rw[signature?_of (id:="reversed.__iter__") (n:=['_','_','r','e','t','i','_','_']) (o:=['d','e','s','r','e','v','e','r']) (by kernel_rfl) own]
 kernel_rfl
theorem it_e:entryFor table "reversed.__iter__"=some Builtin.«dict_keyiterator.__iter__»:=entryFor_alias (id':="dict_keyiterator.__iter__") (by kernel_rfl) (by first | rfl | decide +kernel | (unfold String.splitOn; simp +decide [String.splitOnAux])) (by decide +kernel) (by kernel_rfl)
theorem zif:typeLookup (.type "tuple") "__reversed__"=pure none:=by rw[typeLookup_type,builtinLookup_eq_fast]; kernel_rfl
theorem gi:typeLookup (.type "tuple") "__getitem__"=pure (some (.builtin "tuple.__getitem__")):=by rw[typeLookup_type,builtinLookup_eq_fast]; kernel_rfl
theorem no_len:typeLookup (.type "reversed") "__len__"=pure none:=by rw[typeLookup_type,builtinLookup_eq_fast]; kernel_rfl
theorem its_hint:typeLookup (.type "reversed") "__length_hint__"=pure (some (.builtin "reversed.__length_hint__")):=by rw[typeLookup_type,builtinLookup_eq_fast]; kernel_rfl
theorem zgC:isSubtype (.type "tuple") (.type "dict")=pure false:=by rw[isSubtype_type]; kernel_rfl
theorem init:Slot "reversed" "__init__" "object.__init__" :=.of (owner:="object") (n:="__init__") (by rw[typeLookup_type,builtinLookup_eq_fast]; kernel_rfl) (by decide +kernel) (by decide +kernel) (by decide +kernel) (.inl (by decide +kernel)) (by rw[isSubtype_type]; kernel_rfl)
theorem zdo:TypeCalled "reversed" "reversed.__new__" "object.__init__":=⟨by decide +kernel,by decide +kernel,⟨_,_,F.mro_reversed⟩,F.made_reversed,by decide +kernel,F.sub_reversed_self,init⟩
noncomputable def IsRv (h:Heap)(a t:Addr)(i:Int):Prop:=∃ o,h.get? a=some o/\o.cls = .type "reversed"/\o.data = .fields #[.ref t,rawInt i]
theorem IsRv.ty {s:Shared}{a t:Addr}{i:Int}(x:IsRv s.heap a t i):s.TypeIs (.ref a) "reversed":=let ⟨o,ho,hc,_⟩:=x; ⟨o,ho,hc⟩
theorem IsRv.at {h h':Heap}{a t:Addr}{i:Int}(x:IsRv h a t i)(e:∀ o,h.get? a=some o->h'.get? a=some o):IsRv h' a t i:=let ⟨o,ho,r⟩:=x; ⟨o,e _ ho,r⟩
noncomputable def zfx (t:Addr)(i:Int):Obj:={ cls :=.type "reversed",data :=.fields #[.ref t,rawInt i] }
end Rvt
namespace Rvt
open PySem PyProof.Rows
section
variable {prog:Program}{w:World}{A:Around}{E:Value->Shared->Prop}{s:Shared}{t r:Addr}{z07:Array Value}
theorem zeh {Q1:Value->Shared->Prop}(ht:IsTup s.heap t z07)(hz:z07.size < 2 ^ 62)(h:∀ tk,Q1 (.ref s.heap.objs.size) { s with heap:=s.heap.push (zfx t ((z07.size:Int) - 1)),toks:=tk }):
  codeAny (model prog w) A (.call (.builtin "reversed.__new__") ⟨[.type "reversed",.ref t],[]⟩) (wants Q1 E) s:=by
 refine codeAny_of_tree ?_
 show wpAny _ A.in1 (do checkBuiltinCall "reversed.__new__" ⟨[.type "reversed",.ref t],[]⟩; again (.builtin "reversed.__new__" ⟨[.type "reversed",.ref t],[]⟩)) _ _ s
 refine wpAny_bind (wpAny_of_eq (F.newCall_reversed_1 _) (wpAny_pure ⟨plainId_quiet F.plain_reversed_new _,codeAny_builtin F.entry_reversed_new ?_⟩))
 rw[Around.under_plainId F.plain_reversed_new _]
 unfold Builtin.«reversed.__new__»
 refine wpAny_bind (wpAny_of_eq (newClass_reversed _) ?_)
 try dsimp only
 refine wpAny_bind (wpAny_of_eq (a:=()) (by first | rfl | kernel_rfl) ?_)
 refine wpAny_bind (wpAny_of_eq (a:=()) (by first | rfl | kernel_rfl) ?_)
 try dsimp only
 refine wpAny_bind (wpAny_specialOf ht.typeIs zif ?_)
 try dsimp only
 refine wpAny_bind ?_
 wp_delta
 refine wpAny_bind (wpAny_isInstance (b:=false) ht.typeIs zgC ?_)
 rw[if_neg (by decide)]
 refine wpAny_bind (wpAny_specialOf ht.typeIs gi ?_)
 dsimp only
 rw[if_pos (by decide +kernel)]
 refine wpAny_pure ?_
 rw[if_neg (by decide)]
 refine wpAny_bind (len_tuple ht (by omega) ?_)
 refine wpAny_bind (wpAny_of_eq (a:=some ((z07.size:Nat):Int)) (by first | rfl | kernel_rfl) ?_)
 dsimp only
 refine wpAny_bind (m:=newObj (.type "reversed") (.fields #[.ref t,rawInt ((z07.size:Int) - 1)])) (wpAny_newObj_type ?_)
 exact wpAny_pure (h _)
theorem zgo {Q:Value->Shared->Prop}(ht:IsTup s.heap t z07)(hz:z07.size < 2 ^ 62)(h:∀ tk,Q (.ref s.heap.objs.size) { s with heap:=s.heap.push (zfx t ((z07.size:Int) - 1)),toks:=tk }):wpAny (model prog w) A (call (.type "reversed") [.ref t]) Q E s:=by
 refine callType_codes (Q₁:=fun obj s1=>s1.TypeIs obj "reversed"/\Q obj s1) zdo (F.typeCall_reversed_1 _) F.entry_object_init
  (zeh ht hz fun tk=>⟨⟨_,Heap.get?_push_size _ rfl,rfl⟩,h tk⟩) fun obj s1 h1 => ?_
 exact⟨h1.1,F.args_object_init_2 obj _,object_init_meets zdo.init.lookup zdo.made (by decide) prog w A.in1 _ s1 ⟨h1.1,rfl,h1.2⟩⟩
theorem ziR {α:Type}{Q:α->Shared->Prop}{E:Value->Shared->Prop}(hh:A.handled=none)(q:∀ e h',(∀ b o,s.heap.get? b=some o->h'.get? b=some o)->({ s with heap:=h' }:Shared).TypeIs e "StopIteration"->E e { s with heap:=h' }):
  wpAny (model prog w) A (Builtin.SmallTypes.stopIteration:Sem α) Q E s:=by
 show wpAny _ A (newExc (.type "StopIteration") [] >>= fun v=>raiseNew v) _ _ _
 simp only[newExc,newTuple,raiseNew]
 refine wpAny_bind (wpAny_bind (wpAny_newObj_type (wpAny_bind (m:=firstArgMember _ _) (wpAny_of_eq (a:=Value.none) (by first | rfl | (simp only[firstArgMember]; rfl)) (wpAny_newObj_type ?_ (by size_fits)))) (by size_fits)))
 refine wpAny_bind (wpAny_handled ?_)
 rw[hh]
 refine wpAny_bind (wpAny_pure (wpAny_throw (q (.ref _) _ (fun b o e=>Heap.get?_push_of_some _ (Heap.get?_push_of_some _ e)) ⟨_,Heap.get?_push_size _ rfl,rfl⟩)))
theorem zcT {i:Nat}{x:Value}{Q:Option Value->Shared->Prop}(hr:IsRv s.heap r t (i:Int))(ht:IsTup s.heap t z07)(hz:z07.size < 2 ^ 62)(hx:z07[i]? = some x)
  (q:∀ h' tk,IsRv h' r t ((i:Int) - 1)->Heap.SameBut r s.heap h'->Q (some x) { s with heap:=h',toks:=tk }):wpAny (model prog w) A (pyNext (.ref r)) Q E s:=by
 obtain⟨o,ho,hc,hd⟩:=id hr
 unfold pyNext
 refine wpAny_bind (wpAny_attempt (wpAny_callSpecial?_slot (name:=Str.ofString "__next__") hr.ty nx (wpAny_call_entry nx hr.ty nx_e ?_ (nx_a _))))
 unfold Builtin.«reversed.__next__»
 refine wpAny_bind (wpAny_of_eq (a:=(Value.ref r,[])) rfl ?_)
 try dsimp only
 refine wpAny_bind (wpAny_field ho hd (x :=.ref t) rfl ?_)
 refine wpAny_bind (wpAny_field ho hd (x:=rawInt (i:Int)) rfl ?_)
 show wpAny _ _ (if (i:Int) < 0 then _ else _) _ _ s
 rw[if_neg (by omega)]
 refine wpAny_bind (wpAny_specialOf ht.typeIs gi ?_)
 rw[if_neg (by decide)]
 refine wpAny_bind (wpAny_mkInt ?_)
 have hi:i < z07.size:=by
  obtain⟨z,_⟩:=Array.getElem?_eq_some_iff.mp hx
  exact z
 refine wpAny_bind (wpAny_attempt (getItem_tuple (s:={ s with toks:=s.toks+1 }) ht (by omega) (by omega) (j:=i) ?_ hx ?_))
 ·unfold seqIndex?
  simp
  omega
 dsimp only
 refine wpAny_bind (wpAny_field (s:={ s with toks:=s.toks+1 }) ho hd (x:=rawInt (i:Int)) rfl ?_)
 show wpAny _ _ (setField (.ref r) 1 (rawInt ((i:Int) - 1)) >>= fun _=>ret x) _ _ _
 refine wpAny_bind (wpAny_setField (s:={ s with toks:=s.toks+1 }) ho hd (by simp) ?_)
 refine wpAny_pure ⟨x,rfl,wpAny_pure (q _ _ ?_ (Heap.SameBut.update ..))⟩
 exact⟨_,Heap.get?_update_self _ ho (Obj.isFreed_of_fields (Obj.data_mapFields hd _)),(Obj.cls_mapFields ..).trans hc,by
  rw[Obj.data_mapFields hd]; simp⟩
theorem zeg {Q:Option Value->Shared->Prop}(hh:A.handled=none)(hr:IsRv s.heap r t (-1))(q:∀ h',Heap.ExtBut r s.heap h'->Q none { s with heap:=h' }):wpAny (model prog w) A (pyNext (.ref r)) Q E s:=by
 obtain⟨o,ho,hc,hd⟩:=id hr
 unfold pyNext
 refine wpAny_bind (wpAny_attempt (wpAny_callSpecial?_slot (name:=Str.ofString "__next__") hr.ty nx (wpAny_call_entry nx hr.ty nx_e ?_ (nx_a _))))
 unfold Builtin.«reversed.__next__»
 refine wpAny_bind (wpAny_of_eq (a:=(Value.ref r,[])) rfl ?_)
 try dsimp only
 refine wpAny_bind (wpAny_field ho hd (x :=.ref t) rfl ?_)
 refine wpAny_bind (wpAny_field ho hd (x:=rawInt (-1)) rfl ?_)
 show wpAny _ _ (if (-1:Int) < 0 then _ else _) _ _ s
 rw[if_pos (by decide)]
 refine wpAny_bind (wpAny_rule ?_)
 refine wpAny_bind ?_
 wp_delta
 refine wpAny_bind (wpAny_setField ho hd (by simp) ?_)
 have h1:=Heap.get?_update_self (Obj.mapFields fun x=>x.setIfInBounds 1 (rawInt (-1))) ho (Obj.isFreed_of_fields (Obj.data_mapFields hd _))
 refine wpAny_setField h1 (Obj.data_mapFields hd _) (by simp) ?_
 refine wpAny_bind (ziR (A:=A.in1) (by first | exact hh | simpa using hh) fun e h' hk ty => ?_)
 refine wpAny_bind (wpAny_isInstance (T:="StopIteration") (b:=true) ty isSubtype_stop ?_)
 rw[if_pos rfl]
 refine wpAny_pure (q _ fun b o hb eo=>hk b o ?_)
 have e1:=(Heap.get?_update_other s.heap (Obj.mapFields fun x=>x.setIfInBounds 1 (rawInt (-1))) (Ne.symm hb)).trans eo
 exact(Heap.get?_update_other _ _ (Ne.symm hb)).trans e1
theorem zd2 {i:Int}{Q:Value->Shared->Prop}(hr:IsRv s.heap r t i)(q:Q (.ref r) s):wpAny (model prog w) A (pyIter (.ref r)) Q E s:=
 wpAny_pyIter_slot hr.ty it (wpAny_call_entry it hr.ty it_e (show wpAny _ _ (ret (.ref r)) _ _ s from wpAny_pure ⟨_,rfl,"reversed",_,hr.ty,nx.lookup,q⟩) (it_a _))
end
end Rvt
namespace Rvt
open PySem PyProof.Rows
theorem ziO {prog:Program}{w:World}{A:Around}(hh:A.handled=none)(r t:Addr)(ne:t≠r)(z07:Array Value)(hz:z07.size < 2 ^ 62):
  Walks prog w A r [r,t] [r] z07.size (fun i v=>z07[z07.size - 1 - i]? = some v) (fun i h=>i<=z07.size/\IsRv h r t ((z07.size:Int) - 1 - (i:Int))/\IsTup h t z07) where
 sub:=fun b hb=>by simp at hb; simp[hb]
 frame:=fun _ _ _ x hk=>⟨x.1,x.2.1.at fun o e=>hk r (by simp) o e,by
  obtain⟨o,ho,z⟩:=x.2.2
  exact⟨o,hk t (by simp) o ho,z⟩⟩
 item:=fun i s Q E hi x hQ=>by
  obtain⟨_,hr,ht⟩:=x
  have hx:z07[z07.size - 1 - i]? = some (z07[z07.size - 1 - i]'(by omega)):=Array.getElem?_eq_getElem (by omega)
  rw[show (z07.size:Int) - 1 - (i:Int)=((z07.size - 1 - i:Nat):Int) by omega] at hr
  refine zcT hr ht hz hx fun h' tk hr' hs => ?_
  rw[show ((z07.size - 1 - i:Nat):Int) - 1=(z07.size:Int) - 1 - ((i+1:Nat):Int) by omega] at hr'
  refine hQ _ h' tk hx ⟨hi,hr',?_⟩ fun b o hb eo=>hs.extBut b o (fun z=>hb (by simp[z])) eo
  obtain⟨o,ho,z⟩:=ht
  exact⟨o,(hs.2 t ne).trans ho,z⟩
 done:=fun s Q E x hQ=>by
  obtain⟨_,hr,_⟩:=x
  rw[show (z07.size:Int) - 1 - (z07.size:Int) = -1 by omega] at hr
  exact zeg hh hr fun h' e=>hQ h' s.toks fun b o hb eo=>e b o (fun z=>hb (by simp[z])) eo
 self:=fun _ _ _ _ x hQ=>zd2 x.2.1 hQ
theorem hs:Slot "reversed" "__length_hint__" "reversed.__length_hint__" :=.of (owner:="reversed") (n:="__length_hint__") (by rw[typeLookup_type,builtinLookup_eq_fast]; kernel_rfl) (by decide +kernel) (by decide +kernel) (by decide +kernel) (.inr (by decide +kernel)) (by rw[isSubtype_type]; kernel_rfl)
theorem hs_e:entryFor table "reversed.__length_hint__"=some Builtin.«reversed.__length_hint__»:=entryFor_of_tree (by kernel_rfl)
theorem hs_a (a:Value):argsOk "reversed.__length_hint__" ⟨[a],[]⟩:=by
 unfold argsOk
 rw[signature?_of (id:="reversed.__length_hint__") (n:=['_','_','t','n','i','h','_','h','t','g','n','e','l','_','_']) (o:=['d','e','s','r','e','v','e','r']) (by kernel_rfl) own]
 kernel_rfl
section
variable {prog:Program}{w:World}{A:Around}{E:Value->Shared->Prop}{s:Shared}{r t:Addr}{z07:Array Value}
theorem zit {Q:Value->Shared->Prop}(hr:IsRv s.heap r t ((z07.size:Int) - 1))(ht:IsTup s.heap t z07)(hz:z07.size < 2 ^ 62)(q:∀ u tk,s.toks<=tk->Q (.int (z07.size:Int) u) { s with toks:=tk }):wpAny (model prog w) A (call (.builtin "reversed.__length_hint__") [.ref r]) Q E s:=by
 obtain⟨o,ho,hc,hd⟩:=id hr
 refine wpAny_call_entry hs hr.ty hs_e ?_ (hs_a _)
 unfold Builtin.«reversed.__length_hint__»
 refine wpAny_bind (wpAny_of_eq (a:=Value.ref r) rfl ?_)
 refine wpAny_bind (wpAny_field ho hd (x :=.ref t) rfl ?_)
 rw[if_neg (show ¬ ((Value.ref t == Value.none)=true) from Bool.false_ne_true)]
 refine wpAny_bind (len_tuple ht (by omega) ?_)
 refine wpAny_bind (wpAny_of_eq (a:=some ((z07.size:Nat):Int)) (by first | rfl | kernel_rfl) ?_)
 dsimp only
 refine wpAny_bind (wpAny_field (s:={ s with toks:=s.toks+1+1 }) ho hd (x:=rawInt ((z07.size:Int) - 1)) rfl ?_)
 show wpAny _ _ (if (z07.size:Int) < (z07.size:Int) - 1+1 then _ else _) _ _ _
 rw[if_neg (by omega)]
 unfold retInt
 refine wpAny_bind (wpAny_mkInt (wpAny_pure ⟨_,rfl,?_⟩))
 rw[show (z07.size:Int) - 1+1=(z07.size:Int) by omega]
 exact q _ _ (by show s.toks<=s.toks+1+1+1; omega)
theorem hint {Q:Bool->Shared->Prop}(hr:IsRv s.heap r t ((z07.size:Int) - 1))(ht:IsTup s.heap t z07)(hz:z07.size<=sizeLine)(q:∀ b tk,s.toks<=tk->Q b { s with toks:=tk }):wpAny (model prog w) A (Builtin.List.listLengthHint (.ref r)) Q E s:=by
 have hz':z07.size < 2 ^ 62:=Nat.lt_of_le_of_lt hz (by decide)
 unfold Builtin.List.listLengthHint
 refine wpAny_bind (wpAny_specialOf hr.ty no_len ?_)
 show wpAny _ A (specialOf (.ref r) (Str.ofString "__length_hint__") >>= _) Q E s
 refine wpAny_bind (wpAny_specialOf hr.ty its_hint ?_)
 generalize hn:("reversed.__length_hint__":String)=n0
 dsimp only
 rw[show splitId n0=some ("reversed","__length_hint__") from by rw[<- hn]; decide +kernel]
 refine wpAny_bind (wpAny_isInstance (b:=true) hr.ty F.sub_reversed_self ?_)
 rw[if_neg (by decide)]
 subst hn
 rw[if_neg (by decide +kernel)]
 refine wpAny_bind (wpAny_rule (wpAny_bind (wpAny_of_eq (hs.bind _) ?_)))
 refine wpAny_bind (wpAny_attempt (zit hr ht hz' fun u tk ht => ?_))
 have ea:asInt? (.int (z07.size:Int) u)=pure (some (z07.size:Int)):=rfl
 have f1:Builtin.List.listFitsIndex (z07.size:Int)=true:=by
  have a : -(2 ^ 63:Int)<=(z07.size:Int):=by omega
  have b:(z07.size:Int) < 2 ^ 63:=by omega
  exact Bool.and_eq_true_iff.mpr ⟨decide_eq_true a,decide_eq_true b⟩
 have f2:Builtin.List.listTooLong (z07.size:Int).toNat=false:=by
  unfold Builtin.List.listTooLong
  simp
  exact hz
 have f3:¬ (z07.size:Int) < 0:=by omega
 generalize (z07.size:Int)=N at ea f1 f2 f3 ⊢
 show wpAny _ _ (asInt? (.int N u) >>= _) _ _ _
 rw[ea]
 refine wpAny_bind (wpAny_pure ?_)
 dsimp only
 rw[f1,if_neg (by decide),if_neg f3,f2,if_neg (by decide)]
 exact wpAny_pure (q _ _ ht)
theorem zex {R:Result->Shared->Prop}{S:Addr}{res:Value}{c0:Nat}(hh:A.handled=none)(hr:IsRv s.heap r t ((z07.size:Int) - 1))(ht:IsTup s.heap t z07)(hz:z07.size<=sizeLine)(nS:S ∉ [r,t])(hS:s.heap.get? S=some { cls :=.type "list",data :=.seq #[] c0 })
  (q:∀ s' acc c,Moved (S::[r]) (fun a b=>b=a) s s'->s'.heap.get? S=some { cls :=.type "list",dict:=none,data :=.seq acc c,slots := #[] }->ItemsOf (fun i v=>z07[z07.size - 1 - i]? = some v) acc z07.size->R (.ok (.ret res)) s'):
  wpAny (model prog w) A.in1 (Builtin.List.listExtendWith (.ref S) (.ref r) res) (fun fin s'=>match fin with | .done f=>R (.ok f) s' | .again c'=>c'.quiet=true/\codeAny (model prog w) A c' R s') (fun e s'=>R (.error e) s') s:=by
 have hz':z07.size < 2 ^ 62:=Nat.lt_of_le_of_lt hz (by decide)
 have ne:t≠r:=by
  obtain⟨o,ho,hc,_⟩:=hr
  obtain⟨o',ho',hc',_⟩:=ht
  intro z
  rw[z,ho] at ho'; cases ho'
  rw[hc] at hc'
  injection hc' with h
  exact absurd h (by decide)
 have W:=(ziO (prog:=prog) (w:=w) (A:=A.in1) (by simpa using hh) r t ne z07 hz').toS
 have nr:S≠r:=fun e=>nS (by simp[e])
 have st0:(fun(i:Nat) (s:Shared)=>i<=z07.size/\IsRv s.heap r t ((z07.size:Int) - 1 - (i:Int))/\IsTup s.heap t z07) 0 s:=⟨Nat.zero_le _,by simpa using hr,ht⟩
 unfold Builtin.List.listExtendWith
 refine wpAny_bind (wpAny_typeOf hr.ty ?_)
 rw[show Builtin.List.listSameRef (.ref S) (.ref r)=false by simp[Builtin.List.listSameRef,nr],show (Value.type "reversed" == .type "list")=false by decide,show (Value.type "reversed" == .type "tuple")=false by decide,if_neg (by decide)]
 refine wpAny_bind (W.self 0 _ _ _ st0 (wpAny_bind (wpAny_holding (hint hr ht hz fun b tk le => ?_))))
 have go:∀ (h2:Heap) (c:Nat),(∀ b o,b≠S->s.heap.get? b=some o->h2.get? b=some o)->h2.get? S=some { cls :=.type "list",data :=.seq #[] c }->
   wpAny (model prog w) A.in1 (again (.builtin "list.extend.loop" ⟨[.ref S,.ref r,res],[]⟩)) (fun fin s'=>match fin with | .done f=>R (.ok f) s' | .again c'=>c'.quiet=true/\codeAny (model prog w) A c' R s') (fun e s'=>R (.error e) s') { s with heap:=h2,toks:=tk }:=fun h2 c k2 S2=>by
  have st2:=W.frame 0 s h2 tk st0 le fun b hb o e=>k2 b o (fun z=>nS (z ▸ hb)) e
  refine wpAny_pure ⟨plainId_quiet F.plain_extend_loop _,codeAny_extend_loopS W hz S nS res z07.size 0 _ #[] c rfl (Nat.zero_le _) st2 S2 (ItemsOf.nil _) fun s' acc' c' mv S' it=>q s' acc' c' ?_ S' it⟩
  have m0:Moved (S::[r]) (fun a b=>b=a) s { s with heap:=h2,toks:=tk }:=(Moved.refl (wr:=S::[r]) (G:=fun a b=>b=a) W.grefl).then_heap le fun b o hb e=>k2 b o (fun z=>hb (by rw[z]; exact List.mem_cons_self)) e
  exact Moved.trans W.gtrans m0 mv
 split
 ·refine wpAny_bind (wpAny_rule ?_)
  refine wpAny_bind ?_
  show wpAny _ _ (updateSeq S (·.push .none) >>= fun _=>updateSeq S (·.pop)) _ _ _
  refine wpAny_bind (wpAny_updateSeq (s:={ s with toks:=tk }) hS rfl ?_)
  have S1:=Heap.get?_update_self (Obj.mapSeq (·.push Value.none)) hS rfl
  refine wpAny_updateSeq (hz:=by seq_fits) S1 rfl ?_
  have S2:=Heap.get?_update_self (Obj.mapSeq (·.pop)) S1 rfl
  refine go _ _ (fun b o hb e => ?_) S2
  exact(Heap.get?_update_other _ _ (Ne.symm hb)).trans ((Heap.get?_update_other _ _ (Ne.symm hb)).trans e)
 ·exact go s.heap c0 (fun _ _ _ e=>e) hS
theorem zeH {Q:List Value->Shared->Prop}(hh:A.handled=none)(hr:IsRv s.heap r t ((z07.size:Int) - 1))(ht:IsTup s.heap t z07)(hz:z07.size<=sizeLine)
  (q:∀ s',Moved [r] (fun a b=>b=a) s s'->s.heap.objs.size < s'.heap.objs.size->Q z07.toList.reverse s'):wpAny (model prog w) A (collect (.ref r)) Q E s:=by
 have hlt:∀ b∈[r,t],b < s.heap.objs.size:=fun b hb=>by
  simp only[List.mem_cons,List.not_mem_nil,or_false] at hb
  rcases hb with rfl | rfl
  ·obtain⟨o,ho,_⟩:=hr; exact Heap.lt_size ho
  ·obtain⟨o,ho,_⟩:=ht; exact Heap.lt_size ho
 have nf:s.heap.objs.size ∉ [r,t]:=fun m=>Nat.lt_irrefl _ (hlt _ m)
 unfold collect
 refine wpAny_bind (wpAny_runValue (codeAny_builtin F.entry_proto_collect ?_))
 rw[Around.under_plainId F.plain_proto_collect _]
 show wpAny _ A.in1 (newList [] >>= fun l=>again (.builtin "list.__iadd__" ⟨[l,.ref r],[]⟩)) _ _ s
 refine wpAny_bind (wpAny_newObj_type (wpAny_pure ⟨plainId_quiet F.plain_list_iadd _,codeAny_builtin F.entry_list_iadd ?_⟩))
 rw[Around.under_plainId F.plain_list_iadd _]
 show wpAny _ A.in1 (Builtin.List.listExtendWith (.ref s.heap.objs.size) (.ref r) (.ref s.heap.objs.size)) _ _ _
 have fin:∀ s' acc c,Moved (s.heap.objs.size::[r]) (fun a b=>b=a) { s with heap:=s.heap.push { cls :=.type "list",data :=.seq ([]:List Value).toArray } } s'->s'.heap.get? s.heap.objs.size=some { cls :=.type "list",dict:=none,data :=.seq acc c,slots := #[] }->ItemsOf (fun i v=>z07[z07.size - 1 - i]? = some v) acc z07.size->wpAny (model prog w) A (load s.heap.objs.size >>= fun o=>match o.data with | .seq xs _=>pure xs.toList | _=>unsupported "internal:collect") Q E s':=fun s' acc c mv S' it=>by
  refine wpAny_bind (wpAny_load S' (wpAny_pure ?_))
  have ea:acc.toList=z07.toList.reverse:=by
   apply List.ext_getElem?
   intro i
   rcases Nat.lt_or_ge i z07.size with z | z
   ·obtain⟨n1,n2⟩:=it
    have h1:acc.toList[i]? = some (acc.toList[i]'(by simp; omega)):=List.getElem?_eq_getElem _
    have h2:=n2 i _ (by rw[<- Array.getElem?_toList]; exact h1)
    rw[h1,List.getElem?_reverse (by simpa using z), <- h2]
    simp
   ·rw[List.getElem?_eq_none (by have:=it.1; simp; omega),List.getElem?_eq_none (by simp; omega)]
  rw[ea]
  exact q s' (Moved.drop_new (o:={ cls :=.type "list",data :=.seq ([]:List Value).toArray }) (tk:=s.toks) mv (Nat.le_refl _)) (Heap.lt_size S')
 refine wpAny_mono (zex (A:=A) (s:={ s with heap:=s.heap.push { cls :=.type "list",data :=.seq ([]:List Value).toArray } }) (S:=s.heap.objs.size) (res :=.ref s.heap.objs.size) (R:=fun rr s'=>rr = .ok (.ret (.ref s.heap.objs.size))/\∃ acc c,Moved (s.heap.objs.size::[r]) (fun a b=>b=a) { s with heap:=s.heap.push { cls :=.type "list",data :=.seq ([]:List Value).toArray } } s'/\s'.heap.get? s.heap.objs.size=some { cls :=.type "list",dict:=none,data :=.seq acc c,slots := #[] }/\ItemsOf (fun i v=>z07[z07.size - 1 - i]? = some v) acc z07.size) hh (hr.at fun o e=>Heap.get?_push_of_some _ e) (by
  obtain⟨o,ho,z⟩:=ht
  exact⟨o,Heap.get?_push_of_some _ ho,z⟩) hz nf (Heap.get?_push_size _ rfl) fun s' acc c mv S' it=>⟨rfl,acc,c,mv,S',it⟩) (fun fn s' h => ?_) (fun e s' h => ?_)
 ·cases fn with
  | done f=>
   obtain⟨e,acc,c,mv,S',it⟩:=h
   cases e
   exact fin s' acc c mv S' it
  | again c'=>
   refine⟨h.1,codeAny_mono h.2 fun rr s'' hr => ?_⟩
   obtain⟨rfl,acc,c,mv,S',it⟩:=hr
   exact fin s'' acc c mv S' it
 ·exact absurd h.1 (by simp)
theorem zdC {Q1:Value->Shared->Prop}(hh:A.handled=none)(hr:IsRv s.heap r t ((z07.size:Int) - 1))(ht:IsTup s.heap t z07)(hz:z07.size<=sizeLine)
  (q:∀ s',Moved [r] (fun a b=>b=a) s s'->s.heap.objs.size < s'.heap.objs.size->Q1 (.ref s'.heap.objs.size) { s' with heap:=s'.heap.push { cls :=.type "tuple",data :=.seq z07.toList.reverse.toArray } }):
  codeAny (model prog w) A (.call (.builtin "tuple.__new__") ⟨[.type "tuple",.ref r],[]⟩) (wants Q1 E) s:=by
 refine codeAny_of_tree ?_
 show wpAny _ A.in1 (do checkBuiltinCall "tuple.__new__" ⟨[.type "tuple",.ref r],[]⟩; again (.builtin "tuple.__new__" ⟨[.type "tuple",.ref r],[]⟩)) _ _ s
 refine wpAny_bind (wpAny_of_eq (F.newCall_tuple_1 _) (wpAny_pure ⟨plainId_quiet F.plain_tuple_new _,codeAny_builtin F.entry_tuple_new ?_⟩))
 rw[Around.under_plainId F.plain_tuple_new _]
 have a1:=sub_tuple_self
 have a2:=init_tuple_lookup
 have a3:=madeHere_tuple
 have a4:=hr.ty
 wp_walk using wpAny_typeOf a4,zeH (by simpa using hh) hr ht hz
 intro s' mv lt
 show wpAny _ _ (Builtin.Tuple.tupleExact z07.toList.reverse.toArray >>= fun v=>ret v) _ _ _
 unfold Builtin.Tuple.tupleExact
 exact wpAny_bind (wpAny_newObj_type (wpAny_pure (q s' mv lt)) (by show z07.toList.reverse.toArray.size<=sizeLine; simpa using hz))
theorem zeJ {Q:Value->Shared->Prop}(hh:A.handled=none)(hr:IsRv s.heap r t ((z07.size:Int) - 1))(ht:IsTup s.heap t z07)(hz:z07.size<=sizeLine)
  (q:∀ s',Moved [r] (fun a b=>b=a) s s'->s.heap.objs.size < s'.heap.objs.size->Q (.ref s'.heap.objs.size) { s' with heap:=s'.heap.push { cls :=.type "tuple",data :=.seq z07.toList.reverse.toArray } }):wpAny (model prog w) A (call (.type "tuple") [.ref r]) Q E s:=by
 refine callType_codes (Q₁:=fun obj s1=>s1.TypeIs obj "tuple"/\Q obj s1) F.called_tuple (F.typeCall_tuple_1 _) F.entry_object_init (zdC (by simpa using hh) hr ht hz fun s' mv lt=>⟨⟨_,Heap.get?_push_size _ rfl,rfl⟩,q s' mv lt⟩) fun obj s1 h1 => ?_
 exact⟨h1.1,F.args_object_init_2 obj _,object_init_meets F.called_tuple.init.lookup F.called_tuple.made (by decide) prog w A.in1 _ s1 ⟨h1.1,rfl,h1.2⟩⟩
end
end Rvt
namespace Pu
open PySem PySem.Spec PyProof.Rows L2
noncomputable def RvO (r a:Addr)(n:Nat)(h:Heap):Prop:=Rvt.IsRv h r a ((n:Int) - 1)
section
variable {X:Cx}{E:XK}
noncomputable def zj5 (X:Cx):List V->Hp->VK->Prop:=fun vs H Q=>∃ a ys,vs=[.ref a]/\SqT X.K H a ys/\∀ r,H r=none->X.s₀.heap.objs.size<=r->Q (.ref r) (upd H r (.ext (RvO r a ys.length)))
theorem zdq:z2w X (.type "reversed") (zj5 X):=by
 intro pins s σ H xs us Q I rv ⟨a,ys,e,hS,q⟩
 subst e
 obtain⟨u,rfl,rx⟩:=z9n rv
 cases rx
 obtain⟨its,r,pl,hz⟩:=I.tuple hS
 have hlen:=r.length
 have hz':its.toArray.size < 2 ^ 62:=by
  have:ys.length < 2 ^ 62:=Nat.lt_of_le_of_lt hz (by decide)
  simp
  omega
 refine Rvt.zgo pl hz' fun tk=>⟨.ref s.heap.objs.size,_,I.laid (o :=.ext (RvO s.heap.objs.size a ys.length)) (fun b o e=>Heap.get?_push_of_some _ e) (Nat.le_refl _) ⟨⟨_,Heap.get?_push_size _ rfl,rfl,by simp[Rvt.zfx,hlen]⟩,⟨_,Heap.get?_push_size _ rfl⟩,fun h1 h2 x st=>x.at st⟩,rfl,q _ (I.hok.fresh (Nat.le_refl _)) I.sz⟩
noncomputable def zfy (X:Cx):List V->Hp->VK->Prop:=fun vs H Q=>∃ r a ys H1,vs=[.ref r]/\H=upd H1 r (.ext (RvO r a ys.length))/\H1 r=none/\X.s₀.heap.objs.size<=r/\SqT X.K H1 a ys/\∀ d,H1 d=none->Q (.ref d) (upd H1 d (.tup ys.reverse))
theorem zb0 (hc:X.calm=true):z2w X (.type "tuple") (zfy X):=by
 intro pins s σ H xs us Q I rv ⟨r,a,ys,H1,e,eH,hr,h0,hS1,q⟩
 subst e
 subst eH
 have hS:=z1X (z1p hr (.ext (RvO r a ys.length))) hS1
 obtain⟨u,rfl,rx⟩:=z9n rv
 cases rx
 have hh:X.A.handled=none:=I.ok.hd hc
 obtain⟨its,rv',pl,hz⟩:=I.tuple hS
 have hlen:=rv'.length
 have hR:Rvt.IsRv s.heap r a ((ys.length:Int) - 1):=(show z2S X.prog X.w _ s.heap r (.ext (RvO r a ys.length)) from I.hok r _ z0U).1
 have sz:its.toArray.size=ys.length:=by simp[hlen]
 rw[<- sz] at hR
 refine Rvt.zeJ hh hR pl (by rw[sz]; exact hz) fun s' mv lt => ?_
 have keep0:∀ b o,b≠r->s.heap.get? b=some o->s'.heap.get? b=some o:=fun b o hb e=>mv.heap b o (by simpa using hb) e
 obtain⟨h',g',d',tk',os'⟩:=s'
 have eg:g'=s.gens:=mv.gens
 have ed:d'=s.drawn:=mv.drawn
 have eo:os'=s.os:=mv.os
 subst eg; subst ed; subst eo
 have hsz':s.heap.get? h'.objs.size=none:=by
  cases z:s.heap.get? h'.objs.size with
  | none=>rfl
  | some o=>
   by_cases hb:h'.objs.size=r
   ·obtain⟨o1,ho1,_⟩:=hR
    have l1:h'.objs.size < s.heap.objs.size:=by rw[hb]; exact Heap.lt_size ho1
    exact absurd (Nat.lt_trans l1 lt) (Nat.lt_irrefl _)
   ·exact absurd (Heap.lt_size (keep0 _ o hb z)) (Nat.lt_irrefl _)
 have hn1:H1 h'.objs.size=none:=by
  have:=I.hok.none_of hsz'
  cases z:H1 h'.objs.size with
  | none=>rfl
  | some o=>rw[z1p hr _ _ _ z] at this; cases this
 refine⟨.ref h'.objs.size,_,I.spent (o :=.tup ys.reverse) (t':=tk') hr h0 (fun b u hb e=>Heap.get?_push_of_some _ (keep0 b u hb e)) hsz' ⟨by simpa using hz,its.reverse,rv'.reverse,⟨_,Heap.get?_push_size _ rfl,rfl,0,by simp⟩⟩,rfl,q _ hn1⟩
noncomputable def z9O (d:D)(Q:DK):Prop:=match d with
 | .tup l=>Q (.tup l.reverse)
 | _=>False
theorem zar (d:D)(Q Q':DK)(m:∀ d,Q d->Q' d)(h:z9O d Q):z9O d Q':=by
 cases d with
 | tup l=>exact m _ h
 | _=>exact h.elim
noncomputable def z3n:Fn:=fn1 z9O zar
theorem zaq {d:D}{Q:DK}(h:z9O d Q):∃ l,d = .tup l/\Q (.tup l.reverse):=by
 cases d with
 | tup l=>exact⟨l,rfl,h⟩
 | _=>exact h.elim
theorem z7K {e:Expr}{x:Ex}{p1 p2 p3 p4:Pos}(hc:X.calm=true)(hg:Gl X "tuple")(hm:X.mg "tuple"=none)(hg2:Gl X "reversed")(hm2:X.mg "reversed"=none)(ha:QXA X E [e] [x])
  (hs1:starEach [e] X.env=(false,eval e X.env)::starEach [] X.env:=by rfl) (hs2:starEach [.Call (.Name "reversed" p2) [e] [] p3] X.env=(false,eval (.Call (.Name "reversed" p2) [e] [] p3) X.env)::starEach [] X.env:=by rfl):QX X E (.Call (.Name "tuple" p1) [.Call (.Name "reversed" p2) [e] [] p3] [] p4) (.op z3n [x]):=
 QE.imp (z85 (zb0 hc) hg hm (by rfl) (z5G (z85 zdq hg2 hm2 (by rfl) ha (by decide) (by decide) hs1 (by rfl)) z9e hs2) (by decide) (by decide) hs2 (by rfl)) fun σ H Q ⟨G,ρ,Q0,X0,hs,ab,hr,hk,hx⟩=>by
  refine⟨G,ρ,fun ds=>z3n.run ds Q0 X0,X0,hs,ab,hr,fun ds vs G1 H1 q g1 g2 g3 rds => ?_,hx⟩
  obtain⟨d,rfl,q'⟩:=z63 q
  obtain⟨v,rfl,rd⟩:=rds1 rds
  obtain⟨l,rfl,q2⟩:=zaq q'
  obtain⟨a,xs,rfl,h1,h2⟩:=z49 rd
  refine⟨a,xs,rfl,z1X g2 h1,fun r hr0 hr1=>⟨r,a,xs,H1,rfl,rfl,hr0,hr1,z1X g2 h1,fun d hd => ?_⟩⟩
  exact(hk.same g1 g3).new g2 hd q2 (by rw[RD]; exact⟨d,xs.reverse,rfl,SqT.of z0U,(h2.rev).same (z1p (z3o g2 hd) _)⟩)
end
end Pu
namespace Tmu
open PySem PyProof.Rows
section
variable {prog:Program}{w:World}{A:Around}{E:Value->Shared->Prop}{s:Shared}{t:Addr}{z07:Array Value}
theorem mul {Q:Value->Shared->Prop}{n:Int}{u:Tok}(ht:IsTup s.heap t z07)(h0:z07.size≠0)(n1:1<=n)(hz:z07.size*n.toNat<=100000)(hn:n<=100)(q1:n=1->Q (.ref t) s)(q2:n≠1->Q (.ref s.heap.objs.size) { s with heap:=s.heap.push { cls :=.type "tuple",data :=.seq ((List.replicate n.toNat z07).foldl (· ++ ·) #[]) } }):
  wpAny (model prog w) A (call (.builtin "tuple.__mul__") [.ref t,.int n u]) Q E s:=by
 refine wpAny_call_entry F.slot_tuple_mul ht.typeIs F.entry_tuple_mul ?_ (F.args_tuple_mul_2 _ _)
 show wpAny _ _ (Builtin.«tuple.__mul__» _) _ _ _
 unfold Builtin.«tuple.__mul__»
 wp_delta
 rw[if_neg (show ¬ ((!({ pos:=[Value.ref t,Value.int n u] }:Args).kw.isEmpty)=true) from Bool.false_ne_true)]
 refine wpAny_bind (wpAny_of_eq (a:=n) rfl ?_)
 dsimp only
 have c1:(decide (n < -2 ^ 63) || decide (n>=2 ^ 63))=false:=by
  rw[decide_eq_false (by omega),decide_eq_false (by omega)]
  rfl
 have he:z07.isEmpty=false:=by
  rw[Array.isEmpty_eq_false_iff]
  intro z
  rw[z] at h0
  exact h0 rfl
 rw[c1,if_neg (by decide)]
 refine wpAny_bind (tupleItemsOf_ ht ?_)
 rw[he,Bool.false_or]
 by_cases hn1:n=1
 ·rw[if_pos (by rw[hn1]; rfl)]
  unfold Builtin.Tuple.tupleIsExact
  refine wpAny_bind (wpAny_bind (wpAny_typeOf ht.typeIs (wpAny_pure ?_)))
  rw[if_pos (by decide)]
  exact wpAny_bind (wpAny_rule (wpAny_pure ⟨_,rfl,q1 hn1⟩))
 ·have hm:((z07.size*n.toNat:Nat):Int)=(z07.size:Int)*n:=by
   rw[Int.natCast_mul,Int.toNat_of_nonneg (by omega)]
  have c2:¬ (z07.size:Int)*n > (2 ^ 63 - 1) / 8:=by
   rw[<- hm]
   omega
  have c3:Builtin.Tuple.tupleTooMany ((z07.size:Int)*n)=false:=by
   unfold Builtin.Tuple.tupleTooMany
   rw[<- hm]
   exact decide_eq_false (by show ¬ ((z07.size*n.toNat:Nat):Int) > ((2 ^ 24:Nat):Int); omega)
  rw[if_neg (by simpa using hn1),Bool.or_false,if_neg (by simp; omega),if_neg c2,c3,if_neg (by decide)]
  unfold Builtin.Tuple.tupleExact
  have hs:∀ (k:Nat) (a:Array Value),((List.replicate k z07).foldl (· ++ ·) a).size=a.size+z07.size*k:=by
   intro k
   induction k with
   | zero=>intro a; simp
   | succ k ih=>
    intro a
    rw[List.replicate_succ,List.foldl_cons,ih,Array.size_append,Nat.mul_succ]
    omega
  refine wpAny_bind (wpAny_newObj_type (wpAny_pure ⟨_,rfl,q2 hn1⟩) ?_)
  show ((List.replicate n.toNat z07).foldl (· ++ ·) #[]).size<=2 ^ 24
  rw[hs]
  show 0+z07.size*n.toNat<=2 ^ 24
  omega
end
end Tmu
namespace Pu
open PySem PySem.Spec PyProof.Rows L2
end Pu
namespace Pu
open PySem L2
noncomputable def z09:Fn:=Fn.mkN 1 5 (.seq (.set 1 (.c (.int 0)))
 (.seq (.for_ [] (.nm 2) (.v 0) (.seq (.set 3 (.op pAbs [(.v 2)]))
 (.wh (.op pGt [(.v 3),(.c (.int 0))]) (.seq (.set 4 (.op pMod [(.v 1),(.v 3)]))
 (.seq (.set 1 (.v 3))
 (.set 3 (.v 4)))))))
 (.ret (.op z4B [(.comp 1 [1] (.nm 0) (.v 0) none (.op z3i [(.v 0),(.v 1)]))]))))
noncomputable def z1E:Fn:=Fn.mkN 3 6 (.seq (.set 3 (.op pIx [(.v 2),(.c (.int 0))]))
 (.seq (.set 4 (.op pAdd [(.op z1e [(.op pIx [(.v 0),(.c (.int 0))]),(.op pIx [(.v 2),(.c (.int 1))])]),(.op z1e [(.op z1e [(.op pIx [(.v 1),(.c (.int 0))]),(.v 3)]),(.op pIx [(.v 0),(.c (.int 2))])])]))
 (.seq (.set 5 (.op pAdd [(.op z1e [(.op pIx [(.v 0),(.c (.int 1))]),(.op pIx [(.v 2),(.c (.int 1))])]),(.op z1e [(.op z1e [(.op pIx [(.v 1),(.c (.int 1))]),(.v 3)]),(.op pIx [(.v 0),(.c (.int 2))])])]))
 (.ret (.op z09 [(.op pLst [(.v 4),(.v 5),(.op z1e [(.op pIx [(.v 0),(.c (.int 2))]),(.op pIx [(.v 2),(.c (.int 1))])])])])))))
noncomputable def z1l:Fn:=Fn.mkN 2 2 (.ret (.op z09 [(.op pLst [(.op pAdd [(.op z1e [(.op pIx [(.v 0),(.c (.int 0))]),(.op pIx [(.v 1),(.c (.int 1))])]),(.op z1e [(.op pIx [(.v 1),(.c (.int 0))]),(.op pIx [(.v 0),(.c (.int 1))])])]),(.op z1e [(.op pIx [(.v 0),(.c (.int 1))]),(.op pIx [(.v 1),(.c (.int 1))])])])]))
noncomputable def z27:Fn:=Fn.mkN 2 7 (.seq (.set 2 (.op pTup [(.c (.int 0)),(.c (.int 0)),(.c (.int 1))]))
 (.seq (.forr [(.op pLen [(.v 1)])] (.nm 3) (.seq (.set 4 (.op pTup [(.c (.int 0)),(.c (.int 1))]))
 (.seq (.for_ [] (.tp [5,6]) (.op pIx [(.v 1),(.v 3)]) (.seq (.set 2 (.op z1E [(.v 2),(.op pIx [(.op pIx [(.op pIx [(.v 0),(.v 3)]),(.c (.int 0))]),(.v 5)]),(.v 6)]))
 (.set 4 (.op z1l [(.v 4),(.v 6)]))))
 (.set 2 (.op z1E [(.v 2),(.op pIx [(.op pIx [(.v 0),(.v 3)]),(.c (.int 1))]),(.v 4)])))))
 (.ret (.v 2))))
noncomputable def z1D:Fn:=Fn.mkN 3 9 (.seq (.set 3 (.op z05 [(.v 0),(.c (.int 31)),(.op pAdd [(.v 2),(.c (.int 1))])]))
 (.seq (.set 4 (.op z05 [(.v 0),(.c (.int 32)),(.v 1)]))
 (.seq (.set 5 (.op z05 [(.v 0),(.c (.int 33)),(.v 1)]))
 (.seq (.set 6 (.op z05 [(.v 0),(.c (.int 34)),(.v 1)]))
 (.seq (.set 7 (.op z05 [(.v 0),(.c (.int 35)),(.op pAdd [(.op pSub [(.v 2),(.v 3)]),(.c (.int 1))])]))
 (.seq (.own 8 (.comp 1 [] (.nm 0) (.op z6K [(.v 1)]) none (.c (.int 0))))
 (.seq (.put 8 (.v 4) (.op pAdd [(.op pIx [(.v 8),(.v 4)]),(.v 3)]))
 (.seq (.put 8 (.v 5) (.op pAdd [(.op pIx [(.v 8),(.v 5)]),(.v 7)]))
 (.seq (.put 8 (.v 6) (.op pSub [(.op pSub [(.op pAdd [(.op pIx [(.v 8),(.v 6)]),(.v 2)]),(.v 3)]),(.v 7)]))
 (.ret (.v 8)))))))))))
noncomputable def z0Q:Fn:=Fn.mkN 2 6 (.seq (.own 2 (.op pLst []))
 (.seq (.forr [(.op pLen [(.v 0)])] (.nm 3) (.seq (.set 4 (.op pAdd [(.c (.int 1)),(.op z05 [(.v 1),(.op pAdd [(.c (.int 40)),(.v 3)]),(.op pIx [(.op pLst [(.c (.int 1)),(.c (.int 6)),(.c (.int 60))]),(.op z05 [(.v 1),(.c (.int 39)),(.c (.int 3))])])])]))
 (.seq (.setx [] 5 (.op z1D [(.op pAdd [(.v 1),(.op z1e [(.c (.int 7)),(.v 3)])]),(.op pLen [(.op pIx [(.op pIx [(.v 0),(.v 3)]),(.c (.int 0))])]),(.v 4)]))
 (.seq (.ifs (.op pEq [(.op z05 [(.op pAdd [(.v 1),(.v 3)]),(.c (.int 38)),(.c (.int 4))]),(.c (.int 0))]) (.seq (.setx [] 5 (.comp 1 [1,3] (.nm 0) (.op z6K [(.op pLen [(.op pIx [(.op pIx [(.v 0),(.v 3)]),(.c (.int 0))])])]) none (.op pAdd [(.c (.int 1)),(.op z05 [(.op pAdd [(.v 1),(.v 2)]),(.op pAdd [(.c (.int 120)),(.v 0)]),(.c (.int 5))])])))
 (.set 4 (.op pSum [(.v 5)]))) .skip)
 (.app 2 (.op z4B [(.comp 1 [4,5] (.nm 0) (.op z6K [(.op pLen [(.v 5)])]) (some (.op pGt [(.op pIx [(.v 2),(.v 0)]),(.c (.int 0))])) (.op pTup [(.v 0),(.op z09 [(.op pLst [(.op pIx [(.v 2),(.v 0)]),(.v 1)])])]))]))))))
 (.ret (.op z4B [(.v 2)]))))
noncomputable def z31:Fn:=Fn.mkN 2 2 (.ret (.op pLt [(.op z1e [(.op pIx [(.v 0),(.c (.int 0))]),(.op pIx [(.v 1),(.c (.int 1))])]),(.op z1e [(.op pIx [(.v 1),(.c (.int 0))]),(.op pIx [(.v 0),(.c (.int 1))])])]))
noncomputable def z0m:Nat->Fn
 | 0=>Fn.bot
 | n+1=>Fn.mkN 2 2 (.seq (.ifs (.op (pIsi "tuple") [(.v 1)]) (.seq (.ifs (.or (.not (.op (pIsi "tuple") [(.v 0)])) (.op pNe [(.op pLen [(.v 0)]),(.op pLen [(.v 1)])])) (.ret (.c (.bl false))) .skip)
 (.ret (.op pAll [(.comp 1 [0,1] (.nm 0) (.op z6K [(.op pLen [(.v 1)])]) none (.op (z0m n) [(.op pIx [(.v 1),(.v 0)]),(.op pIx [(.v 2),(.v 0)])]))]))) .skip)
 (.seq (.ifs (.op pIs [(.v 1),(.c .non)]) (.ret (.op pIs [(.v 0),(.c .non)])) .skip)
 (.seq (.ifs (.op (pIsi "str") [(.v 1)]) (.ret (.and (.op (pIsi "str") [(.v 0)]) (.op pEq [(.v 0),(.v 1)]))) .skip)
 (.seq (.ifs (.op (pIsi "bool") [(.v 1)]) (.ret (.and (.op (pIsi "bool") [(.v 0)]) (.op pEq [(.v 0),(.v 1)]))) .skip)
 (.ret (.and (.op (pIsi "int") [(.v 0)]) (.and (.not (.op (pIsi "bool") [(.v 0)])) (.op pEq [(.v 0),(.v 1)]))))))))
noncomputable def z0S:Fn:=z0m 4
end Pu
namespace Pu
open PySem L2
noncomputable def z1C:Fn:=Fn.mkN 2 6 (.seq (.set 2 (.sl (.v 0) none (some (.op z05 [(.v 1),(.c (.int 81)),(.op pAdd [(.op pLen [(.v 0)]),(.c (.int 1))])]))))
 (.seq (.ifs (.op pEq [(.v 2),(.op pTup [])]) (.ret (.v 2)) .skip)
 (.seq (.set 3 (.op pAdd [(.c (.int 1)),(.op z05 [(.v 1),(.c (.int 82)),(.c (.int 7))])]))
 (.seq (.set 4 (.op pTup [(.op pAdd [(.c (.int 1)),(.op z05 [(.v 1),(.c (.int 83)),(.v 3)])]),(.v 3)]))
 (.seq (.set 5 (.op z4B [(.comp 2 [4] (.tp [0,1]) (.op pIx [(.v 2),(.op pNeg [(.c (.int 1))])]) none (.op pTup [(.v 0),(.op z09 [(.op pLst [(.op z1e [(.op pIx [(.v 1),(.c (.int 0))]),(.op pIx [(.v 2),(.c (.int 0))])]),(.op z1e [(.op pIx [(.v 1),(.c (.int 1))]),(.op pIx [(.v 2),(.c (.int 1))])])])])]))]))
 (.ret (.op pAdd [(.sl (.v 2) none (some (.op pNeg [(.c (.int 1))]))),(.op pTup [(.v 5)])])))))))
noncomputable def z42:Fn:=Fn.mkN 2 4 (.seq (.ifs (.op pNe [(.op pLen [(.v 1)]),(.op pLen [(.v 0)])]) (.ret (.c (.bl false))) .skip)
 (.seq (.for_ [] (.tp [2,3]) (.op zcJ [(.v 0),(.v 1)]) (.ifs (.or (.not (.op z13 [(.op pIx [(.v 2),(.c (.int 0))]),(.v 3)])) (.op pNe [(.op z0C [(.v 3)]),(.op pTup [(.c (.int 1)),(.c (.int 1))])])) (.ret (.c (.bl false))) .skip))
 (.ret (.c (.bl true)))))
noncomputable def z0N:Fn:=Fn.mkN 2 4 (.seq (.ifs (.op pEq [(.op pLen [(.v 1)]),(.c (.int 0))]) (.ret (.c (.bl true))) .skip)
 (.seq (.ifs (.op pGt [(.op pLen [(.v 1)]),(.op pLen [(.v 0)])]) (.ret (.c (.bl false))) .skip)
 (.seq (.set 2 (.op pSub [(.op pLen [(.v 1)]),(.c (.int 1))]))
 (.seq (.set 3 (.op pIx [(.v 1),(.v 2)]))
 (.seq (.ifs (.or (.op pEq [(.op pLen [(.v 3)]),(.c (.int 0))]) (.or (.not (.op z13 [(.op pIx [(.op pIx [(.v 0),(.v 2)]),(.c (.int 0))]),(.v 3)])) (.op z31 [(.op pTup [(.c (.int 1)),(.c (.int 1))]),(.op z0C [(.v 3)])]))) (.ret (.c (.bl false))) .skip)
 (.ret (.op z42 [(.sl (.v 0) none (some (.v 2))),(.sl (.v 1) none (some (.v 2)))])))))))
noncomputable def z1x:Fn:=Fn.mk' 2 7 (.seq (.ifs (.not (.op z0N [(.v 0),(.v 1)])) (.raise "NoCourse") .skip)
 (.seq (.set 2 (.op pTup [(.c (.int 0)),(.c (.int 0)),(.c (.int 1))]))
 (.seq (.calm (.for_ [] (.tp [3,4]) (.op zcJ [(.v 0),(.v 1)]) (.seq (.set 5 (.op pIx [(.v 3),(.c (.int 1))]))
 (.seq (.set 6 (.op z1N [(.op pTup [(.op pIx [(.v 5),(.c (.int 0))]),(.op pIx [(.v 5),(.c (.int 1))]),(.c (.int 1))]),(.op z0C [(.v 4)])]))
 (.set 2 (.op z1u [(.v 2),(.op z1u [(.op z3f [(.op pIx [(.v 3),(.c (.int 0))]),(.v 4)]),(.v 6)])]))))))
 (.ret (.v 2)))))
noncomputable def z1S:Fn:=Fn.mkN 1 3 (.seq (.set 1 (.op pTup [(.c (.int 0)),(.c (.int 1))]))
 (.seq (.for_ [] (.nm 2) (.v 0) (.set 1 (.op z6A [(.v 1),(.op z0C [(.v 2)])])))
 (.ret (.v 1))))
noncomputable def z1v:Fn:=Fn.mkN 1 5 (.seq (.set 1 (.op pTup [(.c (.int 0)),(.c (.int 1))]))
 (.seq (.for_ [] (.nm 2) (.v 0) (.for_ [] (.tp [3,4]) (.v 2) (.set 1 (.op z1l [(.v 1),(.v 4)]))))
 (.ret (.v 1))))
noncomputable def z1m:Fn:=Fn.mkN 2 4 (.seq (.set 2 (.c .non))
 (.seq (.tryc none z1x [(.v 0),(.v 1)] (fun x=>decide (x∈(["NoCourse","NoShares"]:List Str))) (some 3) (.set 2 (.v 3)))
 (.seq (.ifs (.or (.op pIs [(.v 2),(.c .non)]) (.or (.not (.op (pIsx ["NoCourse","NoShares"] (fun x=>(x == "NoCourse"))) [(.v 2)])) (.not (.op (pIsx ["NoCourse","NoShares"] (fun _=>true)) [(.v 2)])))) (.ret (.c (.bl false))) .skip)
 (.ret (.not (.op (pIsx ["NoCourse","NoShares"] (fun x=>(x == "NoShares"))) [(.v 2)]))))))
noncomputable def z0I:Fn:=Fn.mkN 3 7 (.seq (.set 3 (.op pIx [(.op pIx [(.v 0),(.c (.int 0))]),(.c (.int 0))]))
 (.seq (.set 4 (.op pIx [(.op pIx [(.v 0),(.c (.int 0))]),(.c (.int 1))]))
 (.seq (.set 5 (.sl (.v 0) (some (.c (.int 1))) none))
 (.seq (.ifs (.op pEq [(.v 1),(.c (.int 2))]) (.ret (.op pTup [])) .skip)
 (.seq (.ifs (.op pEq [(.v 1),(.c (.int 3))]) (.ret (.op pAdd [(.sl (.v 0) none (some (.op pNeg [(.c (.int 1))]))),(.op pTup [(.op pTup [(.v 2),(.op pIx [(.op pIx [(.v 0),(.op pNeg [(.c (.int 1))])]),(.c (.int 1))])])])])) .skip)
 (.seq (.ifs (.op pEq [(.v 1),(.c (.int 4))]) (.ret (.op pAdd [(.op pTup [(.op pTup [(.op pNeg [(.c (.int 1))]),(.v 4)])]),(.v 5)])) .skip)
 (.seq (.ifs (.op pEq [(.v 1),(.c (.int 5))]) (.seq (.set 6 (.op pTup [(.op pIx [(.v 4),(.c (.int 0))]),(.op z1e [(.c (.int 2)),(.op pIx [(.v 4),(.c (.int 1))])])]))
 (.ret (.op pAdd [(.op pTup [(.op pTup [(.v 3),(.v 6)]),(.op pTup [(.v 3),(.v 6)])]),(.v 5)]))) .skip)
 (.seq (.ifs (.op pEq [(.v 1),(.c (.int 6))]) (.ret (.op pAdd [(.op z3n [(.v 0)]),(.op pTup [(.op pTup [(.c (.int 0)),(.op pTup [(.c (.int 0)),(.c (.int 1))])])])])) .skip)
 (.seq (.ifs (.op pEq [(.v 1),(.c (.int 7))]) (.ret (.op pAdd [(.op pTup [(.op pTup [(.v 3),(.op pTup [(.c (.int 0)),(.c (.int 1))])])]),(.v 5)])) .skip)
 (.seq (.ifs (.op pEq [(.v 1),(.c (.int 8))]) (.ret (.op pAdd [(.op pTup [(.op pTup [(.v 3),(.op pTup [(.op z1e [(.c (.int 2)),(.op pIx [(.v 4),(.c (.int 0))])]),(.op z1e [(.c (.int 2)),(.op pIx [(.v 4),(.c (.int 1))])])])])]),(.v 5)])) .skip)
 (.seq (.ifs (.op pEq [(.v 1),(.c (.int 9))]) (.ret (.op pAdd [(.op pTup [(.op pTup [(.v 3),(.op pTup [(.op pIx [(.v 4),(.c (.int 0))]),(.c (.int 0))])])]),(.v 5)])) .skip)
 (.seq (.ifs (.op pEq [(.v 1),(.c (.int 10))]) (.ret (.op pAdd [(.op pTup [(.op pTup [(.v 3),(.op pTup [(.op pNeg [(.op pIx [(.v 4),(.c (.int 0))])]),(.op pIx [(.v 4),(.c (.int 1))])])])]),(.v 5)])) .skip)
 (.ret (.op pAdd [(.op pTup [(.op pTup [(.v 3),(.op pTup [(.op pAdd [(.op pIx [(.v 4),(.c (.int 0))]),(.op pIx [(.v 4),(.c (.int 1))])]),(.op pIx [(.v 4),(.c (.int 1))])])])]),(.v 5)]))))))))))))))
noncomputable def z28:Fn:=Fn.mkN 3 9 (.seq (.set 3 (.op z05 [(.v 2),(.c (.int 84)),(.c (.int 8))]))
 (.seq (.ifs (.or (.op pEq [(.v 3),(.c (.int 0))]) (.op pEq [(.v 1),(.op pTup [])])) (.ret (.op pAdd [(.v 1),(.op pTup [(.op pTup [])])])) .skip)
 (.seq (.ifs (.op pEq [(.v 3),(.c (.int 1))]) (.seq (.set 4 (.op z0Q [(.v 0),(.v 2)]))
 (.seq (.set 5 (.op z4B [(.comp 2 [] (.tp [0,1]) (.op pIx [(.v 4),(.c (.int 0))]) none (.op pTup [(.v 0),(.op z09 [(.op pLst [(.op pIx [(.v 1),(.c (.int 0))]),(.op z1e [(.c (.int 2)),(.op pIx [(.v 1),(.c (.int 1))])])])])]))]))
 (.ret (.op pAdd [(.op pTup [(.v 5)]),(.v 1)])))) .skip)
 (.seq (.set 6 (.op z05 [(.v 2),(.c (.int 52)),(.op pLen [(.v 1)])]))
 (.seq (.set 7 (.op pAdd [(.c (.int 2)),(.op z05 [(.v 2),(.c (.int 85)),(.c (.int 10))])]))
 (.seq (.set 8 (.op z0I [(.op pIx [(.v 1),(.v 6)]),(.v 7),(.op pLen [(.op pIx [(.op pIx [(.v 0),(.v 6)]),(.c (.int 0))])])]))
 (.ret (.op pAdd [(.op pAdd [(.sl (.v 1) none (some (.v 6))),(.op pTup [(.v 8)])]),(.sl (.v 1) (some (.op pAdd [(.v 6),(.c (.int 1))])) none)]))))))))
noncomputable def z8E:Fn:=Fn.mk' 1 5 (.seq (.set 1 (.op z1k [(.v 0)]))
 (.seq (.calm (.for_ [] (.nm 2) (.sl (.op pAdd [(.op pLst [(.c (.int 0))]),(.v 0)]) (some (.op pNeg [(.c (.int 4))])) none) (.seq (.set 3 (.op z1C [(.op z0Q [(.v 1),(.v 2)]),(.v 2)]))
 (.seq (.set 4 (.op z27 [(.v 1),(.v 3)]))
 (.seq (.ifs (.not (.op z0S [(.op z1x [(.v 1),(.v 3)]),(.v 4)])) (.ret (.c (.bl false))) .skip)
 (.seq (.ifs (.not (.op z0S [(.op z1S [(.v 3)]),(.op z1v [(.v 3)])])) (.ret (.c (.bl false))) .skip)
 (.seq (.ifs (.and (.op pNe [(.v 1),(.op pTup [])]) (.not (.op z1m [(.v 1),(.op z28 [(.v 1),(.v 3),(.v 2)])]))) (.ret (.c (.bl false))) .skip)
 (.ifs (.not (.op z0S [(.op z1x [(.v 1),(.v 3)]),(.v 4)])) (.ret (.c (.bl false))) .skip))))))))
 (.ret (.and (.op z0S [(.op z1x [(.v 1),(.op pTup [])]),(.op pTup [(.c (.int 0)),(.c (.int 0)),(.c (.int 1))])]) (.op z0S [(.op z1S [(.op pTup [])]),(.op pTup [(.c (.int 0)),(.c (.int 1))])])))))
end Pu
namespace Pu
open PySem PySem.Spec PyProof.Rows L2 Tab
end Pu
namespace Pu
open PySem L2
end Pu
namespace Geo
end Geo
local macro_rules | `(tactic| walk_at "bt") => `(tactic| first | assumption | (refine L2.Bt.add ?_ ?_ <;> walk_at "bt") | (refine L2.Bt.sub ?_ ?_ <;> walk_at "bt") | (refine L2.Bt.mul ?_ ?_ <;> walk_at "bt") | (refine L2.Bt.neg ?_; walk_at "bt") | exact L2.bt_k (by decide +kernel) | exact L2.bt_n (by omega) (by omega))
local macro_rules | `(tactic| walk_at "mu") => `(tactic| exact⟨L2.Bt.le (by walk_at "bt") (by decide),L2.Bt.le (by walk_at "bt") (by decide)⟩)
local macro_rules | `(tactic| walk_at "ps") => `(tactic| first | assumption | decide | omega)
local macro_rules | `(tactic| walk_at "bb") => `(tactic| first | exact L2.zbx (by decide) (by decide) | exact L2.Bt.le (by walk_at "bt") (by decide) | exact L2.zbx (by omega) (by omega))
local macro_rules | `(tactic| walk_at "sf") => `(tactic| first | exact Pu.Safe.of_noL rfl rfl _ | exact Pu.Safe.of_noL (Pu.zbj _) (Pu.zbk _) _ | (repeat (first | exact trivial | refine⟨trivial,?_⟩)) | assumption)
local macro_rules | `(tactic| walk_at "en") => `(tactic| try simp only[List.set_cons_zero,List.set_cons_succ,List.map_cons,List.map_nil,List.replicate,List.cons_append,List.nil_append,Nat.reduceSub,Pu.dem,Pu.vis,Pu.visB,Pu.demB,List.getElem?_cons_zero,List.getElem?_cons_succ,Option.getD_some,Pu.z1W,List.replicate_succ,List.replicate_zero])
local macro_rules | `(tactic| walk_at "st") => `(tactic| first
 | with_reducible refine Pu.e_c ?_
 | ((with_reducible refine Pu.e_v ?_); (refine Pu.z8a ?_))
 | with_reducible refine Pu.zez ?_
 | with_reducible refine Pu.zde ?_
 | with_reducible refine Pu.zjR ?_
 | with_reducible refine Pu.zjQ ?_
 | with_reducible refine Pu.ziy ?_
 | with_reducible refine Pu.zaN ?_
 | with_reducible refine Pu.zeW ?_
 | with_reducible refine Pu.zjI ?_
 | with_reducible refine Pu.zjB ?_
 | with_reducible refine Pu.zjC ?_
 | ((with_reducible refine Pu.zjD ?_ ?_); (focus walk_at "mu"))
 | ((with_reducible refine Pu.zf7 ?_ ?_ ?_); (focus walk_at "ps"); (focus walk_at "bb"))
 | ((with_reducible refine Pu.zhY ?_ ?_); (focus walk_at "ps"))
 | ((with_reducible refine Pu.zhW ?_ ?_); (focus exact⟨by decide,by decide,by decide⟩))
 | ((with_reducible refine Pu.zjF ?_); (try refine Pu.z8a ?_))
 | ((with_reducible refine Pu.zjG ?_); (try refine Pu.z8a ?_))
 | with_reducible refine Pu.o_lt ?_
 | with_reducible refine Pu.o_le ?_
 | with_reducible refine Pu.o_gt ?_
 | with_reducible refine Pu.o_ge ?_
 | with_reducible refine Pu.o_eq ?_
 | with_reducible refine Pu.o_ne ?_
 | with_reducible refine Pu.o_is ?_
 | with_reducible refine Pu.zga ?_
 | with_reducible refine Pu.zi4 ?_
 | with_reducible refine Pu.zi3 ?_
 | ((with_reducible refine Pu.zjA ?_ ?_); (focus (simp only[List.length_cons,List.length_nil]; decide)))
 | ((with_reducible refine Pu.zjE ?_ ?_); (focus (simp only[List.length_cons,List.length_nil]; decide)))
 | with_reducible refine Pu.zhV ?_
 | with_reducible refine Pu.zhU ?_
 | with_reducible refine Pu.zi2 ?_
 | with_reducible refine Pu.zi1 ?_
 | with_reducible refine Pu.zjJ ?_
 | with_reducible refine Pu.zib ?_
 | with_reducible refine Pu.zic ?_
 | with_reducible refine Pu.zi9 ?_
 | with_reducible refine Pu.zia ?_
 | with_reducible refine Pu.zi5 ?_
 | with_reducible refine Pu.zi8 ?_
 | with_reducible refine Pu.zi6 ?_
 | with_reducible refine Pu.zi7 ?_
 | with_reducible refine Pu.zi0 ?_
 | with_reducible refine Pu.zhZ ?_
 | with_reducible refine Pu.zjT ?_
 | with_reducible refine Pu.e_or ?_
 | with_reducible refine Pu.ziz ?_
 | with_reducible refine Pu.n_bl ?_
 | with_reducible refine Pu.zjS ?_
 | with_reducible refine Pu.zfb ?_
 | with_reducible refine Pu.zjO ?_
 | with_reducible refine Pu.zjN ?_
 | with_reducible refine Pu.e_sl ?_
 | with_reducible refine Pu.zjP ?_
 | with_reducible refine Pu.zhG ?_
 | with_reducible refine Pu.zhF ?_
 | with_reducible refine Pu.zir ?_
 | with_reducible refine Pu.zk0 ?_
 | with_reducible refine Pu.zjZ ?_
 | with_reducible refine Pu.z3F ?_
 | with_reducible refine Pu.z4I ?_
 | with_reducible refine Pu.za6 ?_
 | with_reducible refine Pu.ziT ?_
 | with_reducible refine Pu.ziV ?_
 | with_reducible refine Pu.zgS ?_
 | with_reducible refine Pu.s_if ?_
 | with_reducible refine Pu.ziU ?_
 | with_reducible refine Pu.zgT ?_
 | with_reducible refine Pu.zgR ?_
 | with_reducible refine Pu.s_ex ?_
 | with_reducible refine Pu.zfr ?_
 | with_reducible refine Pu.zgZ ?_
 | ((with_reducible refine Pu.ziX ?_); (walk_at "en"))
 | with_reducible refine Pu.zfv ?_
 | with_reducible refine Pu.zfu ?_
 | ((with_reducible refine Pu.z3b ?_ ?_); (focus walk_at "sf"); (walk_at "en"))
 | ((with_reducible refine Pu.zjX ?_); (walk_at "en"))
 | ((with_reducible refine Pu.ziD ?_); (walk_at "en")))
local macro_rules | `(tactic| walk_at "go") => `(tactic| repeat walk_at "st")
local macro_rules | `(tactic| walk_at "fn") => `(tactic| ((refine Pu.zj1 rfl ?_); (walk_at "en")))
local macro_rules | `(tactic| walk_at "fe") => `(tactic| ((refine Pu.zj2 rfl ?_); (walk_at "en")))
namespace Pu
open PySem L2
theorem szl {n:Nat}(h:n<=1000000):n<=sizeLine:=Nat.le_trans h (by decide)
theorem szl' {n:Nat}(h:n<=1000000):n < sizeLine:=Nat.lt_of_le_of_lt h (by decide)
noncomputable abbrev Vb (n:Nat)(p:Int × Int):Prop:=Bt n p.1/\Bt n p.2
noncomputable abbrev Wb (n:Nat)(l:List (Int × Int)):Prop:=∀ p∈l,Vb n p
theorem Vb.le {m n:Nat}{p:Int × Int}(h:Vb m p)(q:m<=n:=by decide):Vb n p:=⟨h.1.le q,h.2.le q⟩
theorem zbt {α:Type}(l:List α):(l.drop (HT.sIx l.length 0 none)).take (HT.sIx l.length l.length (some (-1)) - HT.sIx l.length 0 none)=l.dropLast:=by
 rw[List.dropLast_eq_take]
 show (l.drop 0).take ((if (-1:Int) < 0 then ((-1:Int)+(l.length:Int)).toNat else min (-1:Int).toNat l.length) - 0)=_
 rw[if_pos (by decide),List.drop_zero]
 congr 1
 lia
noncomputable def dot (p r:Int × Int):Int:=p.1*r.1+p.2*r.2
end Pu
namespace Geo
end Geo
namespace Geo
noncomputable def In (h:List P)(p:P):Prop:=match h with
 | []=>False
 | [m]=>p=m
 | [a,b]=>cr a b p=0/\0<=dot a b p/\0<=dot b a p
 | h=>∀ j a b,j < h.length->h[(j+h.length - 1) % h.length]? = some a->h[j]? = some b->0<=cr a b p
noncomputable def cy (h:List P)(i:Nat):P:=h.getD (i % h.length) (0,0)
theorem zbs {h:List P}{i:Nat}(hl:0 < h.length):h[i % h.length]? = some (cy h i):=by
 unfold cy
 have:=Nat.mod_lt i hl
 rw[List.getD_eq_getElem?_getD,List.getElem?_eq_getElem this]
 rfl
end Geo
namespace Pu
open PySem L2
theorem ziJ {α:Type}{l:List α}{k:Nat}(h:k < l.length):atI l (k:Int)=l[k]? := by
 unfold atI ixN
 rw[if_pos (by lia),if_pos (by lia)]
 simp
noncomputable abbrev P:=Geo.P
theorem zeF {h:List P}{k:Nat}(hk:k < h.length):atI h (k:Int)=some (Geo.cy h k):=by
 rw[ziJ hk, <- Geo.zbs (i:=k) (by lia),Nat.mod_eq_of_lt hk]
end Pu
namespace Geo
end Geo
namespace Geo
theorem zeS (l:List Int):l.sum=((List.range l.length).map fun j=>l.getD j 0).sum:=by
 congr 1
 apply List.ext_getElem
 ·simp
 ·intro i h1 h2
  rw[List.getElem_map,List.getElem_range,List.getD_eq_getElem?_getD,List.getElem?_eq_getElem h1]
  rfl
end Geo
namespace Pu
open PySem L2
noncomputable def Far (m:Int)(p:Int × Int):Prop:=(-m<=p.1/\p.1<=m) /\ -m<=p.2/\p.2<=m
theorem Far.vb {m:Int}{n:Nat}{p:Int × Int}(h:Far m p)(hm:m < 2 ^ n):Vb n p:=by
 obtain⟨⟨h1,h2⟩,h3,h4⟩:=h
 have e:((2 ^ n:Nat):Int)=2 ^ n:=by simp
 refine⟨z0F ?_,z0F ?_⟩ <;> lia
theorem ziZ {s t:Sm}{ρ:Pu.Env}{N:Pu.Env->Prop}{Q:DK}{X:XP}(W:Pu.Env->Prop)(h:s.run ρ W Q X)(k:∀ ρ',W ρ'->t.run ρ' N Q X):(Sm.seq s t).run ρ N Q X:=s.mono ρ W _ Q Q X X k (fun _ z=>z) (fun _ z=>z) h
end Pu
namespace Pu
open PySem L2 Mth
structure Pl (x y b u v t:Int):Prop where
 pos:0 < t
 cop:Int.gcd ((Int.gcd u v:Nat):Int) t=1
 cx:u*b=x*t
 cy:v*b=y*t
theorem Pl.of {x y b u v t:Int}(h:Plc x y b u v t):Pl x y b u v t:=⟨by have:=h.pos; lia,h.cop,h.cx,h.cy⟩
theorem z9T {u v t b:Int}(hc:Int.gcd ((Int.gcd u v:Nat):Int) t=1)(h1:t ∣ u*b)(h2:t ∣ v*b):t ∣ b:=by
 have a1:t.natAbs ∣ u.natAbs*b.natAbs:=by rw[<- Int.natAbs_mul]; exact Int.natAbs_dvd_natAbs.mpr h1
 have a2:t.natAbs ∣ v.natAbs*b.natAbs:=by rw[<- Int.natAbs_mul]; exact Int.natAbs_dvd_natAbs.mpr h2
 have a3:=Nat.dvd_gcd a1 a2
 rw[Nat.gcd_mul_right] at a3
 have hc':Nat.Coprime t.natAbs (Nat.gcd u.natAbs v.natAbs):=by
  rw[z3u,Nat.gcd_comm] at hc
  exact hc
 exact Int.natAbs_dvd_natAbs.mp (hc'.dvd_of_dvd_mul_left a3)
theorem Pl.dvd {x y b u v t:Int}(h:Pl x y b u v t):t ∣ b:=z9T h.cop ⟨x,by rw[h.cx,Int.mul_comm]⟩ ⟨y,by rw[h.cy,Int.mul_comm]⟩
theorem Pl.eq {x y b u v t u' v' t':Int}(hb:0 < b)(h:Pl x y b u v t)(k:Pl x y b u' v' t'):u=u'/\v=v'/\t=t':=by
 have hb0:b≠0:=by lia
 have cr:∀ {u u' x:Int},u*b=x*t->u'*b=x*t'->u*t'=u'*t:=fun {u u' x} e1 e2=>by
  apply Int.eq_of_mul_eq_mul_right hb0
  calc u*t'*b=(u*b)*t':=by grind
   _=(u'*b)*t:=by rw[e1,e2]; grind
   _=u'*t*b:=by grind
 have c1:=cr h.cx k.cx
 have c2:=cr h.cy k.cy
 have d1:t ∣ t':=z9T h.cop ⟨u',by rw[c1,Int.mul_comm]⟩ ⟨v',by rw[c2,Int.mul_comm]⟩
 have d2:t' ∣ t:=z9T k.cop ⟨u,by rw[<- c1,Int.mul_comm]⟩ ⟨v,by rw[<- c2,Int.mul_comm]⟩
 have e:t=t':=Int.dvd_antisymm (by have:=h.pos; lia) (by have:=k.pos; lia) d1 d2
 subst e
 have ht:t≠0:=by have:=h.pos; lia
 exact⟨Int.eq_of_mul_eq_mul_right ht c1,Int.eq_of_mul_eq_mul_right ht c2,rfl⟩
theorem Pl.bt {x y b u v t:Int}{n m:Nat}(hb:0 < b)(h:Pl x y b u v t)(bb:Bt n b)(bx:Bt m x)(bY:Bt m y):Bt n t/\Bt m u/\Bt m v:=by
 obtain⟨k,hk⟩:=h.dvd
 have ht:=h.pos
 have hk1:0 < k:=by
  rcases Int.lt_or_le 0 k with z | z
  ·exact z
  ·have:=Int.mul_nonpos_of_nonneg_of_nonpos (Int.le_of_lt ht) z
   lia
 have le:∀ {u x:Int},u*b=x*t->u.natAbs<=x.natAbs:=fun {u x} e=>by
  have:u*k=x:=by
   apply Int.eq_of_mul_eq_mul_right (show t≠0 by lia)
   rw[<- e,hk]
   grind
  rw[<- this,Int.natAbs_mul]
  exact Nat.le_mul_of_pos_right _ (by lia)
 refine⟨bb.of_abs ?_,bx.of_abs (le h.cx),bY.of_abs (le h.cy)⟩
 rw[hk,Int.natAbs_mul]
 exact Nat.le_mul_of_pos_right _ (by lia)
theorem Pl.step {x y b u v t a c w p q vx vy u' v' t':Int}(hb:0 < b)(hq:0 < q)(h:Pl x y b u v t)(k:Pl (vx*p) (vy*p) q a c w)(s:Pl (u*w+a*t) (v*w+c*t) (t*w) u' v' t'):
  Pl (x*q+vx*p*b) (y*q+vy*p*b) (b*q) u' v' t':=by
 have htw:t*w≠0:=by have:=Int.mul_pos h.pos k.pos; lia
 have go:∀ {u' u a x vx:Int},u'*(t*w)=(u*w+a*t)*t'->u*b=x*t->a*q=vx*p*w->u'*(b*q)=(x*q+vx*p*b)*t':=fun {u' u a x vx} e1 e2 e3=>by
  apply Int.eq_of_mul_eq_mul_right htw
  calc u'*(b*q)*(t*w)=(u'*(t*w))*(b*q):=by grind
   _=((u*b)*(w*q)+(a*q)*(t*b))*t':=by rw[e1]; grind
   _=(x*q+vx*p*b)*t'*(t*w):=by rw[e2,e3]; grind
 exact⟨s.pos,s.cop,go s.cx h.cx k.cx,go s.cy h.cy k.cy⟩
theorem zaH (a:Int):(if a < 0 then -a else a)=(a.natAbs:Int):=by split <;> lia
theorem z3m {a b:Int}{Q:DK}{X:XP}(q:Q (.int ((Int.gcd a b:Nat):Int))):z0i.run [.int a,.int b] Q X:=by
 walk_at "fn"
 walk_at "go"
 rw[zaH,zaH]
 refine z9X (fun ρ=>∃ (g s:Nat) (x:B),Nat.gcd g s=Int.gcd a b/\ρ=[.s (.int a),.s (.int b),.s (.int (g:Int)),.s (.int (s:Int)),x]) (fun ρ=>match ρ with | [_,_,_,.s (.int s),_]=>s.toNat | _=>0) ⟨a.natAbs,b.natAbs,_,rfl,rfl⟩ ?_
 rintro ρ ⟨g,s,x,e,rfl⟩
 walk_at "go"
 refine z2A (z2q (fun z => ?_) (fun z => ?_))
 ·walk_at "go"
  have:s=0:=by lia
  subst this
  rw[Nat.gcd_zero_right] at e
  rw[e]
  exact q
 ·walk_at "go"
  have hm:(g:Int) % (s:Int)=((g % s:Nat):Int):=by simp
  refine⟨⟨s,g % s,_,by rw[<- e,Nat.gcd_comm g s,Nat.gcd_rec s g,Nat.gcd_comm],by rw[hm]⟩,?_⟩
  show ((g:Int) % (s:Int)).toNat < ((s:Nat):Int).toNat
  rw[hm]
  have:=Nat.mod_lt g (show 0 < s by lia)
  lia
theorem zgU {i j:Nat}{es:List Ex}{ρ:Pu.Env}{N:Pu.Env->Prop}{Q:DK}{X:XP}(q:runs es (vis ρ) (fun ds=>[i,j].length=ds.length/\N (z0E [i,j] ds ρ)) X):(Sm.par2 i j es).run ρ N Q X:=q
theorem za9 {a b:Nat}{Q:DK}{X:XP}(q:Q (.int ((Nat.gcd a b:Nat):Int))):z2O.run [.int (a:Int),.int (b:Int)] Q X:=by
 walk_at "fn"
 refine za6 (z9X (fun ρ=>∃ g s:Nat,Nat.gcd g s=Nat.gcd a b/\ρ=[.s (.int (g:Int)),.s (.int (s:Int))]) (fun ρ=>match ρ with | [_,.s (.int s)]=>s.toNat | _=>0) ⟨a,b,rfl,rfl⟩ ?_)
 rintro ρ ⟨g,s,e,rfl⟩
 walk_at "go"
 refine z2A (z2q (fun z => ?_) (fun z => ?_))
 ·walk_at "go"
  have:s=0:=by lia
  subst this
  rw[Nat.gcd_zero_right] at e
  rw[e]
  exact q
 ·refine zgU ?_
  walk_at "en"
  walk_at "go"
  refine⟨rfl,?_⟩
  have hm:(g:Int) % (s:Int)=((g % s:Nat):Int):=by simp
  unfold z0E z0E z0E
  walk_at "en"
  refine⟨⟨s,g % s,by rw[<- e,Nat.gcd_comm g s,Nat.gcd_rec s g,Nat.gcd_comm],by rw[hm]⟩,?_⟩
  show ((g:Int) % (s:Int)).toNat < ((s:Nat):Int).toNat
  rw[hm]
  have:=Nat.mod_lt g (show 0 < s by lia)
  lia
theorem zgV {x y b:Int}{Q:DK}{X:XP}(hb:0 < b)(bb:Bt 8000 b)(q:∀ u v t,Pl x y b u v t->Q (.tup [.int u,.int v,.int t])):z41.run [.int x,.int y,.int b] Q X:=by
 have hg:((Nat.gcd (Nat.gcd x.natAbs y.natAbs) b.natAbs:Nat):Int)=g3 x y b:=by
  unfold g3
  rw[z3u]
  congr 1
  rw[Nat.gcd_comm, <- Nat.gcd_assoc]
 have hp:=zcD (x:=x) (y:=y) hb
 have g0:=zas (x:=x) (y:=y) hb
 have bg:Bt 9000 (g3 x y b):=Bt.le (bb.of_abs (by
  have:=Int.natAbs_dvd_natAbs.mpr (z7b x y b)
  exact Nat.le_of_dvd (by lia) this))
 walk_at "fn"
 walk_at "go"
 rw[zaH,zaH]
 refine za9 ?_
 walk_at "go"
 rw[show b=(b.natAbs:Int) by lia]
 refine za9 ?_
 rw[show (b.natAbs:Int)=b by lia,hg]
 generalize g3 x y b=g at*
 walk_at "go"
 exact q _ _ _ (Pl.of hp)
theorem s_lowest_place {x y b:Int}{Q:DK}{X:XP}(hb:0 < b)(bb:Bt 8000 b)(q:∀ u v t,Pl x y b u v t->Q (.tup [.int u,.int v,.int t])):z2m.run [.int x,.int y,.int b] Q X:=by
 have hp:=zcD (x:=x) (y:=y) hb
 have g0:=zas (x:=x) (y:=y) hb
 have bg:Bt 9000 (g3 x y b):=Bt.le (bb.of_abs (by
  have:=Int.natAbs_dvd_natAbs.mpr (z7b x y b)
  exact Nat.le_of_dvd (by lia) this))
 walk_at "fn"
 walk_at "go"
 refine z3m ?_
 walk_at "go"
 refine z3m ?_
 rw[show ((Int.gcd ((Int.gcd b x:Nat):Int) y:Nat):Int)=g3 x y b from rfl]
 generalize g3 x y b=g at*
 walk_at "go"
 exact q _ _ _ (Pl.of hp)
theorem s_place_added {x y z a b c:Int}{Q:DK}{X:XP}(hz:0 < z)(hc:0 < c)(h1:Int.gcd ((Int.gcd x y:Nat):Int) z=1)(h2:Int.gcd ((Int.gcd a b:Nat):Int) c=1)(bx:Bt 8000 x)(bY:Bt 8000 y)(bz:Bt 8000 z)(ba:Bt 8000 a)(bb:Bt 8000 b)(bc:Bt 8000 c)
  (q:∀ u v t,Pl (x*c+a*z) (y*c+b*z) (z*c) u v t->Q (.tup [.int u,.int v,.int t])):z1u.run [.tup [.int x,.int y,.int z],.tup [.int a,.int b,.int c]] Q X:=by
 obtain⟨g,eg⟩:∃ g,g=((Int.gcd z c:Nat):Int):=⟨_,rfl⟩
 obtain⟨u,eu⟩:∃ u,u=x*(c / g)+a*(z / g):=⟨_,rfl⟩
 obtain⟨v,ev⟩:∃ v,v=y*(c / g)+b*(z / g):=⟨_,rfl⟩
 obtain⟨r,er⟩:∃ r,r=((Int.gcd ((Int.gcd g u:Nat):Int) v:Nat):Int):=⟨_,rfl⟩
 obtain⟨g0,r0,gl,rl,pl⟩:=zae hz hc h1 h2 eg eu ev er
 have bg:Bt 9000 g:=Bt.le (bz.of_abs gl)
 have br:Bt 9000 r:=Bt.le (bz.of_abs rl)
 have b1:Bt 8000 (c / g):=bc.of_abs (z0s g0)
 have b2:Bt 8000 (z / g):=bz.of_abs (z0s g0)
 have b3:Bt 8000 (c / r):=bc.of_abs (z0s r0)
 walk_at "fn"
 walk_at "go"
 refine z3m ?_
 rw[<- eg]
 walk_at "go"
 rw[<- eu, <- ev]
 refine z3m ?_
 walk_at "go"
 refine z3m ?_
 rw[<- er]
 walk_at "go"
 exact q _ _ _ (Pl.of pl)
theorem gcd0 (u t:Int):Int.gcd ((Int.gcd u 0:Nat):Int) t=Int.gcd u t:=by rw[z3u]; simp[Int.gcd]
theorem Pl.low {t b:Int}(hb:0 < b):Pl t 0 b (t / (Int.gcd t b:Int)) 0 (b / (Int.gcd t b:Int)):=by
 obtain⟨g0,e1,e2,e3,e4⟩:=z5V (t:=t) hb
 refine⟨by lia,by rw[gcd0]; exact e4,?_,by simp⟩
 generalize (Int.gcd t b:Int)=g at*
 generalize t / g=u at*
 generalize b / g=w at*
 rw[e2,e1]
 grind
theorem s_added {a b c d:Int}{Q:DK}{X:XP}(hb:0 < b)(hd:0 < d)(h1:Int.gcd a b=1)(h2:Int.gcd c d=1)(ba:Bt 8000 a)(bb:Bt 8000 b)(bc:Bt 8000 c)(bd:Bt 8000 d)
  (q:∀ u t,Pl (a*d+c*b) 0 (b*d) u 0 t->Q (.tup [.int u,.int t])):z6A.run [.tup [.int a,.int b],.tup [.int c,.int d]] Q X:=by
 obtain⟨g,eg⟩:∃ g,g=((Int.gcd b d:Nat):Int):=⟨_,rfl⟩
 obtain⟨t,et⟩:∃ t,t=a*(d / g)+c*(b / g):=⟨_,rfl⟩
 obtain⟨r,er⟩:∃ r,r=((Int.gcd g t:Nat):Int):=⟨_,rfl⟩
 obtain⟨g0,r0,gl,rl,pl⟩:=zae (x:=a) (y:=0) (z:=b) (a:=c) (b:=0) (c:=d) (v:=0) (r:=r) hb hd (by rw[gcd0]; exact h1) (by rw[gcd0]; exact h2) eg et (by simp) (by rw[er]; simp)
 have bg:Bt 9000 g:=Bt.le (bb.of_abs gl)
 have br:Bt 9000 r:=Bt.le (bb.of_abs rl)
 have b1:Bt 8000 (d / g):=bd.of_abs (z0s g0)
 have b2:Bt 8000 (b / g):=bb.of_abs (z0s g0)
 have b3:Bt 8000 (d / r):=bd.of_abs (z0s r0)
 walk_at "fn"
 walk_at "go"
 refine z3m ?_
 rw[<- eg]
 walk_at "go"
 rw[<- et]
 refine z3m ?_
 rw[<- er]
 walk_at "go"
 have:=Pl.of pl
 simp only[Int.zero_ediv,Int.zero_mul,Int.add_zero] at this
 exact q _ _ this
noncomputable abbrev Sh:=Nat × Int × Int
noncomputable abbrev shD (s:Sh):D :=.tup [.int (s.1:Int),.tup [.int s.2.1,.int s.2.2]]
structure Sg (s:Sh):Prop where
 top:0 < s.2.1
 bot:0 < s.2.2
 cop:Int.gcd s.2.1 s.2.2=1
 bt:Bt 67 s.2.1
 bb:Bt 67 s.2.2
structure Shs (n:Nat)(l:List Sh):Prop where
 each:∀ s∈l,Sg s/\s.1 < n
 up:l.Pairwise (fun a b=>a.1 < b.1)
theorem z5A:∀ {l:List Sh}{n:Nat},l.Pairwise (fun a b=>a.1 < b.1)->(∀ s∈l,s.1 < n)->l.length<=n:=by
 intro l
 have main:∀ (l:List Sh) (k n:Nat),l.Pairwise (fun a b=>a.1 < b.1)->(∀ s∈l,k<=s.1/\s.1 < n)->k+l.length<=max k n:=by
  intro l
  induction l with
  | nil=>intro k n _ _; simp; lia
  | cons s l ih=>
   intro k n h h2
   rw[List.pairwise_cons] at h
   have:=ih (s.1+1) n h.2 fun x hx=>⟨h.1 x hx,(h2 x (by simp[hx])).2⟩
   have:=h2 s (by simp)
   simp
   lia
 intro n h h2
 have:=main l 0 n h fun s hs=>⟨by lia,h2 s hs⟩
 lia
theorem s_is_share {s:Sh}{Q:DK}{X:XP}(h:Sg s)(q:Q (.bl true)):z3E.run [.tup [.int s.2.1,.int s.2.2]] Q X:=by
 walk_at "fn"
 walk_at "go"
 refine zbD h.top ?_
 walk_at "go"
 refine zbD h.bot ?_
 walk_at "go"
 refine z3m ?_
 rw[h.cop]
 walk_at "go"
 exact q
theorem s_are_shares {l:List P}{sh:List Sh}{Q:DK}{X:XP}(h:Shs l.length sh)(q:Q (.bl true)):z13.run [vecs l,.tup (sh.map shD)] Q X:=by
 walk_at "fn"
 walk_at "go"
 refine z1M (f:=shD) (fun dn ρ=>∃ (a:Int) (x3 x4:B),(∀ s∈sh,s ∉ dn->True)/\(dn=[]->a = -1)/\(∀ s,dn.getLast? = some s->a=(s.1:Int))/\ρ=[.s (vecs l),.s (.tup (sh.map shD)),.s (.int a),x3,x4]) ⟨-1,_,_,fun _ _ _=>trivial,fun _=>rfl,fun s z=>by simp at z,rfl⟩ ?_ ?_
 ·rintro dn s r ρ e ⟨a,x3,x4,_,ha,hb,rfl⟩
  obtain⟨hs,hn⟩:=h.each s (by rw[e]; simp)
  have hlt:a < (s.1:Int):=by
   cases hd:dn.getLast? with
   | none=>rw[ha (List.getLast?_eq_none_iff.mp hd)]; lia
   | some x=>
    rw[hb x hd]
    have hu:=h.up
    rw[e,List.pairwise_append] at hu
    have:=hu.2.2 x (List.mem_of_getLast? hd) s (by simp)
    lia
  refine⟨rfl,?_⟩
  show Sm.run _ _ _ _ _
  unfold z0E z0E z0E
  walk_at "en"
  walk_at "go"
  refine t_no (by lia) ?_
  walk_at "go"
  rw[List.length_map]
  refine t_no (by lia) ?_
  walk_at "go"
  refine s_is_share hs ?_
  walk_at "go"
  refine z2A (z3F ?_)
  walk_at "go"
  exact⟨_,_,_,fun _ _ _=>trivial,fun z=>by simp at z,fun x z=>by simp at z; rw[z],rfl⟩
 rintro ρ ⟨a,x3,x4,_,ha,hb,rfl⟩
 walk_at "go"
 exact q
noncomputable def Bq:List Sh->Int
 | []=>1
 | s::l=>Bq l*s.2.2
noncomputable def Xq (w:Nat->Int):List Sh->Int
 | []=>0
 | s::l=>Xq w l*s.2.2+w s.1*s.2.1*Bq l
theorem Bq.pos:∀ {l:List Sh},(∀ s∈l,Sg s)->0 < Bq l
 | [],_=>by decide
 | s::l,h=>Int.mul_pos (Bq.pos fun x hx=>h x (by simp[hx])) (h s (by simp)).bot
theorem Bq.bt:∀ {l:List Sh},(∀ s∈l,Sg s)->Bt (67*l.length+1) (Bq l)
 | [],_=>z0F (by decide)
 | s::l,h=>Bt.le (Bt.mul (Bq.bt fun x hx=>h x (by simp[hx])) (h s (by simp)).bb) (by simp; lia)
theorem Xq.bt {w:Nat->Int}(hw:∀ k,Bt 600 (w k)):∀ {l:List Sh},(∀ s∈l,Sg s)->Bt (700+68*l.length) (Xq w l)
 | [],_=>Bt.le (m:=1) (z0F (by show (0:Int).natAbs < 2 ^ 1; decide))
 | s::l,h=>by
  have ih:=Xq.bt hw (l:=l) fun x hx=>h x (by simp[hx])
  have hs:=h s (by simp)
  have hB:=Bq.bt (l:=l) fun x hx=>h x (by simp[hx])
  exact Bt.le (Bt.add (Bt.mul ih hs.bb) (Bt.mul (Bt.mul (hw s.1) hs.bt) hB)) (by simp; lia)
theorem zeP {w:Nat->Int}:∀ {l:List Sh}(M:Int),(∀ s∈l,Sg s)->(l.map fun s=>w s.1*s.2.1*(Bq l*M / s.2.2)).sum=Xq w l*M
 | [],M,_=>by simp[Xq]
 | s::l,M,h=>by
  have hs:=h s (by simp)
  have ih:=zeP (w:=w) (l:=l) (s.2.2*M) fun x hx=>h x (by simp[hx])
  have e1:Bq (s::l)*M=Bq l*(s.2.2*M):=by simp only[Bq]; grind
  have e2:Bq (s::l)*M / s.2.2=Bq l*M:=by
   rw[show Bq (s::l)*M=s.2.2*(Bq l*M) by simp only[Bq]; grind]
   exact Int.mul_ediv_cancel_left _ (by have:=hs.bot; lia)
  rw[List.map_cons,List.sum_cons,e2,e1,ih]
  simp only[Xq]
  grind
theorem zcc:∀ l:List Int,l.reverse.sum=l.sum
 | []=>rfl
 | x::l=>by
  rw[List.reverse_cons,List.sum_append,zcc l]
  simp
  lia
theorem z8b (f:Sh->Int)(l:List Sh):(l.reverse.map f).sum=(l.map f).sum:=by rw[List.map_reverse,zcc]
noncomputable def wx (l:List P)(k:Nat):Int:=(Geo.cy l k).1
noncomputable def wy (l:List P)(k:Nat):Int:=(Geo.cy l k).2
theorem s_place_times {a b p q:Int}{Q:DK}{X:XP}(hq:0 < q)(bq:Bt 67 q)(ba:Bt 600 a)(bb:Bt 600 b)(bp:Bt 67 p)(h:∀ u v t,Pl (a*p) (b*p) q u v t->Q (.tup [.int u,.int v,.int t])):z1N.run [.tup [.int a,.int b,.int 1],.tup [.int p,.int q]] Q X:=by
 walk_at "fn"
 walk_at "go"
 rw[Int.one_mul]
 exact s_lowest_place hq bq.le h
theorem s_shares_end {l:List P}{sh:List Sh}{Q:DK}{X:XP}(hl:l≠[])(hz:l.length<=62)(hb:Wb 600 l)(h:Shs l.length sh)(q:∀ u v t,Pl (Xq (wx l) sh.reverse) (Xq (wy l) sh.reverse) (Bq sh.reverse) u v t->Q (.tup [.int u,.int v,.int t])):z3f.run [vecs l,.tup (sh.map shD)] Q X:=by
 have h0:=List.length_pos_iff.mpr hl
 have cb:∀ k,Vb 600 (Geo.cy l k):=fun k=>hb _ (List.mem_of_getElem? (Geo.zbs h0))
 have sl:=z5A h.up fun s hs=>(h.each s hs).2
 walk_at "fe"
 walk_at "go"
 refine s_are_shares h ?_
 walk_at "go"
 refine z2A (z3F ?_)
 walk_at "go"
 refine z1M (f:=shD) (fun dn ρ=>∃ (u v t:Int) (x3 x4 x5:B),Pl (Xq (wx l) dn.reverse) (Xq (wy l) dn.reverse) (Bq dn.reverse) u v t/\ρ=[.s (vecs l),.s (.tup (sh.map shD)),.s (.tup [.int u,.int v,.int t]),x3,x4,x5]) ⟨0,0,1,_,_,_,⟨by decide,by decide,by simp[Bq,Xq],by simp[Bq,Xq]⟩,rfl⟩ ?_ ?_
 ·rintro dn s r ρ e ⟨u,v,t,x3,x4,x5,hp,rfl⟩
  obtain⟨hs,hn⟩:=h.each s (by rw[e]; simp)
  have hdn:∀ x∈dn.reverse,Sg x:=fun x hx=>(h.each x (by rw[e]; simp at hx; simp[hx])).1
  have dl:dn.reverse.length<=62:=by
   have:=congrArg List.length e
   simp at this
   rw[List.length_reverse]
   lia
  have B0:=Bq.pos hdn
  obtain⟨bt1,bu,bv⟩:=hp.bt B0 (Bt.le (Bq.bt hdn) (show _<=8000 by lia)) (Bt.le (Xq.bt (fun k=>(cb k).1) hdn) (show _<=8000 by lia)) (Bt.le (Xq.bt (fun k=>(cb k).2) hdn) (show _<=8000 by lia))
  refine⟨rfl,?_⟩
  show Sm.run _ _ _ _ _
  unfold z0E z0E z0E
  walk_at "en"
  walk_at "go"
  refine z2r (z1Q (zeF hn)) ?_
  refine z3b (Safe.of_noL rfl rfl _) ?_
  walk_at "en"
  walk_at "go"
  refine s_place_times hs.bot hs.bb (cb s.1).1 (cb s.1).2 hs.bt fun a c w hk => ?_
  obtain⟨bw,ba,bc⟩:=hk.bt hs.bot hs.bb (Bt.mul (cb s.1).1 hs.bt) (Bt.mul (cb s.1).2 hs.bt)
  refine s_place_added hp.pos hk.pos hp.cop hk.cop bu bv bt1 ba.le bc.le bw.le fun u' v' t' hs' => ?_
  refine z3b (Safe.of_noL rfl rfl _) ?_
  walk_at "en"
  refine⟨u',v',t',_,_,_,?_,rfl⟩
  rw[List.reverse_append]
  exact hp.step B0 hs.bot hk hs'
 rintro ρ ⟨u,v,t,x3,x4,x5,hp,rfl⟩
 walk_at "go"
 exact q u v t hp
theorem s_shares_sum {n:Nat}{sh:List Sh}{Q:DK}{X:XP}(hn:n<=62)(h:Shs n sh)(q:∀ u t,Pl (Xq (fun _=>1) sh.reverse) 0 (Bq sh.reverse) u 0 t->Q (.tup [.int u,.int t])):z0C.run [.tup (sh.map shD)] Q X:=by
 have sl:=z5A h.up fun s hs=>(h.each s hs).2
 have w1:∀ k:Nat,Bt 600 ((fun _=>(1:Int)) k):=fun _=>Bt.le (m:=1) (z0F (by show (1:Int).natAbs < 2 ^ 1; decide))
 walk_at "fn"
 walk_at "go"
 refine z1M (f:=shD) (fun dn ρ=>∃ (u t:Int) (x3 x4:B),Pl (Xq (fun _=>1) dn.reverse) 0 (Bq dn.reverse) u 0 t/\ρ=[.s (.tup (sh.map shD)),.s (.tup [.int u,.int t]),x3,x4]) ⟨0,1,_,_,⟨by decide,by decide,by simp[Bq,Xq],by simp⟩,rfl⟩ ?_ ?_
 ·rintro dn s r ρ e ⟨u,t,x3,x4,hp,rfl⟩
  obtain⟨hs,hn⟩:=h.each s (by rw[e]; simp)
  have hdn:∀ x∈dn.reverse,Sg x:=fun x hx=>(h.each x (by rw[e]; simp at hx; simp[hx])).1
  have dl:dn.reverse.length<=62:=by
   have:=congrArg List.length e
   simp at this
   rw[List.length_reverse]
   lia
  have B0:=Bq.pos hdn
  obtain⟨bt1,bu,_⟩:=hp.bt B0 (Bt.le (Bq.bt hdn) (show _<=8000 by lia)) (Bt.le (Xq.bt w1 hdn) (show _<=8000 by lia)) (Bt.le (m:=0) (z0F (by decide)) (show _<=8000 by lia))
  have hc:=hp.cop
  rw[gcd0] at hc
  refine⟨rfl,?_⟩
  show Sm.run _ _ _ _ _
  unfold z0E z0E z0E
  walk_at "en"
  walk_at "go"
  refine s_added hp.pos hs.bot hc hs.cop bu bt1 hs.bt.le hs.bb.le fun u' t' hs' => ?_
  refine z3b (Safe.of_noL rfl rfl _) ?_
  walk_at "en"
  refine⟨u',t',_,_,?_,rfl⟩
  rw[List.reverse_append]
  have hk:Pl (1*s.2.1) (0*s.2.1) s.2.2 s.2.1 0 s.2.2:=⟨hs.bot,by rw[gcd0]; exact hs.cop,by rw[Int.one_mul],by simp⟩
  have st:=hp.step (vx:=1) (vy:=0) (u':=u') (v':=0) (t':=t') B0 hs.bot hk (by simpa using hs')
  simpa[Xq,Bq] using st
 rintro ρ ⟨u,t,x3,x4,hp,rfl⟩
 walk_at "go"
 exact q u t hp
theorem s_law_end {l:List P}{sh:List Sh}{Q:DK}{X:XP}(hl:l≠[])(hz:l.length<=62)(hb:Wb 600 l)(h:Shs l.length sh)(q:∀ u v t,Pl (Xq (wx l) sh.reverse) (Xq (wy l) sh.reverse) (Bq sh.reverse) u v t->Q (.tup [.int u,.int v,.int t])):z8D.run [vecs l,.tup (sh.map shD)] Q X:=by
 have h0:=List.length_pos_iff.mpr hl
 have cb:∀ k,Vb 600 (Geo.cy l k):=fun k=>hb _ (List.mem_of_getElem? (Geo.zbs h0))
 have sl:=z5A h.up fun s hs=>(h.each s hs).2
 have hsh:∀ x∈sh.reverse,Sg x:=fun x hx=>(h.each x (by simpa using hx)).1
 have bB:Bt 8000 (Bq sh.reverse):=Bt.le (Bq.bt hsh) (by rw[List.length_reverse]; lia)
 have B0:=Bq.pos hsh
 have bdv:∀ s∈sh,Bt 8000 (Bq sh.reverse / s.2.2):=fun s hs=>bB.of_abs (z0s (h.each s hs).1.bot)
 walk_at "fn"
 walk_at "go"
 refine z1M (f:=shD) (fun dn ρ=>∃ x3 x4:B,ρ=[.s (vecs l),.s (.tup (sh.map shD)),.s (.int (Bq dn.reverse)),x3,x4,.n,.n]) ⟨_,_,rfl⟩ ?_ ?_
 ·rintro dn s r ρ e ⟨x3,x4,rfl⟩
  have hs:=(h.each s (by rw[e]; simp)).1
  have hdn:∀ x∈dn.reverse,Sg x:=fun x hx=>(h.each x (by rw[e]; simp at hx; simp[hx])).1
  have dl:dn.reverse.length<=62:=by
   have:=congrArg List.length e
   simp at this
   rw[List.length_reverse]
   lia
  have bd:Bt 8000 (Bq dn.reverse):=Bt.le (Bq.bt hdn) (by lia)
  have bs:=hs.bb
  refine⟨rfl,?_⟩
  show Sm.run _ _ _ _ _
  unfold z0E z0E z0E
  walk_at "en"
  walk_at "go"
  rw[List.reverse_append]
  exact⟨_,_,rfl⟩
 rintro ρ ⟨x3,x4,rfl⟩
 walk_at "go"
 refine⟨by rw[List.length_map]; exact szl' (by lia),?_⟩
 refine z3g (g:=fun s =>.int (wx l s.1*s.2.1*(Bq sh.reverse / s.2.2))) (fun s hs K hK => ?_) ?_
 ·have hg:=(h.each s hs).1
  have b1:=(cb s.1).1
  have b2:=hg.bt
  have b3:=bdv s hs
  have b4:=hg.bb
  have p4:=hg.bot
  have b12:Bt 700 ((Geo.cy l s.1).1*s.2.1):=(Bt.mul b1 b2).le
  refine⟨rfl,?_⟩
  show Ex.run _ _ _ _
  unfold z0E z0E z0E
  walk_at "en"
  walk_at "go"
  refine z2r (z1Q (zeF (h.each s hs).2)) ?_
  walk_at "go"
  exact hK
 rw[show (sh.map fun s=>D.int (wx l s.1*s.2.1*(Bq sh.reverse / s.2.2)))=(sh.map fun s=>wx l s.1*s.2.1*(Bq sh.reverse / s.2.2)).map .int by rw[List.map_map]; rfl]
 refine zg8 ?_
 walk_at "go"
 refine⟨by rw[List.length_map]; exact szl' (by lia),?_⟩
 refine z3g (g:=fun s =>.int (wy l s.1*s.2.1*(Bq sh.reverse / s.2.2))) (fun s hs K hK => ?_) ?_
 ·have hg:=(h.each s hs).1
  have b1:=(cb s.1).2
  have b2:=hg.bt
  have b3:=bdv s hs
  have b4:=hg.bb
  have p4:=hg.bot
  have b12:Bt 700 ((Geo.cy l s.1).2*s.2.1):=(Bt.mul b1 b2).le
  refine⟨rfl,?_⟩
  show Ex.run _ _ _ _
  unfold z0E z0E z0E
  walk_at "en"
  walk_at "go"
  refine z2r (z1Q (zeF (h.each s hs).2)) ?_
  walk_at "go"
  exact hK
 rw[show (sh.map fun s=>D.int (wy l s.1*s.2.1*(Bq sh.reverse / s.2.2)))=(sh.map fun s=>wy l s.1*s.2.1*(Bq sh.reverse / s.2.2)).map .int by rw[List.map_map]; rfl]
 refine zg8 ?_
 have sm:∀ w:Nat->Int,(sh.map fun s=>w s.1*s.2.1*(Bq sh.reverse / s.2.2)).sum=Xq w sh.reverse:=fun w=>by
  rw[<- z8b]
  have:=zeP (w:=w) 1 hsh
  simpa using this
 rw[sm,sm]
 walk_at "go"
 exact zgV B0 bB q
end Pu
namespace Pu
open PySem L2
theorem z1O {c k m:Int}{Q:DK}{X:XP}(hk:0<=k)(hk':k<=1000)(hm:0 < m)(q:∀ r:Int,0<=r->r < m->Q (.int r)):z05.run [.int c,.int k,.int m] Q X:=by
 have bk:Bt 640 k:=z0F (by omega)
 have b1:Bt 700 (c % 170141183460469231731687303715884105727+(k+3)*1000000007):=(Bt.add (z0F (n:=130) (by omega)) (z0F (n:=130) (by omega))).le
 walk_at "fn"
 walk_at "go"
 exact q _ (Int.emod_nonneg _ (by omega)) (Int.emod_lt_of_pos _ hm)
noncomputable def Ln (d:D):Prop:=d = .non\/∃ p:P,d=vec p/\Far 3 p
theorem zgP {c m:Int}{d:D}{Q:DK}{X:XP}(hm:0<=m)(hm':m<=1000000000)(hd:Ln d)(q:∀ p,Far 1000000000 p->Q (vec p)):z15.run [.int c,.int m,d] Q X:=by
 have bm:Bt 640 m:=z0F (by omega)
 rcases hd with rfl | ⟨⟨a,b⟩,rfl,⟨⟨a1,a2⟩,b1,b2⟩⟩
 ·walk_at "fn"
  walk_at "go"
  refine z2A (za1 rfl ?_)
  walk_at "go"
  refine z1O (by decide) (by decide) (by omega) fun r r0 r1 => ?_
  walk_at "go"
  refine z1O (by decide) (by decide) (by omega) fun u u0 u1 => ?_
  walk_at "go"
  exact q (r - m,u - m) ⟨⟨by show _<=r - m; omega,by show r - m<=_; omega⟩,by show _<=u - m; omega,by show u - m<=_; omega⟩
 ·dsimp only at a1 a2 b1 b2
  have ba:Bt 640 a:=z0F (by omega)
  have bb:Bt 640 b:=z0F (by omega)
  walk_at "fn"
  walk_at "go"
  refine z2A (z9r rfl ?_)
  walk_at "go"
  refine z1O (by decide) (by decide) (by decide) fun r r0 r1 => ?_
  walk_at "go"
  have br:Bt 640 (r - 3):=z0F (by omega)
  walk_at "go"
  have bd:∀ x:Int,-3<=x->x<=3 -> -9<=x*(r - 3)/\x*(r - 3)<=9:=fun x h1 h2=>by
   rcases(by omega:x = -3\/x = -2\/x = -1\/x=0\/x=1\/x=2\/x=3) with rfl | rfl | rfl | rfl | rfl | rfl | rfl <;> omega
  have:=bd a a1 a2
  have:=bd b b1 b2
  exact q (a*(r - 3),b*(r - 3)) ⟨⟨by show _<=a*(r - 3); omega,by show a*(r - 3)<=_; omega⟩,by show _<=b*(r - 3); omega,by show b*(r - 3)<=_; omega⟩
theorem zcl {c m:Int}{Q:DK}{X:XP}(hm:0<=m)(hb:m<=1000000000)(q:∀ p,Far 1000000000 p->Q (vec p)):z0y.run [.int c,.int m] Q X:=by
 have b2:0 < 2*m+1:=by omega
 have bm:Bt 640 m:=z0F (by omega)
 have bw:Bt 9000 (2*m+1):=Bt.le (m:=40) (z0F (by omega))
 walk_at "fn"
 walk_at "go"
 have h1:=Int.emod_nonneg c (show 2*m+1≠0 by omega)
 have h2:=Int.emod_lt_of_pos c b2
 have h3:=Int.emod_nonneg (c / (2*m+1)) (show 2*m+1≠0 by omega)
 have h4:=Int.emod_lt_of_pos (c / (2*m+1)) b2
 exact q (c % (2*m+1) - m,c / (2*m+1) % (2*m+1) - m) ⟨⟨by show _<=c % (2*m+1) - m; omega,by show c % (2*m+1) - m<=_; omega⟩,by show _<=c / (2*m+1) % (2*m+1) - m; omega,by show c / (2*m+1) % (2*m+1) - m<=_; omega⟩
noncomputable abbrev wtD (x:List P × P):D :=.tup [vecs x.1,vec x.2]
structure Wt (x:List P × P):Prop where
 wb:Wb 40 x.1
 ne:x.1≠[]
 len:x.1.length<=12
 vb:Vb 40 x.2
theorem zcP (x:List P × P):noL (wtD x)=true:=by
 have:=zbj x.1
 show noLs [vecs x.1,vec x.2]=true
 simpa[noLs,noL] using this
theorem zcR (x:List P × P):noD (wtD x)=true:=by
 have:=zbk x.1
 show noDs [vecs x.1,vec x.2]=true
 simpa[noDs,noD] using this
theorem min2 (a b:Int):(if b < a then b else a)=min a b:=by split <;> omega
theorem z9a {n d:Nat}{k:Int}(h:0<=k):HT.sIx n d (some k)=min k.toNat n:=by
 show (if k < 0 then (k+(n:Int)).toNat else min k.toNat n)=_
 rw[if_neg (by omega)]
theorem z8M {ns:List Int}{Q:DK}{X:XP}(h0:ns≠[])(hz:ns.length<=63)(q:∀ ws:List (List P × P),(∀ x∈ws,Wt x)->ws.length<=12->Q (.tup (ws.map wtD))):z0M.run [.lst (ns.map .int)] Q X:=by
 have hp:=List.length_pos_iff.mpr h0
 obtain⟨c0,_,e0⟩:=z8H (xs:=ns) (i:=0) (by decide) (by omega)
 walk_at "fn"
 walk_at "go"
 refine z2r (z1Q e0) ?_
 walk_at "go"
 refine menu (ns:=[3,12,10 ^ 9]) (by omega) (by show c0 / 2 % 3 < 3; omega) fun m hm => ?_
 have hm':0<=m/\m<=1000000000:=by
  simp only[List.mem_cons,List.not_mem_nil,or_false] at hm
  omega
 clear hm
 have bm:Bt 640 m:=z0F (by omega)
 walk_at "go"
 refine z7l (fun x hx=>by cases hx) ?_
 walk_at "en"
 walk_at "go"
 refine z9X (fun ρ=>∃ (ws:List (List P × P)) (a:Nat) (x4 x5 x6:B),(∀ x∈ws,Wt x)/\ws.length<=12/\1<=a/\a<=100/\ρ=[.s (.lst (ns.map .int)),.s (.int m),.o (.lst (ws.map wtD)),.s (.int (a:Int)),x4,x5,x6]) (fun ρ=>match ρ with | [_,_,_,.s (.int a),_,_,_]=>(100 - a).toNat | _=>0) ⟨[],1,_,_,_,fun _ z=>by(cases z),by simp,by simp,by simp,rfl⟩ ?_
 rintro ρ ⟨ws,a,x4,x5,x6,hws,hlen,ha1,ha,rfl⟩
 walk_at "go"
 rw[List.length_map,min2]
 refine z2q (fun h => ?_) (fun h => ?_)
 ·walk_at "go"
  rw[List.length_map]
  refine z2q (fun h12 => ?_) (fun h12 => ?_)
  ·obtain⟨c,_,eat⟩:=z8H (xs:=ns) (i:=(a:Int)) (by omega) (by omega)
   walk_at "go"
   refine z2r (z1Q eat) ?_
   walk_at "go"
   have hs:0<=c % 12/\c % 12 < 12:=by omega
   generalize c % 12=sz at*
   refine z2r (z1Q eat) ?_
   walk_at "go"
   generalize c / 12=f at*
   refine zcl hm'.1 hm'.2 fun p0 hp0 => ?_
   walk_at "go"
   refine z7l (fun x hx=>by rw[List.mem_singleton.mp hx]; exact Safe.of_noL rfl rfl _) ?_
   walk_at "en"
   refine za6 (ziY (z4O rfl ?_))
   walk_at "go"
   rw[z5i]
   have rl':((ns.drop (HT.sIx ns.length 0 (some ((a:Int)+1)))).take (HT.sIx ns.length ns.length (some (if 61 < (a:Int)+(1+sz) then 61 else (a:Int)+(1+sz))) - HT.sIx ns.length 0 (some ((a:Int)+1)))).length<=11:=by
    have e2:0<=(if 61 < (a:Int)+(1+sz) then 61 else (a:Int)+(1+sz)):=by split <;> omega
    rw[List.length_take,List.length_drop,z9a (k:=(a:Int)+1) (by omega),z9a e2]
    split <;> omega
   generalize (ns.drop (HT.sIx ns.length 0 (some ((a:Int)+1)))).take (HT.sIx ns.length ns.length (some (if 61 < (a:Int)+(1+sz) then 61 else (a:Int)+(1+sz))) - HT.sIx ns.length 0 (some ((a:Int)+1)))=rows at*
   refine⟨by rw[List.length_map]; exact szl' (by omega),?_⟩
   refine z7f (g:=vec) (P:=fun _ p=>Far 1000000000 p) (fun c _ K hK => ?_) fun ys hyl hy => ?_
   ·walk_at "go"
    exact zcl hm'.1 hm'.2 hK
   refine⟨by simp; exact szl (by omega),fun d hd => ?_,?_⟩
   ·obtain⟨y,_,rfl⟩:=List.mem_map.mp hd
    exact Safe.of_noL rfl rfl _
   walk_at "en"
   rw[show vec p0::ys.map vec=(p0::ys).map vec from rfl]
   refine za6 (zfw (l:=[]) (z4O rfl ?_))
   walk_at "go"
   refine zhW ⟨by decide,by decide,by omega⟩ ?_
   have hw:0 < (2*m+1) ^ (2:Int).toNat:=by
    show 0 < (2*m+1) ^ 2
    exact Int.pow_pos (by omega)
   have bw:Bt 9000 ((2*m+1) ^ (2:Int).toNat):=by
    have b1:Bt 40 (2*m+1):=z0F (by omega)
    show Bt 9000 ((2*m+1) ^ 2)
    rw[show (2*m+1) ^ 2=(2*m+1)*(2*m+1) by grind]
    exact(Bt.mul b1 b1).le
   refine zf7 hw bw ?_
   walk_at "go"
   refine zcl hm'.1 hm'.2 fun s hs => ?_
   walk_at "go"
   refine⟨by rw[List.length_map]; exact szl' (by omega),Safe.of_noL (zcP (p0::ys,s)) (zcR (p0::ys,s)) _,?_⟩
   walk_at "en"
   walk_at "go"
   refine⟨⟨ws++[(p0::ys,s)],a+(1+sz.toNat),.s (.int (1+sz)),.s (.int f),.o (.lst ((p0::ys).map vec)),fun x hx => ?_,by simp; omega,by omega,by omega,?_⟩,?_⟩
   ·rcases List.mem_append.mp hx with hx | hx
    ·exact hws x hx
    ·rw[List.mem_singleton.mp hx]
     refine⟨fun p hp => ?_,by simp,by show (p0::ys).length<=12; simp; omega,(hs.vb (n:=30) (by decide)).le⟩
     rcases List.mem_cons.mp hp with rfl | hp
     ·exact(hp0.vb (n:=30) (by decide)).le
     ·obtain⟨_,_,hf⟩:=hy p hp
      exact(hf.vb (n:=30) (by decide)).le
   ·rw[List.map_append,show ((a+(1+sz.toNat):Nat):Int)=(a:Int)+(1+sz) by omega]
    rfl
   ·show (100 - ((a:Int)+(1+sz))).toNat < (100 - (a:Int)).toNat
    omega
  ·walk_at "go"
   exact q ws hws hlen
 ·walk_at "go"
  exact q ws hws hlen
theorem zh0 {ns:List Int}{Q:DK}{X:XP}(q:∀ c,(c % 2=1->ns≠[])->Q (.int c)):z1n.run [.lst (ns.map .int),.int 0] Q X:=by
 walk_at "fn"
 walk_at "go"
 refine z2q (fun h => ?_) (fun h => ?_)
 ·walk_at "go"
  rw[List.length_map] at h
  obtain⟨v,_,e⟩:=z8H (xs:=ns) (by decide) h
  rw[z1Q e]
  exact q v fun _ z=>by rw[z] at h; simp at h
 ·walk_at "go"
  exact q 0 fun z=>by omega
theorem zci {ns:List Int}{Q:DK}{X:XP}(hz:ns.length<=63)(q:∀ ws:List (List P × P),(∀ x∈ws,Wt x)->ws.length<=12->Q (.tup (ws.map wtD))):z1k.run [.lst (ns.map .int)] Q X:=by
 walk_at "fn"
 walk_at "go"
 refine zh0 (fun b hb => ?_)
 walk_at "go"
 refine z2q (fun h => ?_) (fun _ => ?_)
 ·walk_at "go"
  exact z8M (hb h) hz q
 clear hb
 walk_at "go"
 refine z1O (by decide) (by decide) (by decide) fun r r0 r1 => ?_
 walk_at "go"
 refine menu (ns:=[3,3,12,10 ^ 9]) r0 r1 fun m hm => ?_
 have hm':0<=m/\m<=1000000000:=by
  simp only[List.mem_cons,List.not_mem_nil,or_false] at hm
  omega
 clear hm
 walk_at "go"
 refine z1O (by decide) (by decide) (by decide) fun r2 r20 r21 => ?_
 walk_at "go"
 refine zgD (fun ρ'=>∃ d,Ln d/\ρ'=[.s (.lst (ns.map .int)),.s (.int b),.s (.int m),.s d,.n,.n,.n,.n,.n,.n]) ?_ ?_
 ·refine z2q (fun _ => ?_) (fun _ => ?_)
  ·walk_at "go"
   refine z1O (by decide) (by decide) (by decide) fun u u0 u1 => ?_
   walk_at "go"
   refine z1O (by decide) (by decide) (by decide) fun v v0 v1 => ?_
   walk_at "go"
   exact⟨_,.inr ⟨(u - 3,v - 3),rfl,⟨by show -3<=u - 3; omega,by show u - 3<=3; omega⟩,by show -3<=v - 3; omega,by show v - 3<=3; omega⟩,rfl⟩
  ·walk_at "go"
   exact⟨_,.inl rfl,rfl⟩
 rintro ρ' ⟨d,hd,rfl⟩
 walk_at "go"
 refine z1O (by decide) (by decide) (by decide) fun r3 r30 r31 => ?_
 walk_at "go"
 refine menu (ns:=[3,3,5,12]) r30 r31 fun mo hmo => ?_
 have hmo':0 < mo/\mo<=12:=by
  simp only[List.mem_cons,List.not_mem_nil,or_false] at hmo
  omega
 clear hmo
 walk_at "go"
 refine z7l (fun x hx=>by cases hx) ?_
 walk_at "en"
 walk_at "go"
 refine z9X (fun ρ=>∃ (ws:List (List P × P)) (a:Nat) (x7 x8 x9:B),(∀ x∈ws,Wt x)/\ws.length<=12/\1<=a/\a<=100/\ρ=[.s (.lst (ns.map .int)),.s (.int b),.s (.int m),.s d,.s (.int mo),.o (.lst (ws.map wtD)),.s (.int (a:Int)),x7,x8,x9]) (fun ρ=>match ρ with | [_,_,_,_,_,_,.s (.int a),_,_,_]=>(100 - a).toNat | _=>0) ⟨[],1,_,_,_,fun _ z=>by(cases z),by simp,by simp,by simp,rfl⟩ ?_
 rintro ρ ⟨ws,a,x7,x8,x9,hws,hlen,ha1,ha,rfl⟩
 walk_at "go"
 rw[List.length_map,min2]
 refine z2q (fun h => ?_) (fun h => ?_)
 ·walk_at "go"
  rw[List.length_map]
  refine z2q (fun h12 => ?_) (fun h12 => ?_)
  ·obtain⟨c,_,eat⟩:=z8H (xs:=ns) (i:=(a:Int)) (by omega) (by omega)
   walk_at "go"
   refine z2r (z1Q eat) ?_
   walk_at "go"
   refine z1O (by decide) (by decide) hmo'.1 fun sz sz0 sz1 => ?_
   walk_at "go"
   obtain⟨k2,hk2,hk2'⟩:∃ k2:Int,k2=(if 61 < (a:Int)+(1+sz) then 61 else (a:Int)+(1+sz))/\(a:Int) < k2:=⟨_,rfl,by split <;> omega⟩
   rw[<- hk2,z5i]
   have e1:HT.sIx ns.length 0 (some (a:Int))=a:=by
    show (if (a:Int) < 0 then ((a:Int)+(ns.length:Int)).toNat else min (a:Int).toNat ns.length)=_
    rw[if_neg (by omega)]; omega
   have e2:HT.sIx ns.length ns.length (some k2)=min k2.toNat ns.length:=by
    show (if k2 < 0 then (k2+(ns.length:Int)).toNat else min k2.toNat ns.length)=_
    rw[if_neg (by omega)]
   rw[e1,e2]
   have hrow:(ns.drop a).take (min k2.toNat ns.length - a)≠[]/\((ns.drop a).take (min k2.toNat ns.length - a)).length<=12:=by
    refine⟨fun w => ?_,by rw[List.length_take,List.length_drop]; split at hk2 <;> omega⟩
    have:=congrArg List.length w
    rw[List.length_take,List.length_drop,List.length_nil] at this
    omega
   generalize (ns.drop a).take (min k2.toNat ns.length - a)=rows at*
   refine⟨by rw[List.length_map]; exact szl' (by omega),?_⟩
   refine z7f (g:=vec) (P:=fun _ p=>Far 1000000000 p) (fun c _ K hK => ?_) fun ys hyl hy => ?_
   ·walk_at "go"
    exact zgP hm'.1 hm'.2 hd hK
   refine z7l (fun x hx => ?_) ?_
   ·obtain⟨y,_,rfl⟩:=List.mem_map.mp hx
    exact Safe.of_noL rfl rfl _
   walk_at "en"
   walk_at "go"
   refine z2r (z1Q eat) ?_
   walk_at "go"
   refine z1O (by decide) (by decide) (by decide) fun r4 r40 r41 => ?_
   walk_at "go"
   refine zgD (fun ρ'=>∃ s,Far 1000000000 s/\ρ'=[.s (.lst (ns.map .int)),.s (.int b),.s (.int m),.s d,.s (.int mo),.o (.lst (ws.map wtD)),.s (.int (a:Int)),.s (.int (1+sz)),.o (.lst (ys.map vec)),.s (vec s)]) ?_ ?_
   ·refine z2q (fun _ => ?_) (fun _ => ?_)
    ·walk_at "go"
     refine z2r (z1Q eat) ?_
     walk_at "go"
     refine zgP hm'.1 hm'.2 hd fun s hs => ?_
     refine z3b (Safe.of_noL rfl rfl _) ?_
     exact⟨s,hs,rfl⟩
    ·walk_at "go"
     exact⟨(0,0),by unfold Far; decide,rfl⟩
   rintro ρ' ⟨s,hs,rfl⟩
   refine za6 (zfw (l:=[]) (z4O rfl ?_))
   walk_at "go"
   refine⟨by rw[List.length_map]; exact szl' (by omega),Safe.of_noL (zcP (ys,s)) (zcR (ys,s)) _,?_⟩
   walk_at "en"
   walk_at "go"
   refine⟨⟨ws++[(ys,s)],a+(1+sz.toNat),.s (.int (1+sz)),.o (.lst (ys.map vec)),.s (vec s),fun x hx => ?_,by simp; omega,by omega,by omega,?_⟩,?_⟩
   ·rcases List.mem_append.mp hx with hx | hx
    ·exact hws x hx
    ·rw[List.mem_singleton.mp hx]
     refine⟨fun p hp => ?_,fun z=>hrow.1 (List.length_eq_zero_iff.mp (by rw[<- hyl]; exact congrArg List.length z)),by show ys.length<=12; omega,(hs.vb (n:=30) (by decide)).le⟩
     obtain⟨_,_,hf⟩:=hy p hp
     exact(hf.vb (n:=30) (by decide)).le
   ·rw[List.map_append,show ((a+(1+sz.toNat):Nat):Int)=(a:Int)+(1+sz) by omega]
    rfl
   ·show (100 - ((a:Int)+(1+sz))).toNat < (100 - (a:Int)).toNat
    omega
  ·walk_at "go"
   exact q ws hws hlen
 ·walk_at "go"
  exact q ws hws hlen
noncomputable def most (l:List P)(b:P):Int->Prop:=fun m=>m∈l.map (dot · b)/\∀ p∈l,dot p b<=m
theorem zgb (l:List (List P × P)):noL (.tup (l.map wtD))=true:=by
 show noLs (l.map wtD)=true
 refine z4Q fun d hd => ?_
 obtain⟨x,_,rfl⟩:=List.mem_map.mp hd
 exact zcP x
theorem zgc (l:List (List P × P)):noD (.tup (l.map wtD))=true:=by
 show noDs (l.map wtD)=true
 refine z4R fun d hd => ?_
 obtain⟨x,_,rfl⟩:=List.mem_map.mp hd
 exact zcR x
end Pu
namespace Pu
open PySem L2 Mth
noncomputable def gl:Nat->List Int->Nat
 | g,[]=>g
 | g,x::l=>gl (Nat.gcd g x.natAbs) l
theorem zeU {row:List Int}{Q:DK}{X:XP}(hz:row.length<=1000)(h0:gl 0 row≠0)(hb:Bt 9000 (gl 0 row:Int))(q:Q (.tup (row.map fun x =>.int (x / (gl 0 row:Int))))):z09.run [.lst (row.map .int)] Q X:=by
 walk_at "fn"
 walk_at "go"
 refine z1M (f :=.int) (fun dn ρ=>∃ (g:Nat) (x2 x3 x4:B),(∀ rest,row=dn++rest->gl 0 row=gl g rest)/\ρ=[.s (.lst (row.map .int)),.s (.int (g:Int)),x2,x3,x4]) ⟨0,_,_,_,fun rest e=>by rw[e]; rfl,rfl⟩ ?_ ?_
 ·rintro dn x r ρ e ⟨g,x2,x3,x4,hg,rfl⟩
  show Sm.run _ _ _ _ _
  walk_at "en"
  walk_at "go"
  rw[zaH]
  refine z9X (fun ρ=>∃ (a s:Nat) (y:B),Nat.gcd a s=Nat.gcd g x.natAbs/\ρ=[.s (.lst (row.map .int)),.s (.int (a:Int)),.s (.int x),.s (.int (s:Int)),y]) (fun ρ=>match ρ with | [_,_,_,.s (.int s),_]=>s.toNat | _=>0) ⟨g,x.natAbs,_,rfl,rfl⟩ ?_
  rintro ρ ⟨a,s,y,es,rfl⟩
  walk_at "go"
  refine z2q (fun z => ?_) (fun z => ?_)
  ·walk_at "go"
   have hm:(a:Int) % (s:Int)=((a % s:Nat):Int):=by simp
   refine⟨⟨s,a % s,_,by rw[<- es,Nat.gcd_comm a s,Nat.gcd_rec s a,Nat.gcd_comm],by rw[hm]⟩,?_⟩
   show ((a:Int) % (s:Int)).toNat < ((s:Nat):Int).toNat
   rw[hm]
   have:=Nat.mod_lt a (show 0 < s by omega)
   omega
  ·have:s=0:=by omega
   subst this
   rw[Nat.gcd_zero_right] at es
   refine⟨a,_,_,_,fun rest' e' => ?_,rfl⟩
   have:r=rest':=by
    rw[e,List.append_assoc] at e'
    have:=List.append_cancel_left e'
    simpa using this
   rw[hg _ e, <- this,es]
   rfl
 rintro ρ ⟨g,x2,x3,x4,hg,rfl⟩
 have eg:gl 0 row=g:=hg [] (by simp)
 rw[eg] at h0 hb q
 walk_at "go"
 refine⟨by rw[List.length_map]; exact szl (by omega),?_⟩
 refine z3g (g:=fun x =>.int (x / (g:Int))) (fun x _ K k => ?_) ?_
 ·have:(0:Int) < (g:Int):=by omega
  walk_at "go"
  exact k
 walk_at "go"
 exact q
theorem gl2 (t b:Int):gl 0 [t,b]=Int.gcd t b:=by
 show Nat.gcd (Nat.gcd 0 t.natAbs) b.natAbs=_
 rw[Nat.gcd_zero_left]
 rfl
theorem z9u {t b:Int}{Q:DK}{X:XP}(hb:0 < b)(bb:Bt 8000 b)(q:Q (.tup [.int (t / (Int.gcd t b:Int)),.int (b / (Int.gcd t b:Int))])):z09.run [.lst [.int t,.int b]] Q X:=by
 obtain⟨g0,_,_,_,_⟩:=z5V (t:=t) hb
 refine zeU (row:=[t,b]) (by show 2<=1000; decide) (by rw[gl2]; omega) (by
  rw[gl2]
  exact Bt.le (bb.of_abs (by
   have:=Nat.le_of_dvd (by omega) (Int.gcd_dvd_natAbs_right t b)
   omega))) ?_
 rw[gl2]
 exact q
theorem zgX {t b:Int}{Q:DK}{X:XP}(hb:0 < b)(bb:Bt 8000 b)(q:∀ u w,Pl t 0 b u 0 w->Q (.tup [.int u,.int w])):z09.run [.lst [.int t,.int b]] Q X:=z9u hb bb (q _ _ (Pl.low hb))
theorem zgW {x y b:Int}{Q:DK}{X:XP}(hb:0 < b)(bb:Bt 8000 b)(q:∀ u v t,Pl x y b u v t->Q (.tup [.int u,.int v,.int t])):z09.run [.lst [.int x,.int y,.int b]] Q X:=by
 have hg:((gl 0 [x,y,b]:Nat):Int)=g3 x y b:=by
  show ((Nat.gcd (Nat.gcd (Nat.gcd 0 x.natAbs) y.natAbs) b.natAbs:Nat):Int)=_
  unfold g3
  rw[z3u,Nat.gcd_zero_left]
  congr 1
  rw[Nat.gcd_comm, <- Nat.gcd_assoc]
 have hp:=zcD (x:=x) (y:=y) hb
 have g0:=zas (x:=x) (y:=y) hb
 have bg:Bt 9000 (g3 x y b):=Bt.le (bb.of_abs (by
  have:=Int.natAbs_dvd_natAbs.mpr (z7b x y b)
  exact Nat.le_of_dvd (by omega) this))
 refine zeU (row:=[x,y,b]) (by show 3<=1000; decide) (by omega) (by rw[hg]; exact bg) ?_
 rw[hg]
 exact q _ _ _ (Pl.of hp)
theorem Pl.add {x y b u v t x' y' b' a c w p q r:Int}(hb:0 < b)(hb':0 < b')(h:Pl x y b u v t)(k:Pl x' y' b' a c w)(s:Pl (u*w+a*t) (v*w+c*t) (t*w) p q r):Pl (x*b'+x'*b) (y*b'+y'*b) (b*b') p q r:=by
 have htw:t*w≠0:=by have:=Int.mul_pos h.pos k.pos; omega
 have go:∀ {p u a x x':Int},p*(t*w)=(u*w+a*t)*r->u*b=x*t->a*b'=x'*w->p*(b*b')=(x*b'+x'*b)*r:=fun {p u a x x'} e1 e2 e3=>by
  apply Int.eq_of_mul_eq_mul_right htw
  calc p*(b*b')*(t*w)=(p*(t*w))*(b*b'):=by grind
   _=((u*b)*(w*b')+(a*b')*(t*b))*r:=by rw[e1]; grind
   _=(x*b'+x'*b)*r*(t*w):=by rw[e2,e3]; grind
 exact⟨s.pos,s.cop,go s.cx h.cx k.cx,go s.cy h.cy k.cy⟩
theorem Pl.lift {x y b u v t p q vx vy u' v' t':Int}(hb:0 < b)(h:Pl x y b u v t)(s:Pl (u*q+vx*p*t) (v*q+vy*p*t) (t*q) u' v' t'):Pl (x*q+vx*p*b) (y*q+vy*p*b) (b*q) u' v' t':=by
 have ht:t≠0:=by have:=h.pos; omega
 have go:∀ {u' u x vx:Int},u'*(t*q)=(u*q+vx*p*t)*t'->u*b=x*t->u'*(b*q)=(x*q+vx*p*b)*t':=fun {u' u x vx} e1 e2=>by
  apply Int.eq_of_mul_eq_mul_right ht
  calc u'*(b*q)*t=(u'*(t*q))*b:=by grind
   _=((u*b)*q+vx*p*t*b)*t':=by rw[e1]; grind
   _=(x*q+vx*p*b)*t'*t:=by rw[e2]; grind
 exact⟨s.pos,s.cop,go s.cx h.cx,go s.cy h.cy⟩
theorem Pl.eqv {x y b u v t x' y' b':Int}(hb:0 < b)(h:Pl x y b u v t)(e1:x*b'=x'*b)(e2:y*b'=y'*b):Pl x' y' b' u v t:=by
 have go:∀ {u x x':Int},u*b=x*t->x*b'=x'*b->u*b'=x'*t:=fun {u x x'} e1 e2=>by
  apply Int.eq_of_mul_eq_mul_right (show b≠0 by omega)
  calc u*b'*b=(u*b)*b':=by grind
   _=(x*b')*t:=by rw[e1]; grind
   _=x'*t*b:=by rw[e2]; grind
 exact⟨h.pos,h.cop,go h.cx e1,go h.cy e2⟩
theorem zeV {u v t a c:Int}{p:P}{Q:DK}{X:XP}(ht:0 < t)(hc:0 < c)(bu:Bt 6000 u)(bv:Bt 6000 v)(bt':Bt 6000 t)(ba:Bt 1000 a)(bc:Bt 1000 c)(bp:Vb 100 p)(q:∀ u' v' t',Pl (u*c+p.1*a*t) (v*c+p.2*a*t) (t*c) u' v' t'->Q (.tup [.int u',.int v',.int t'])):z1E.run [.tup [.int u,.int v,.int t],vec p,.tup [.int a,.int c]] Q X:=by
 obtain⟨px,py⟩:=p
 obtain⟨bp1,bp2⟩:=bp
 dsimp only at bp1 bp2
 have m1:Bt 1100 (px*a):=Bt.mul bp1 ba
 have m2:Bt 1100 (py*a):=Bt.mul bp2 ba
 walk_at "fn"
 walk_at "go"
 refine zgW (Int.mul_pos ht hc) (Bt.le (Bt.mul bt' bc)) q
theorem zeT {a b c d:Int}{Q:DK}{X:XP}(hb:0 < b)(hd:0 < d)(ba:Bt 3000 a)(bb:Bt 3000 b)(bc:Bt 3000 c)(bd:Bt 3000 d)(q:∀ u t,Pl (a*d+c*b) 0 (b*d) u 0 t->Q (.tup [.int u,.int t])):z1l.run [.tup [.int a,.int b],.tup [.int c,.int d]] Q X:=by
 walk_at "fn"
 walk_at "go"
 refine zgX (Int.mul_pos hb hd) (Bt.le (Bt.mul bb bd)) q
theorem zb5 {w:Nat->Int}{τ:Nat->Int}{S:Int}:∀ {l:List Sh},(∀ s∈l,s.2.1*S=τ s.1*s.2.2)->Xq w l*S=Bq l*(l.map fun s=>w s.1*τ s.1).sum
 | [],_=>by simp[Xq,Bq]
 | s::l,h=>by
  have ih:=zb5 (w:=w) (l:=l) fun x hx=>h x (by simp[hx])
  have e:=h s (by simp)
  rw[List.map_cons,List.sum_cons]
  simp only[Xq,Bq]
  calc (Xq w l*s.2.2+w s.1*s.2.1*Bq l)*S=(Xq w l*S)*s.2.2+w s.1*(s.2.1*S)*Bq l:=by grind
   _=Bq l*s.2.2*(w s.1*τ s.1+(l.map fun s=>w s.1*τ s.1).sum):=by rw[ih,e]; grind
noncomputable def wsh (ws:List Int):List Sh:=((List.range ws.length).filter fun k=>decide (0 < ws.getD k 0)).map fun k=>(k,ws.getD k 0 / (Int.gcd (ws.getD k 0) ws.sum:Int),ws.sum / (Int.gcd (ws.getD k 0) ws.sum:Int))
theorem z7k {f:Nat->Int}{p:Nat->Bool}:∀ {l:List Nat},(∀ k∈l,p k=false->f k=0)->((l.filter p).map f).sum=(l.map f).sum
 | [],_=>rfl
 | k::l,h=>by
  have ih:=z7k (f:=f) (p:=p) (l:=l) fun x hx=>h x (by simp[hx])
  rw[List.filter_cons]
  cases e:p k with
  | true=>simp[ih]
  | false=>simp[ih,h k (by simp) e]
noncomputable def One (sh:List Sh):Prop:=Xq (fun _=>1) sh.reverse=Bq sh.reverse
noncomputable def Sml (sh:List Sh):Prop:=∀ s∈sh,Bt 10 s.2.1/\Bt 10 s.2.2
structure WOk (n:Nat)(sh:List Sh):Prop where
 shs:Shs n sh
 one:One sh
 sml:Sml sh
 ne:sh≠[]
theorem zgt {ws:List Int}(h0:∀ w∈ws,0<=w)(hs:0 < ws.sum)(hm:ws.sum < 1000)(hle:∀ w∈ws,w<=ws.sum):WOk ws.length (wsh ws):=by
 have hwk:∀ k,k < ws.length->0<=ws.getD k 0/\ws.getD k 0<=ws.sum:=fun k hk'=>by
  rw[List.getD_eq_getElem?_getD,List.getElem?_eq_getElem (by omega)]
  exact⟨h0 _ (List.getElem_mem _),hle _ (List.getElem_mem _)⟩
 have bits:∀ k,k < ws.length->Bt 10 (ws.getD k 0 / (Int.gcd (ws.getD k 0) ws.sum:Int))/\Bt 10 (ws.sum / (Int.gcd (ws.getD k 0) ws.sum:Int)):=fun k hk'=>by
  obtain⟨g0,_,_,_,_⟩:=z5V (t:=ws.getD k 0) hs
  have:=hwk k hk'
  exact⟨Bt.of_abs (z0F (n:=10) (by omega)) (z0s g0),Bt.of_abs (z0F (n:=10) (by omega)) (z0s g0)⟩
 refine⟨⟨fun s hs' => ?_,?_⟩,?_,fun s hs' => ?_,?_⟩
 ·obtain⟨k,hk',rfl⟩:=List.mem_map.mp hs'
  obtain⟨hk1,hk2⟩:=List.mem_filter.mp hk'
  have hk1:=List.mem_range.mp hk1
  have hk2:=of_decide_eq_true hk2
  obtain⟨g0,e1,e2,e3,e4⟩:=z5V (t:=ws.getD k 0) hs
  obtain⟨b1,b2⟩:=bits k hk1
  refine⟨⟨?_,by show 0 < ws.sum / _; omega,e4,b1.le,b2.le⟩,hk1⟩
  show 0 < ws.getD k 0 / (Int.gcd (ws.getD k 0) ws.sum:Int)
  rcases Int.lt_or_le 0 (ws.getD k 0 / (Int.gcd (ws.getD k 0) ws.sum:Int)) with z | z
  ·exact z
  ·have:=Int.mul_nonpos_of_nonneg_of_nonpos (Int.le_of_lt g0) z
   omega
 ·unfold wsh
  rw[List.pairwise_map]
  exact(List.pairwise_lt_range).filter _
 ·have c:=zb5 (w:=fun _=>1) (τ:=fun k=>ws.getD k 0) (S:=ws.sum) (l:=(wsh ws).reverse) fun s hs'=>by
   obtain⟨k,hk',rfl⟩:=List.mem_map.mp (List.mem_reverse.mp hs')
   obtain⟨g0,e1,e2,e3,e4⟩:=z5V (t:=ws.getD k 0) hs
   show ws.getD k 0 / (Int.gcd (ws.getD k 0) ws.sum:Int)*ws.sum=ws.getD k 0*(ws.sum / (Int.gcd (ws.getD k 0) ws.sum:Int))
   generalize (Int.gcd (ws.getD k 0) ws.sum:Int)=g at*
   generalize ws.getD k 0 / g=a at*
   generalize ws.sum / g=b at*
   rw[e1,e2]
   grind
  rw[z8b] at c
  have e:((wsh ws).map fun s=>1*ws.getD s.1 0).sum=ws.sum:=by
   unfold wsh
   rw[List.map_map]
   show (((List.range ws.length).filter fun k=>decide (0 < ws.getD k 0)).map fun k=>1*ws.getD k 0).sum=ws.sum
   rw[z7k fun k hk hp => ?_]
   ·rw[show ((List.range ws.length).map fun k=>1*ws.getD k 0)=(List.range ws.length).map fun k=>ws.getD k 0 from List.map_congr_left fun k _=>Int.one_mul _]
    exact(Geo.zeS ws).symm
   ·have:=hwk k (List.mem_range.mp hk)
    have:=of_decide_eq_false hp
    omega
  rw[e] at c
  exact Int.eq_of_mul_eq_mul_right (by omega) c
 ·obtain⟨k,hk',rfl⟩:=List.mem_map.mp hs'
  exact bits k (List.mem_range.mp (List.mem_filter.mp hk').1)
 ·intro z
  have:ws.sum=0:=by
   have e:=Geo.zeS ws
   rw[e, <- z7k (p:=fun k=>decide (0 < ws.getD k 0)) fun k hk hp => ?_]
   ·rw[show (List.range ws.length).filter (fun k=>decide (0 < ws.getD k 0))=[] from List.map_eq_nil_iff.mp z]
    rfl
   ·have:=hwk k (List.mem_range.mp hk)
    have:=of_decide_eq_false hp
    omega
  omega
theorem z7Z:∀ {l:List Int}{i:Nat}{d:Int},i < l.length->(l.set i (l.getD i 0+d)).sum=l.sum+d
 | [],i,d,h=>by simp at h
 | x::l,0,d,_=>by simp; omega
 | x::l,i+1,d,h=>by
  have:=z7Z (l:=l) (i:=i) (d:=d) (by simpa using h)
  simp only[List.getD_cons_succ,List.set_cons_succ,List.sum_cons]
  omega
theorem zei {α:Type}{l:List α}{i:Nat}{a x:α}(h:x∈l.set i a):x∈l\/x=a:=by
 rcases List.mem_or_eq_of_mem_set h with z | z
 ·exact .inl z
 ·exact .inr z
theorem zes {l:List Int}{i:Nat}(h:i < l.length):l.getD i 0∈l:=by
 rw[List.getD_eq_getElem?_getD,List.getElem?_eq_getElem h]
 exact List.getElem_mem _
theorem z6O {n:Nat}{k:Int}(h0:0<=k)(h1:k < n):ixN n k=some k.toNat:=by
 unfold ixN
 rw[if_pos h0,if_pos h1]
theorem zaG {ws:List Int}{k:Int}(h0:0<=k)(h1:k < ws.length):atI (ws.map D.int) k=some (.int (ws.getD k.toNat 0)):=by
 unfold atI
 rw[List.length_map,z6O h0 h1]
 show (ws.map D.int)[k.toNat]? = _
 rw[List.getElem?_map,List.getD_eq_getElem?_getD,List.getElem?_eq_getElem (by omega)]
 rfl
theorem z7U {k:Int}{Q:DK}{X:XP}(h : -(2 ^ 62)<=k)(h':k < 2 ^ 62)(q:Q (.lst ((List.range k.toNat).map fun(j:Nat)=>D.int (j:Int)))):z6K.run [.int k] Q X:=⟨⟨h,h'⟩,q⟩
theorem zft {c:Int}{n:Nat}{m:Int}{Q:DK}{X:XP}(hn:0 < n)(hn':n<=100)(hm:0 < m)(hm':m<=100)(q:∀ ts:List Int,ts.length=n->(∀ t∈ts,0<=t)->ts.sum=m->Q (.lst (ts.map .int))):z1D.run [.int c,.int (n:Int),.int m] Q X:=by
 walk_at "fn"
 walk_at "go"
 refine z1O (by decide) (by decide) (by omega) fun cut c0 c1 => ?_
 walk_at "go"
 refine z1O (by decide) (by decide) (by omega) fun a a0 a1 => ?_
 walk_at "go"
 refine z1O (by decide) (by decide) (by omega) fun b b0 b1 => ?_
 walk_at "go"
 refine z1O (by decide) (by decide) (by omega) fun e e0 e1 => ?_
 walk_at "go"
 refine z1O (by decide) (by decide) (by omega) fun r r0 r1 => ?_
 walk_at "go"
 refine z7U (by omega) (by omega) ?_
 walk_at "go"
 rw[show ((n:Nat):Int).toNat=n by simp]
 refine⟨by rw[List.length_map,List.length_range]; exact szl (by omega),?_⟩
 refine z3g (g:=fun _ =>.int 0) (fun x _ K k => ?_) ?_
 ·walk_at "go"
  exact k
 rw[show (List.range n).map (fun _=>D.int 0)=((List.range n).map fun _=>(0:Int)).map .int by rw[List.map_map]; rfl]
 obtain⟨ts,ets,h1,h2,h3⟩:∃ ts:List Int,ts=(List.range n).map (fun _=>(0:Int))/\ts.length=n/\(∀ t∈ts,0<=t)/\ts.sum=0:=⟨_,rfl,by simp,fun t ht=>by(obtain⟨_,_,rfl⟩:=List.mem_map.mp ht; decide),by
  have:∀ l:List Nat,(l.map fun _=>(0:Int)).sum=0:=fun l=>by
   induction l with
   | nil=>rfl
   | cons a l ih=>simp[ih]
  exact this _⟩
 rw[<- ets]
 clear ets
 refine z7l (fun x hx => ?_) ?_
 ·obtain⟨w,_,rfl⟩:=List.mem_map.mp hx
  exact Safe.of_noL rfl rfl _
 walk_at "en"
 have one:∀ {ts:List Int}{k:Int}{d:Int},ts.length=n->(∀ t∈ts,0<=t)->0<=k->k < n->0<=d->(ts.set k.toNat (ts.getD k.toNat 0+d)).length=n/\(∀ t∈ts.set k.toNat (ts.getD k.toNat 0+d),0<=t)/\(ts.set k.toNat (ts.getD k.toNat 0+d)).sum=ts.sum+d:=fun {ts k d} h1 h2 k0 k1 hd=>by
  refine⟨by rw[List.length_set]; exact h1,fun t ht => ?_,z7Z (by omega)⟩
  rcases zei ht with z | z
  ·exact h2 t z
  ·have:=h2 _ (zes (l:=ts) (i:=k.toNat) (by omega))
   omega
 have s1:=one h1 h2 a0 a1 c0
 refine za6 (zfs (z4O rfl ?_))
 walk_at "go"
 refine z2r (zaG (by omega) (by omega)) ?_
 walk_at "go"
 rw[List.length_map,z6O (by omega) (by omega)]
 show Sm.run _ _ _ _ _
 walk_at "en"
 rw[<- List.map_set]
 generalize ts.set a.toNat (ts.getD a.toNat 0+cut)=t1 at*
 obtain⟨p1,p2,p3⟩:=s1
 have s2:=one p1 p2 b0 b1 r0
 refine za6 (zfs (z4O rfl ?_))
 walk_at "go"
 refine z2r (zaG (by omega) (by omega)) ?_
 walk_at "go"
 rw[List.length_map,z6O (by omega) (by omega)]
 show Sm.run _ _ _ _ _
 walk_at "en"
 rw[<- List.map_set]
 generalize t1.set b.toNat (t1.getD b.toNat 0+r)=t2 at*
 obtain⟨q1,q2,q3⟩:=s2
 have s3:=one q1 q2 e0 e1 (show 0<=m - cut - r by omega)
 refine za6 (zfs (z4O rfl ?_))
 walk_at "go"
 refine z2r (zaG (by omega) (by omega)) ?_
 walk_at "go"
 rw[List.length_map,z6O (by omega) (by omega)]
 show Sm.run _ _ _ _ _
 walk_at "en"
 rw[<- List.map_set,show t2.getD e.toNat 0+m - cut - r=t2.getD e.toNat 0+(m - cut - r) by omega]
 generalize t2.set e.toNat (t2.getD e.toNat 0+(m - cut - r))=t3 at*
 obtain⟨r1',r2',r3'⟩:=s3
 walk_at "go"
 exact q t3 r1' r2' (by omega)
noncomputable abbrev shsD (sh:List Sh):D :=.tup (sh.map shD)
noncomputable def Crs (ws:List (List P × P))(co:List (List Sh)):Prop:=co.length=ws.length/\∀ p∈ws.zip co,WOk p.1.1.length p.2
theorem zf8:∀ {ws:List Int},(∀ w∈ws,0<=w)->∀ w∈ws,w<=ws.sum
 | [],_,w,h=>by cases h
 | x::ws,h,w,hw=>by
  have ih:=zf8 (ws:=ws) fun y hy=>h y (by simp[hy])
  have hx:=h x (by simp)
  have hs:0<=ws.sum:=by
   have:∀ (l:List Int),(∀ w∈l,0<=w)->0<=l.sum:=fun l=>by
    induction l with
    | nil=>intro _; simp
    | cons a l ih=>
     intro k
     have:=ih fun x hx=>k x (by simp[hx])
     have:=k a (by simp)
     rw[List.sum_cons]
     omega
   exact this ws fun y hy=>h y (by simp[hy])
  rw[List.sum_cons]
  rcases List.mem_cons.mp hw with z | z
  ·omega
  ·have:=ih w z
   omega
theorem zcQ (l:List Sh):noL (shsD l)=true:=z4Q fun d hd=>by(obtain⟨x,_,rfl⟩:=List.mem_map.mp hd; rfl)
theorem zcS (l:List Sh):noD (shsD l)=true:=z4R fun d hd=>by(obtain⟨x,_,rfl⟩:=List.mem_map.mp hd; rfl)
theorem zeG {ts:List Int}{Q:DK}{X:XP}{ρ:Pu.Env}{m:Int}(h4:ρ.get 4=some (.int m))(h5:ρ.get 5=some (.lst (ts.map .int)))(g4:ρ[4]? = some (.s (.int m)))(g5:ρ[5]? = some (.s (.lst (ts.map .int))))(hn:ts.length<=100)(hs:ts.sum=m)(hm:0 < m)(hm':m < 1000)(q:Q (shsD (wsh ts))):
  Ex.run (.op z4B [(.comp 1 [4,5] (.nm 0) (.op z6K [(.op pLen [(.v 5)])]) (some (.op pGt [(.op pIx [(.v 2),(.v 0)]),(.c (.int 0))])) (.op pTup [(.v 0),(.op z09 [(.op pLst [(.op pIx [(.v 2),(.v 0)]),(.v 1)])])]))]) ρ Q X:=by
 refine zde (zfb (zde (zde (e_v ?_))))
 rw[h5]
 refine z8a ?_
 walk_at "go"
 rw[List.length_map]
 refine z7U (by omega) (by omega) ?_
 rw[show ((ts.length:Nat):Int).toNat=ts.length by simp]
 walk_at "go"
 refine⟨by rw[List.length_map,List.length_range]; exact szl (by omega),?_⟩
 rw[show z1W 1 [4,5] ρ=[.n,.s (.int m),.s (.lst (ts.map .int))] by unfold z1W; simp[g4,g5]]
 refine z5Y (f:=fun(j:Nat)=>D.int (j:Int)) (p:=fun k=>decide (0 < ts.getD k 0)) (g:=fun k=>shD (k,ts.getD k 0 / (Int.gcd (ts.getD k 0) ts.sum:Int),ts.sum / (Int.gcd (ts.getD k 0) ts.sum:Int))) (fun k hkr K k1 k2 => ?_) ?_
 ·have hkl':k < ts.length:=List.mem_range.mp hkr
  walk_at "go"
  refine z2r (zaG (by omega) (by omega)) ?_
  rw[show ((k:Nat):Int).toNat=k by simp]
  walk_at "go"
  refine z2q (fun h1 => ?_) (fun h1 => ?_)
  ·walk_at "go"
   refine z2r (zaG (by omega) (by omega)) ?_
   rw[show ((k:Nat):Int).toNat=k by simp]
   walk_at "go"
   refine z9u hm (Bt.le (m:=10) (z0F (by omega))) ?_
   walk_at "go"
   rw[<- hs]
   exact k1 (decide_eq_true h1)
  ·exact k2 (decide_eq_false h1)
 walk_at "go"
 rw[show ∀ rs:List Nat,rs.map (fun k=>shD (k,ts.getD k 0 / (Int.gcd (ts.getD k 0) ts.sum:Int),ts.sum / (Int.gcd (ts.getD k 0) ts.sum:Int)))=(rs.map fun k=>((k,ts.getD k 0 / (Int.gcd (ts.getD k 0) ts.sum:Int),ts.sum / (Int.gcd (ts.getD k 0) ts.sum:Int)):Sh)).map shD from fun rs=>by rw[List.map_map]; rfl]
 exact q
theorem z9l {α β:Type}{x:α}{y:β}:∀ {m:List β}{l:List α},l[m.length]? = some x->l.zip (m++[y])=l.zip m++[(x,y)]
 | [],l,h=>by
  cases l with
  | nil=>simp at h
  | cons a l=>simp at h; subst h; simp
 | b::m,l,h=>by
  cases l with
  | nil=>simp at h
  | cons a l=>
   have:=z9l (m:=m) (l:=l) (y:=y) (by simpa using h)
   rw[List.cons_append,List.zip_cons_cons,this]
   rfl
theorem zb9 {ws:List (List P × P)}{c:Int}{Q:DK}{X:XP}(hw:∀ x∈ws,Wt x)(hz:ws.length<=20)(q:∀ co,Crs ws co->Q (.tup (co.map shsD))):z0Q.run [.tup (ws.map wtD),.int c] Q X:=by
 walk_at "fn"
 walk_at "go"
 refine z7l (fun x hx=>by cases hx) ?_
 walk_at "en"
 walk_at "go"
 rw[List.length_map]
 refine zeY (by omega) (by omega) ?_
 rw[show ((ws.length:Nat):Int).toNat=ws.length by simp]
 refine z1M (f:=fun(j:Nat)=>D.int (j:Int)) (fun dn ρ=>∃ (co:List (List Sh)) (x3 x4 x5:B),co.length=dn.length/\(∀ p∈ws.zip co,WOk p.1.1.length p.2)/\ρ=[.s (.tup (ws.map wtD)),.s (.int c),.o (.lst (co.map shsD)),x3,x4,x5]) ⟨[],_,_,_,rfl,fun p hp=>by(simp at hp),rfl⟩ ?_ ?_
 ·rintro dn k r ρ e ⟨co,x3,x4,x5,hl,hco,rfl⟩
  have hk:k=dn.length/\k < ws.length:=by
   have h4:=congrArg List.length e
   have h5:(List.range ws.length)[dn.length]? = some k:=by rw[e]; simp
   rw[List.getElem?_range (by simp at h4; omega)] at h5
   simp at h4 h5
   omega
  obtain⟨x,hx,ex⟩:=z8H (xs:=ws) (i:=(k:Int)) (by omega) (by omega)
  obtain⟨wb,ne,len,vb⟩:=hw x hx
  have hp:=List.length_pos_iff.mpr ne
  show Sm.run _ _ _ _ _
  walk_at "en"
  walk_at "go"
  refine z1O (by decide) (by decide) (by decide) fun r0 r00 r01 => ?_
  walk_at "go"
  refine menu (ns:=[1,6,60]) r00 (by show r0 < 3; exact r01) fun m hm => ?_
  have hm':0 < m/\m<=60:=by
   simp only[List.mem_cons,List.not_mem_nil,or_false] at hm
   omega
  clear hm
  refine z1O (by omega) (by omega) hm'.1 fun b b0 b1 => ?_
  walk_at "go"
  walk_at "en"
  walk_at "go"
  refine z2r (z1Q ex) ?_
  walk_at "go"
  rw[List.length_map]
  refine zft hp (by omega) (by omega) (by omega) fun ts h1 h2 h3 => ?_
  walk_at "en"
  refine ziZ (fun ρ'=>∃ (ts:List Int) (m:Int),ts.length=x.1.length/\(∀ t∈ts,0<=t)/\ts.sum=m/\0 < m/\m < 1000/\ρ'=[.s (.tup (ws.map wtD)),.s (.int c),.o (.lst (co.map shsD)),.s (.int (k:Int)),.s (.int m),.s (.lst (ts.map .int))]) ?_ ?_
  ·walk_at "go"
   refine z1O (by decide) (by decide) (by decide) fun r1 r10 r11 => ?_
   walk_at "go"
   refine z2q (fun _ => ?_) (fun _ => ?_)
   ·walk_at "go"
    walk_at "en"
    walk_at "go"
    refine z2r (z1Q ex) ?_
    walk_at "go"
    rw[List.length_map]
    refine z7U (by omega) (by omega) ?_
    rw[show ((x.1.length:Nat):Int).toNat=x.1.length by simp]
    walk_at "go"
    refine⟨by rw[List.length_map,List.length_range]; exact szl (by omega),?_⟩
    refine z7f (f:=fun(j:Nat)=>D.int (j:Int)) (g:=D.int) (P:=fun _ y=>1<=y/\y<=5) (fun j hj K hK => ?_) fun ys hyl hy => ?_
    ·have:=List.mem_range.mp hj
     walk_at "go"
     refine z1O (by omega) (by omega) (by decide) fun v v0 v1 => ?_
     walk_at "go"
     exact hK _ ⟨by omega,by omega⟩
    walk_at "en"
    walk_at "go"
    refine zg8 ?_
    have hy':∀ y∈ys,1<=y/\y<=5:=fun y hy1=>(hy y hy1).choose_spec.2
    have hyl:ys.length=x.1.length:=by rw[hyl,List.length_range]
    have bd:∀ l:List Int,(∀ y∈l,1<=y/\y<=5)->(l.length:Int)<=l.sum/\l.sum<=5*(l.length:Int):=fun l=>by
     induction l with
     | nil=>intro _; simp
     | cons a l ih=>
      intro h
      have:=ih fun y hy=>h y (by simp[hy])
      have:=h a (by simp)
      rw[List.sum_cons,List.length_cons]
      omega
    have:=bd ys hy'
    walk_at "go"
    exact⟨ys,_,hyl,fun y hy=>by have:=hy' y hy; omega,rfl,by omega,by omega,rfl⟩
   ·walk_at "go"
    exact⟨ts,_,h1,h2,h3,by omega,by omega,rfl⟩
  rintro ρ ⟨ts,m,h1,h2,h3,m0,m1,rfl⟩
  refine zfw (l:=[]) (z4O rfl ?_)
  refine zeG rfl rfl rfl rfl (by omega) h3 m0 m1 ?_
  refine⟨by rw[List.length_map]; exact szl' (by omega),Safe.of_noL (zcQ _) (zcS _) _,?_⟩
  walk_at "en"
  refine⟨co++[wsh ts],_,_,_,by simp[hl],fun p hp' => ?_,by rw[List.map_append]; rfl⟩
  have ok:=zgt h2 (by omega) (by omega) (zf8 h2)
  rw[h1] at ok
  have ex':ws[co.length]? = some x:=by
   unfold atI at ex
   rw[z6O (by omega) (by omega)] at ex
   have ex:ws[((k:Nat):Int).toNat]? = some x:=ex
   rw[show ((k:Nat):Int).toNat=co.length by omega] at ex
   exact ex
  rw[z9l ex'] at hp'
  rcases List.mem_append.mp hp' with z | z
  ·exact hco p z
  ·rw[List.mem_singleton.mp z]
   exact ok
 rintro ρ ⟨co,x3,x4,x5,hl,hco,rfl⟩
 walk_at "go"
 exact q co ⟨by rw[hl,List.length_range],hco⟩
noncomputable abbrev Tr:=Int × Int × Int
structure FB (n:Nat)(E:Tr):Prop where
 pos:0 < E.2.2
 b:Bt n E.2.2
 x:Bt (n+210) E.1
 y:Bt (n+210) E.2.1
theorem zeE {n:Nat}{l:List P}(h:l≠[])(hb:Wb n l)(k:Nat):Vb n (Geo.cy l k):=hb _ (List.mem_of_getElem? (Geo.zbs (List.length_pos_iff.mpr h)))
end Pu
namespace Pu
open PySem L2 Mth
theorem zdN {n:Nat}{a:Int}{Q:DK}{X:XP}(q:Q (.bl true)):(z0m (n+1)).run [.int a,.int a] Q X:=by
 walk_at "fn"
 walk_at "go"
 refine z9r rfl ?_
 walk_at "go"
 refine z9r rfl ?_
 walk_at "go"
 refine z9r rfl ?_
 walk_at "go"
 refine z9r rfl ?_
 walk_at "go"
 refine za1 rfl ?_
 walk_at "go"
 refine z2A (z9r rfl ?_)
 walk_at "go"
 rw[decide_eq_true (show a=a from rfl)]
 exact q
theorem zdM {n:Nat}{l:List D}{Q:DK}{X:XP}(hz:l.length<=1000)(hi:∀ d∈l,∀ (Q:DK) (X:XP),Q (.bl true)->(z0m n).run [d,d] Q X)(q:Q (.bl true)):(z0m (n+1)).run [.tup l,.tup l] Q X:=by
 walk_at "fn"
 walk_at "go"
 refine za1 rfl ?_
 walk_at "go"
 refine z2A (za1 rfl ?_)
 walk_at "go"
 refine z2A (zbD rfl ?_)
 walk_at "go"
 refine z7U (by omega) (by omega) ?_
 rw[show ((l.length:Nat):Int).toNat=l.length by simp]
 walk_at "go"
 refine⟨by rw[List.length_map,List.length_range]; exact szl (by omega),?_⟩
 refine z3g (f:=fun(j:Nat)=>D.int (j:Int)) (g:=fun _ =>.bl true) (fun k hk K h => ?_) ?_
 ·have hk:=List.mem_range.mp hk
  obtain⟨d,hd,ed⟩:=z8H (xs:=l) (i:=(k:Int)) (by omega) (by omega)
  walk_at "go"
  refine z2r ed ?_
  walk_at "go"
  refine z2r ed ?_
  walk_at "go"
  exact hi d hd _ _ h
 rw[show (List.range l.length).map (fun _=>D.bl true)=((List.range l.length).map fun _=>true).map .bl by rw[List.map_map]; rfl]
 refine zjH ?_
 rw[show ((List.range l.length).map fun _=>true).all id=true by simp]
 exact q
theorem z81 {l:List Int}{Q:DK}{X:XP}(hz:l.length<=1000)(q:Q (.bl true)):z0S.run [.tup (l.map .int),.tup (l.map .int)] Q X:=by
 refine zdM (n:=3) (by rw[List.length_map]; exact hz) (fun d hd Q X q => ?_) q
 obtain⟨p,_,rfl⟩:=List.mem_map.mp hd
 exact zdN (n:=2) q
end Pu
namespace Pu
open PySem L2 Mth
noncomputable abbrev Rs:=Int × Int × Int
noncomputable abbrev rsD (r:Rs):D :=.tup [.int r.1,.tup [.int r.2.1,.int r.2.2]]
noncomputable def z3j (n:Int):Int->List Rs->Bool
 | _,[]=>true
 | a,r::l=>decide (a < r.1) && (decide (r.1 < n) && (decide (0 < r.2.1) && (decide (0 < r.2.2) && (decide (Int.gcd r.2.1 r.2.2=1) && z3j n r.1 l))))
theorem zdO {t b:Int}{Q:DK}{X:XP}(q:Q (.bl (decide (0 < t) && (decide (0 < b) && decide (Int.gcd t b=1))))):z3E.run [.tup [.int t,.int b]] Q X:=by
 walk_at "fn"
 walk_at "go"
 refine z2q (fun h1 => ?_) (fun h1 => ?_)
 ·rw[decide_eq_true h1] at q
  walk_at "go"
  refine z2q (fun h2 => ?_) (fun h2 => ?_)
  ·rw[decide_eq_true h2] at q
   walk_at "go"
   refine z3m ?_
   walk_at "go"
   rw[show (decide ((Int.gcd t b:Int)=1))=decide (Int.gcd t b=1) from z7z ⟨fun h=>by omega,fun h=>by omega⟩]
   exact q
  ·rw[decide_eq_false h2] at q
   exact q
 ·rw[decide_eq_false h1] at q
  exact q
theorem zcY {l:List P}{rs:List Rs}{b:Sm}{N:Pu.Env->Prop}{Q:DK}{X:XP}(f1:z3j (l.length:Int) (-1) rs=false->Q (.bl false))(f2:z3j (l.length:Int) (-1) rs=true->∀ a x3 x4,N [.s (vecs l),.s (.tup (rs.map rsD)),.s (.int a),x3,x4])
  (hb:∀ (a:Int) (r:Rs) (N':Pu.Env->Prop),(a < r.1/\r.1 < l.length/\0 < r.2.1/\0 < r.2.2/\Int.gcd r.2.1 r.2.2=1->N' [.s (vecs l),.s (.tup (rs.map rsD)),.s (.int r.1),.s (.int r.1),.s (.tup [.int r.2.1,.int r.2.2])])->(¬ (a < r.1/\r.1 < l.length/\0 < r.2.1/\0 < r.2.2/\Int.gcd r.2.1 r.2.2=1)->Q (.bl false))->
   b.run [.s (vecs l),.s (.tup (rs.map rsD)),.s (.int a),.s (.int r.1),.s (.tup [.int r.2.1,.int r.2.2])] N' Q X):
  forL (.tp [3,4]) b N Q X (rs.map rsD) [.s (vecs l),.s (.tup (rs.map rsD)),.s (.int (-1)),.n,.n]:=by
 refine z1M (f:=rsD) (fun dn ρ=>∃ (a:Int) (x3 x4:B),(∀ rest,rs=dn++rest->z3j (l.length:Int) (-1) rs=z3j (l.length:Int) a rest)/\ρ=[.s (vecs l),.s (.tup (rs.map rsD)),.s (.int a),x3,x4]) ⟨-1,_,_,fun rest e=>by rw[e]; rfl,rfl⟩ ?_ ?_
 ·rintro dn r rest ρ e ⟨a,x3,x4,ha,rfl⟩
  have h:=ha _ e
  refine⟨rfl,?_⟩
  show Sm.run _ _ _ _ _
  unfold z0E z0E z0E
  walk_at "en"
  refine hb a r _ (fun c => ?_) (fun c => ?_)
  ·refine⟨r.1,_,_,fun rest' e' => ?_,rfl⟩
   have:rest=rest':=by
    rw[e,List.append_assoc] at e'
    have:=List.append_cancel_left e'
    simpa using this
   rw[h, <- this]
   show (_ && _)=_
   rw[decide_eq_true c.1,decide_eq_true c.2.1,decide_eq_true c.2.2.1,decide_eq_true c.2.2.2.1,decide_eq_true c.2.2.2.2]
   rfl
  ·refine f1 ?_
   rw[h]
   show (_ && _)=_
   rw[Bool.eq_false_iff]
   intro z
   simp only[Bool.and_eq_true,decide_eq_true_eq] at z
   exact c ⟨z.1,z.2.1,z.2.2.1,z.2.2.2.1,z.2.2.2.2.1⟩
 rintro ρ ⟨a,x3,x4,ha,rfl⟩
 exact f2 (by rw[ha [] (by simp)]; rfl) a x3 x4
theorem za7 {l:List P}{rs:List Rs}{Q:DK}{X:XP}(q:Q (.bl (z3j (l.length:Int) (-1) rs))):z13.run [vecs l,.tup (rs.map rsD)] Q X:=by
 walk_at "fn"
 walk_at "go"
 refine zcY (fun e=>by rw[e] at q; exact q) (fun e a x3 x4 => ?_) (fun a r N' k1 k2 => ?_)
 ·walk_at "go"
  rw[e] at q
  exact q
 ·walk_at "go"
  refine z2q (fun h1 => ?_) (fun h1 => ?_)
  ·walk_at "go"
   exact k2 fun c=>by omega
  walk_at "go"
  rw[List.length_map]
  refine z2q (fun h2 => ?_) (fun h2 => ?_)
  ·walk_at "go"
   exact k2 fun c=>by omega
  walk_at "go"
  refine zdO ?_
  walk_at "go"
  refine z2A (t_bl (fun e => ?_) (fun e => ?_))
  ·simp only[Bool.and_eq_true,decide_eq_true_eq] at e
   walk_at "go"
   exact k1 ⟨by omega,by omega,e.1,e.2.1,e.2.2⟩
  ·walk_at "go"
   refine k2 fun c => ?_
   rw[decide_eq_true c.2.2.1,decide_eq_true c.2.2.2.1,decide_eq_true c.2.2.2.2] at e
   cases e
noncomputable def toR (s:Sh):Rs:=((s.1:Int),s.2)
theorem z6q (sh:List Sh):sh.map shD=(sh.map toR).map rsD:=by rw[List.map_map]; rfl
theorem z9L {n:Nat}:∀ {rs:List Rs}{a:Int},-1<=a->z3j (n:Int) a rs=true->(∀ r∈rs,Bt 67 r.2.1/\Bt 67 r.2.2)->∃ sh,rs=sh.map toR/\Shs n sh/\∀ s∈sh,a < (s.1:Int)
 | [],a,_,_,_=>⟨[],rfl,⟨fun _ z=>by(cases z),.nil⟩,fun _ z=>by(cases z)⟩
 | r::l,a,ha,h,hb=>by
  simp only[z3j,Bool.and_eq_true,decide_eq_true_eq] at h
  obtain⟨h1,h2,h3,h4,h5,h6⟩:=h
  obtain⟨sh,e,hs,hx⟩:=z9L (by omega) h6 fun x hx=>hb x (by simp[hx])
  have b:=hb r (by simp)
  refine⟨(r.1.toNat,r.2)::sh,?_,⟨fun s hs' => ?_,?_⟩,fun s hs' => ?_⟩
  ·rw[List.map_cons, <- e]
   show _=((r.1.toNat:Int),r.2)::l
   rw[show (r.1.toNat:Int)=r.1 by omega]
  ·rcases List.mem_cons.mp hs' with z | z
   ·rw[z]
    exact⟨⟨h3,h4,h5,b.1,b.2⟩,by show r.1.toNat < n; omega⟩
   ·exact hs.each s z
  ·rw[List.pairwise_cons]
   refine⟨fun s z => ?_,hs.up⟩
   have:=hx s z
   show r.1.toNat < s.1
   omega
  ·rcases List.mem_cons.mp hs' with z | z
   ·rw[z]; show a < (r.1.toNat:Int); omega
   ·have:=hx s z; omega
theorem zgQ {F:Fn}{es:List Ex}{c:Str->Bool}{j:Nat}{t:Sm}{ρ:Pu.Env}{N:Pu.Env->Prop}{Q:DK}{X:XP}(q:runs es ρ (fun ds=>F.run ds (fun _=>N ρ) (fun x=>c x=true/\t.run (ρ.set j (.s (.exc x))) (fun ρ'=>N (ρ'.set j .n)) Q X)) X):(Sm.tryc none F es c (some j) t).run ρ N Q X:=q
theorem zg9 {xs:List Str}{f:Str->Bool}{x:Str}{Q:DK}{X:XP}(h:x∈xs)(q:Q (.bl (f x))):(pIsx xs f).run [.exc x] Q X:=⟨h,q⟩
noncomputable def zbU (r:Rs):Sh:=(r.1.toNat,r.2)
theorem z7y (sh:List Sh):(sh.map toR).map zbU=sh:=by
 rw[List.map_map]
 have:∀ s∈sh,(zbU ∘ toR) s=s:=fun s _=>by
  show (((s.1:Nat):Int).toNat,s.2)=s
  simp
 rw[List.map_congr_left this]
 simp
noncomputable def oneR (rs:List Rs):Bool:=decide (Xq (fun _=>(1:Int)) (rs.map zbU).reverse=Bq (rs.map zbU).reverse)
noncomputable def okR (n:Nat)(rs:List Rs):Bool:=z3j (n:Int) (-1) rs && oneR rs
noncomputable def Bits (rs:List Rs):Prop:=∀ r∈rs,Bt 67 r.2.1/\Bt 67 r.2.2
theorem zdL {n:Nat}{rs:List Rs}{Q:DK}{X:XP}(hn:n<=62)(hg:z3j (n:Int) (-1) rs=true)(hb:Bits rs)(q:Q (.bl (!oneR rs))):z0C.run [.tup (rs.map rsD)] (fun x=>pTup.run [.int 1,.int 1] (fun y=>pNe.run [x,y] Q X) X) X:=by
 obtain⟨sh,rfl,hs,_⟩:=z9L (by decide) hg hb
 have B0:0 < Bq sh.reverse:=Bq.pos fun x hx=>(hs.each x (by simpa using hx)).1
 rw[<- z6q]
 refine s_shares_sum hn hs fun u t hp => ?_
 walk_at "go"
 refine zhX (l:=[.int u,.int t]) (r:=[.int 1,.int 1]) (Da.vec (u,t)) (Da.vec (1,1)) ?_
 have e:deq (.tup [.int u,.int t]) (.tup [.int 1,.int 1])=oneR (sh.map toR):=by
  rw[show deq (.tup [.int u,.int t]) (.tup [.int 1,.int 1])=decide ((u,t)=((1:Int),(1:Int))) from zgk (u,t) (1,1)]
  unfold oneR
  rw[z7y]
  refine z7z ⟨fun h => ?_,fun h => ?_⟩
  ·obtain⟨rfl,rfl⟩:=Prod.mk.inj h
   have:=hp.cx
   omega
  ·rw[h] at hp
   obtain⟨rfl,_,rfl⟩:=hp.eq B0 (⟨by decide,by decide,by rw[Int.mul_comm],by simp⟩:Pl (Bq sh.reverse) 0 (Bq sh.reverse) 1 0 1)
   rfl
 rw[e]
 exact q
theorem ziW {x:List P × P}{rs:List Rs}{Q:DK}{X:XP}{ρ:Pu.Env}(h2:ρ.get 2=some (wtD x))(h3:ρ.get 3=some (.tup (rs.map rsD)))(hn:x.1.length<=62)(hb:Bits rs)(q:Q (.bl (!okR x.1.length rs))):
  Ex.run (.or (.not (.op z13 [(.op pIx [(.v 2),(.c (.int 0))]),(.v 3)])) (.op pNe [(.op z0C [(.v 3)]),(.op pTup [(.c (.int 1)),(.c (.int 1))])])) ρ Q X:=by
 refine e_or (ziz (zez (zez (e_v ?_))))
 rw[h2]
 refine z8a ?_
 walk_at "go"
 refine e_v ?_
 rw[h3]
 refine z8a ?_
 refine za7 ?_
 unfold okR at q
 cases e:z3j (x.1.length:Int) (-1) rs with
 | false=>
  rw[e] at q
  walk_at "go"
  refine z2A (z4I ?_)
  exact q
 | true=>
  rw[e] at q
  walk_at "go"
  refine z2A (z3F ?_)
  refine zez (zde (e_v ?_))
  rw[h3]
  refine z8a ?_
  have:z0C.run [.tup (rs.map rsD)] (fun x=>pTup.run [.int 1,.int 1] (fun y=>pNe.run [x,y] Q X) X) X:=zdL hn e hb q
  refine z0C.mono _ _ _ _ _ (fun d hd => ?_) (fun _ z=>z) this
  refine ziy (zaN (e_c (zaN (e_c (zeW ?_)))))
  exact hd
noncomputable def rcD (rs:List Rs):D :=.tup (rs.map rsD)
theorem zc2 {α β:Type}{f:α->D}{g:β->D}:∀ {l:List α}{m:List β},((l.map f).zip (m.map g)).map (fun p=>D.tup [p.1,p.2])=(l.zip m).map fun p=>D.tup [f p.1,g p.2]
 | [],_=>by simp
 | _::_,[]=>by simp
 | a::l,b::m=>by
  have:=zc2 (f:=f) (g:=g) (l:=l) (m:=m)
  simp only[List.map_cons,List.zip_cons_cons]
  rw[this]
theorem zhT {α β:Type}{f:α->D}{g:β->D}{l:List α}{m:List β}{Q:DK}{X:XP}(q:Q (.lst ((l.zip m).map fun p =>.tup [f p.1,g p.2]))):zcJ.run [.tup (l.map f),.tup (m.map g)] Q X:=by
 rw[<- zc2] at q
 exact q
theorem s_is_course {ws:List (List P × P)}{rc:List (List Rs)}{Q:DK}{X:XP}(hw:∀ x∈ws,Wt x)(hz:ws.length<=20)(hz':rc.length<=1000)(hb:∀ rs∈rc,Bits rs)(q:Q (.bl (decide (rc.length=ws.length) && (ws.zip rc).all fun p=>okR p.1.1.length p.2))):z42.run [.tup (ws.map wtD),.tup (rc.map rcD)] Q X:=by
 walk_at "fn"
 walk_at "go"
 rw[List.length_map,List.length_map]
 refine z2A (z2q (fun h => ?_) (fun h => ?_))
 ·rw[decide_eq_true (show rc.length=ws.length by omega)] at q
  walk_at "go"
  refine zhT ?_
  walk_at "go"
  refine z1M (f:=fun p:(List P × P) × List Rs=>D.tup [wtD p.1,rcD p.2]) (fun dn ρ=>∃ x2 x3:B,(dn.all fun p=>okR p.1.1.length p.2)=true/\ρ=[.s (.tup (ws.map wtD)),.s (.tup (rc.map rcD)),x2,x3]) ⟨_,_,rfl,rfl⟩ ?_ ?_
  ·rintro dn p r ρ e ⟨x2,x3,ha,rfl⟩
   have hm:p∈ws.zip rc:=by rw[e]; simp
   obtain⟨m1,m2⟩:=List.of_mem_zip hm
   refine⟨rfl,?_⟩
   show Sm.run _ _ _ _ _
   unfold z0E z0E z0E
   walk_at "en"
   refine s_if (ziW (x:=p.1) (rs:=p.2) rfl rfl (by have:=(hw p.1 m1).len; omega) (hb p.2 m2) ?_)
   cases ek:okR p.1.1.length p.2 with
   | false=>
    refine z2A (z4I ?_)
    walk_at "go"
    rw[e,List.all_append,List.all_cons,ek] at q
    simpa using q
   | true=>
    refine z2A (z3F ?_)
    walk_at "go"
    exact⟨_,_,by rw[List.all_append,ha,List.all_cons,ek]; rfl,rfl⟩
  rintro ρ ⟨x2,x3,ha,rfl⟩
  walk_at "go"
  rw[ha] at q
  exact q
 ·rw[decide_eq_false (show ¬ rc.length=ws.length by omega)] at q
  walk_at "go"
  exact q
theorem zhR {sh:List Sh}(h:One sh):oneR (sh.map toR)=true:=by
 unfold oneR
 rw[z7y]
 exact decide_eq_true h
theorem zaV {n:Nat}:∀ {sh:List Sh}{a:Int},Shs n sh->(∀ s∈sh,a < (s.1:Int))->z3j (n:Int) a (sh.map toR)=true
 | [],_,_,_=>rfl
 | s::sh,a,h,ha=>by
  obtain⟨h1,h2⟩:=h.each s (by simp)
  have hu:=h.up
  rw[List.pairwise_cons] at hu
  have ih:=zaV (n:=n) (sh:=sh) (a:=(s.1:Int)) ⟨fun x hx=>h.each x (by simp[hx]),hu.2⟩ fun x hx=>by have:=hu.1 x hx; omega
  have:=ha s (by simp)
  rw[List.map_cons]
  show (decide (a < (s.1:Int)) && (decide ((s.1:Int) < n) && (decide (0 < s.2.1) && (decide (0 < s.2.2) && (decide (Int.gcd s.2.1 s.2.2=1) && z3j (n:Int) (s.1:Int) (sh.map toR))))))=true
  rw[decide_eq_true this,decide_eq_true (show (s.1:Int) < n by omega),decide_eq_true h1.top,decide_eq_true h1.bot,decide_eq_true h1.cop,ih]
  rfl
theorem zgw {n:Nat}{sh:List Sh}(h:WOk n sh):okR n (sh.map toR)=true:=by
 unfold okR
 rw[zaV h.shs (fun s _=>by omega),zhR h.one]
 rfl
theorem zdG {sh:List Sh}(h:Sml sh):Bits (sh.map toR):=fun r hr=>by
 obtain⟨s,hs,rfl⟩:=List.mem_map.mp hr
 exact⟨(h s hs).1.le,(h s hs).2.le⟩
noncomputable def toC (co:List (List Sh)):List (List Rs):=co.map fun sh=>sh.map toR
theorem z7X (co:List (List Sh)):co.map shsD=(toC co).map rcD:=by
 unfold toC
 rw[List.map_map]
 exact List.map_congr_left fun sh _=>by show D.tup (sh.map shD) = .tup ((sh.map toR).map rsD); rw[z6q]
theorem zbv {ws:List (List P × P)}{co:List (List Sh)}(hc:Crs ws co):∀ rs∈toC co,Bits rs:=fun rs hr=>by
 obtain⟨sh,hs,rfl⟩:=List.mem_map.mp hr
 obtain⟨i,hi,rfl⟩:=List.getElem_of_mem hs
 have:=hc.1
 have hm:(ws[i],co[i])∈ws.zip co:=by
  have:(ws.zip co)[i]? = some (ws[i],co[i]):=by
   rw[List.getElem?_eq_getElem (by rw[List.length_zip]; omega),List.getElem_zip]
  exact List.mem_of_getElem? this
 exact zdG (hc.2 _ hm).sml
theorem zfe {ws:List (List P × P)}:∀ {co:List (List Sh)},ws.zip (toC co)=(ws.zip co).map fun p=>(p.1,p.2.map toR):=fun {co}=>by
 unfold toC
 rw[List.zip_map_right]
 rfl
theorem ziC {ws:List (List P × P)}{co:List (List Sh)}(hc:Crs ws co):(decide ((toC co).length=ws.length) && (ws.zip (toC co)).all fun p=>okR p.1.1.length p.2)=true:=by
 rw[decide_eq_true (by unfold toC; rw[List.length_map]; exact hc.1),Bool.true_and,zfe,List.all_map,List.all_eq_true]
 intro p hp
 exact zgw (hc.2 p hp)
theorem zbn {n:Int}:∀ {rs:List Rs}{a:Int},z3j n a rs=true->∀ r∈rs,a < r.1/\r.1 < n/\0 < r.2.1/\0 < r.2.2/\Int.gcd r.2.1 r.2.2=1
 | [],_,_,r,h=>by cases h
 | x::rs,a,h,r,hr=>by
  simp only[z3j,Bool.and_eq_true,decide_eq_true_eq] at h
  obtain⟨h1,h2,h3,h4,h5,h6⟩:=h
  rcases List.mem_cons.mp hr with rfl | hr
  ·exact⟨h1,h2,h3,h4,h5⟩
  ·obtain⟨g1,g2⟩:=zbn h6 r hr
   exact⟨by omega,g2⟩
theorem zc3 {s s':Sh}(hb:s'.2.2=s.2.2)(ht:s'.2.1=s.2.1+s.2.2):∀ l:List Sh,Bq (l++[s'])=Bq (l++[s])/\Xq (fun _=>1) (l++[s'])=Xq (fun _=>1) (l++[s])+Bq (l++[s])
 | []=>by
  simp only[List.nil_append,Bq,Xq,hb,ht]
  exact⟨trivial,by omega⟩
 | x::l=>by
  obtain⟨e1,e2⟩:=zc3 hb ht l
  simp only[List.cons_append,Bq,Xq]
  rw[e1,e2]
  exact⟨rfl,by grind⟩
theorem zed {l:List D}{Q:DK}{X:XP}(q:Q (.tup l.reverse)):z3n.run [.tup l] Q X:=q
theorem zgm {α:Type}(f:α->D){l:List α}{n:Nat}(h:n < l.length):cutD (l.map f) none (some (n:Int))=(l.take n).map f/\cutD (l.map f) (some ((n:Int)+1)) none=(l.drop (n+1)).map f:=by
 have e1:HT.sIx l.length 0 none=0:=rfl
 have e3:HT.sIx l.length l.length none=l.length:=rfl
 rw[z5i,z5i,e1,e3,z9a (by omega),z9a (by omega),show ((n:Nat):Int).toNat=n by simp,show ((n:Int)+1).toNat=n+1 by omega,Nat.min_eq_left (by omega),Nat.min_eq_left (by omega)]
 exact⟨by simp,by rw[List.take_of_length_le (by rw[List.length_drop]; omega)]⟩
theorem zdk {α:Type}(f:α->D){l:List α}{n:Nat}(h:n<=l.length):cutD (l.map f) none (some (n:Int))=(l.take n).map f:=by
 have e1:HT.sIx l.length 0 none=0:=rfl
 rw[z5i,e1,z9a (by omega)]
 simp[Nat.min_eq_left h]
structure WPt (n:Nat)(sh:List Sh):Prop where
 shs:Shs n sh
 sml:∀ s∈sh,Bt 13 s.2.1/\Bt 13 s.2.2
 ne:sh≠[]
 part:∃ p q:Int,0 < p/\p<=q/\q<=7/\Xq (fun _=>1) sh.reverse*q=p*Bq sh.reverse
theorem WOk.wpt {n:Nat}{sh:List Sh}(h:WOk n sh):WPt n sh:=⟨h.shs,fun s hs=>⟨(h.sml s hs).1.le,(h.sml s hs).2.le⟩,h.ne,1,1,by decide,by decide,by decide,by have:=h.one; unfold One at this; omega⟩
theorem Bq.sm13:∀ {l:List Sh},(∀ s∈l,Bt 13 s.2.1/\Bt 13 s.2.2)->Bt (13*l.length+1) (Bq l)
 | [],_=>z0F (by decide)
 | s::l,h=>Bt.le (Bt.mul (Bq.sm13 fun x hx=>h x (by simp[hx])) (h s (by simp)).2) (by simp; omega)
theorem Xq.sm13 {w:Nat->Int}(hw:∀ k,Bt 40 (w k)):∀ {l:List Sh},(∀ s∈l,Bt 13 s.2.1/\Bt 13 s.2.2)->Bt (62+15*l.length) (Xq w l)
 | [],_=>Bt.le (m:=1) (z0F (by show (0:Int).natAbs < 2 ^ 1; decide))
 | s::l,h=>by
  have ih:=Xq.sm13 hw (l:=l) fun x hx=>h x (by simp[hx])
  have hs:=h s (by simp)
  have hB:=Bq.sm13 (l:=l) fun x hx=>h x (by simp[hx])
  exact Bt.le (Bt.add (Bt.mul ih hs.2) (Bt.mul (Bt.mul (hw s.1) hs.1) hB)) (by simp; omega)
theorem z80 {x:List P × P}{sh:List Sh}(hx:Wt x)(hs:WPt x.1.length sh){dn r:List Sh}(e:sh=dn++r):0 < Bq dn.reverse/\Bt 157 (Bq dn.reverse)/\Bt 242 (Xq (wx x.1) dn.reverse)/\Bt 242 (Xq (wy x.1) dn.reverse)/\Bt 242 (Xq (fun _=>1) dn.reverse):=by
 have sl:=z5A hs.shs.up fun s h=>(hs.shs.each s h).2
 have hl:=hx.len
 have dl:dn.reverse.length<=12:=by
  have:=congrArg List.length e
  simp at this
  rw[List.length_reverse]
  omega
 have hm:∀ s∈dn.reverse,Bt 13 s.2.1/\Bt 13 s.2.2:=fun s h=>hs.sml s (by rw[e]; simp at h; simp[h])
 have w1:∀ k:Nat,Bt 40 ((fun _=>(1:Int)) k):=fun _=>Bt.le (m:=1) (z0F (by show (1:Int).natAbs < 2 ^ 1; decide))
 refine⟨Bq.pos fun s h=>(hs.shs.each s (by rw[e]; simp at h; simp[h])).1,Bt.le (Bq.sm13 hm) (by omega),Bt.le (Xq.sm13 (fun k=>(zeE hx.ne hx.wb k).1) hm) (by omega),Bt.le (Xq.sm13 (fun k=>(zeE hx.ne hx.wb k).2) hm) (by omega),Bt.le (Xq.sm13 w1 hm) (by omega)⟩
theorem z7o {n:Nat}{sh:List Sh}{u t:Int}(h:WPt n sh)(hp:Pl (Xq (fun _=>1) sh.reverse) 0 (Bq sh.reverse) u 0 t):Bt 3 u/\Bt 3 t:=by
 have B0:0 < Bq sh.reverse:=Bq.pos fun x hx=>(h.shs.each x (by simpa using hx)).1
 obtain⟨p,q,p0,pq,q7,e⟩:=h.part
 have:=hp.eqv (x':=p) (y':=0) (b':=q) B0 e (by simp)
 obtain⟨b1,b2,_⟩:=this.bt (n:=3) (m:=3) (by omega) (z0F (by omega)) (z0F (by omega)) (z0F (by decide))
 exact⟨b2,b1⟩
theorem zcH {n:Nat}{sh:List Sh}(h:WPt n sh):0 < Xq (fun _=>1) sh.reverse/\Xq (fun _=>1) sh.reverse<=Bq sh.reverse:=by
 have B0:0 < Bq sh.reverse:=Bq.pos fun x hx=>(h.shs.each x (by simpa using hx)).1
 obtain⟨p,q,p0,pq,q7,e⟩:=h.part
 generalize Xq (fun _=>1) sh.reverse=x at*
 generalize Bq sh.reverse=b at*
 constructor
 ·rcases Int.lt_or_le 0 x with z | z
  ·exact z
  ·have h1:=Int.mul_pos p0 B0
   have h2:=Int.mul_nonpos_of_nonpos_of_nonneg z (show 0<=q by omega)
   omega
 ·rcases Int.lt_or_le b x with z | z
  ·have h1:b*q < x*q:=Int.mul_lt_mul_of_pos_right z (by omega)
   have h2:p*b<=q*b:=Int.mul_le_mul_of_nonneg_right pq (by omega)
   rw[Int.mul_comm b q] at h1
   omega
  ·exact z
noncomputable def wtq (E:Tr)(p:(List P × P) × List Sh):Tr:=(E.1*(Bq p.2.reverse*Bq p.2.reverse)+Xq (wx p.1.1) p.2.reverse*E.2.2*Bq p.2.reverse+p.1.2.1*Xq (fun _=>1) p.2.reverse*(E.2.2*Bq p.2.reverse),E.2.1*(Bq p.2.reverse*Bq p.2.reverse)+Xq (wy p.1.1) p.2.reverse*E.2.2*Bq p.2.reverse+p.1.2.2*Xq (fun _=>1) p.2.reverse*(E.2.2*Bq p.2.reverse),E.2.2*(Bq p.2.reverse*Bq p.2.reverse))
noncomputable def Fq (zs:List ((List P × P) × List Sh)):Tr:=zs.foldl wtq (0,0,1)
theorem Fq.snoc (zs:List ((List P × P) × List Sh))(p:(List P × P) × List Sh):Fq (zs++[p])=wtq (Fq zs) p:=by
 unfold Fq
 rw[List.foldl_append]
 rfl
structure FC (n:Nat)(E:Tr):Prop where
 pos:0 < E.2.2
 b:Bt n E.2.2
 x:Bt (n+250) E.1
 y:Bt (n+250) E.2.1
theorem FC.wtq {n:Nat}{E:Tr}{p:(List P × P) × List Sh}(h:FC n E)(hx:Wt p.1)(hs:WPt p.1.1.length p.2):FC (n+320) (wtq E p):=by
 obtain⟨p0,b0,b1,b2,b3⟩:=z80 hx hs (dn:=p.2) (r:=[]) (by simp)
 have v:=hx.vb
 refine⟨Int.mul_pos h.pos (Int.mul_pos p0 p0),Bt.le (Bt.mul h.b (Bt.mul b0 b0)) (by omega),?_,?_⟩
 ·exact Bt.le (Bt.add (Bt.add (Bt.mul h.x (Bt.mul b0 b0)) (Bt.mul (Bt.mul b1 h.b) b0)) (Bt.mul (Bt.mul v.1 b3) (Bt.mul h.b b0))) (by omega)
 ·exact Bt.le (Bt.add (Bt.add (Bt.mul h.y (Bt.mul b0 b0)) (Bt.mul (Bt.mul b2 h.b) b0)) (Bt.mul (Bt.mul v.2 b3) (Bt.mul h.b b0))) (by omega)
theorem FC.le {n m:Nat}{E:Tr}(h:FC n E)(k:n<=m):FC m E:=⟨h.pos,h.b.le k,h.x.le (by omega),h.y.le (by omega)⟩
theorem zgj {zs:List ((List P × P) × List Sh)}(h:∀ p∈zs,Wt p.1/\WPt p.1.1.length p.2):FC (1+320*zs.length) (Fq zs):=by
 have main:∀ (zs:List ((List P × P) × List Sh)) (n:Nat) (E:Tr),FC n E->(∀ p∈zs,Wt p.1/\WPt p.1.1.length p.2)->FC (n+320*zs.length) (zs.foldl wtq E):=by
  intro zs
  induction zs with
  | nil=>intro n E h _; exact h
  | cons p zs ih=>
   intro n E h k
   have hp:=k p (by simp)
   exact(ih (n+320) _ (h.wtq hp.1 hp.2) fun q hq=>k q (by simp[hq])).le (by simp; omega)
 exact main zs 1 (0,0,1) ⟨by decide,z0F (by decide),Bt.le (m:=1) (z0F (by decide)) (by omega),Bt.le (m:=1) (z0F (by decide)) (by omega)⟩ h
theorem zff {α β:Type}{l:List α}{m:List β}(h:m.length<=l.length){dn:List Nat}{k:Nat}{r:List Nat}(e:List.range m.length=dn++k::r):∃ x y,k=dn.length/\atI l (k:Int)=some x/\atI m (k:Int)=some y/\(l.zip m)[k]? = some (x,y):=by
 have h4:=congrArg List.length e
 have h5:(List.range m.length)[dn.length]? = some k:=by rw[e]; simp
 rw[List.getElem?_range (by simp at h4; omega)] at h5
 simp at h4 h5
 have hk:k < m.length:=by omega
 refine⟨l[k],m[k],by omega,?_,?_,?_⟩
 ·unfold atI
  rw[z6O (by omega) (by omega)]
  show l[((k:Nat):Int).toNat]? = _
  rw[show ((k:Nat):Int).toNat=k by simp,List.getElem?_eq_getElem (by omega)]
 ·unfold atI
  rw[z6O (by omega) (by omega)]
  show m[((k:Nat):Int).toNat]? = _
  rw[show ((k:Nat):Int).toNat=k by simp,List.getElem?_eq_getElem hk]
 ·rw[List.getElem?_eq_getElem (by rw[List.length_zip]; omega),List.getElem_zip]
noncomputable def Sc0 (ws:List (List P × P))(co:List (List Sh)):Prop:=co.length<=ws.length/\∀ p∈ws.zip co,WPt p.1.1.length p.2
theorem Pl.strm {x y b u v t p q vx vy u' v' t' T B:Int}(hb:0 < b)(hq:0 < q)(h:Pl x y b u v t)(ht:p*B=T*q)(s:Pl (u*q+vx*p*t) (v*q+vy*p*t) (t*q) u' v' t'):Pl (x*B+vx*T*b) (y*B+vy*T*b) (b*B) u' v' t':=by
 refine(h.lift hb s).eqv (Int.mul_pos hb hq) ?_ ?_
 ·calc (x*q+vx*p*b)*(b*B)=x*q*b*B+vx*b*b*(p*B):=by grind
   _=_:=by rw[ht]; grind
 ·calc (y*q+vy*p*b)*(b*B)=y*q*b*B+vy*b*b*(p*B):=by grind
   _=_:=by rw[ht]; grind
theorem zgY {ws:List (List P × P)}{co:List (List Sh)}{Q:DK}{X:XP}(hw:∀ x∈ws,Wt x)(hz:ws.length<=13)(hc:Sc0 ws co)(q:∀ u v t,Pl (Fq (ws.zip co)).1 (Fq (ws.zip co)).2.1 (Fq (ws.zip co)).2.2 u v t->Q (.tup [.int u,.int v,.int t])):z27.run [.tup (ws.map wtD),.tup (co.map shsD)] Q X:=by
 obtain⟨hl,hok⟩:=hc
 have hzl:(ws.zip co).length=co.length:=by rw[List.length_zip]; omega
 walk_at "fn"
 walk_at "go"
 rw[List.length_map]
 refine zeY (by omega) (by omega) ?_
 rw[show ((co.length:Nat):Int).toNat=co.length by simp]
 refine z1M (f:=fun(j:Nat)=>D.int (j:Int)) (fun dn ρ=>∃ (u v t:Int) (x3 x4 x5 x6:B),Pl (Fq ((ws.zip co).take dn.length)).1 (Fq ((ws.zip co).take dn.length)).2.1 (Fq ((ws.zip co).take dn.length)).2.2 u v t/\ρ=[.s (.tup (ws.map wtD)),.s (.tup (co.map shsD)),.s (.tup [.int u,.int v,.int t]),x3,x4,x5,x6]) ⟨0,0,1,_,_,_,_,⟨by decide,by decide,rfl,rfl⟩,rfl⟩ ?_ ?_
 ·rintro dn k r ρ e ⟨u,v,t,x3,x4,x5,x6,hp,rfl⟩
  obtain⟨x,sh,ek,e1,e2,e3⟩:=zff hl e
  have hm:=List.mem_of_getElem? e3
  have hx:Wt x:=hw x (List.of_mem_zip hm).1
  have hs:WPt x.1.length sh:=hok _ hm
  have fb:FC 4161 (Fq ((ws.zip co).take dn.length)):=(zgj fun p hp=>⟨hw _ (List.of_mem_zip (List.mem_of_mem_take hp)).1,hok _ (List.mem_of_mem_take hp)⟩).le (by rw[List.length_take]; omega)
  have nx:Fq ((ws.zip co).take (dn++[k]).length)=wtq (Fq ((ws.zip co).take dn.length)) (x,sh):=by
   rw[List.length_append,List.length_singleton,List.take_succ, <- ek,e3]
   exact Fq.snoc _ _
  rw[nx]
  generalize Fq ((ws.zip co).take dn.length)=E at hp fb ⊢
  show Sm.run _ _ _ _ _
  walk_at "en"
  walk_at "go"
  refine z2r (z1Q e2) ?_
  walk_at "go"
  refine z1M (f:=shD) (fun dn' ρ=>∃ (u v t a b:Int) (x5 x6:B),Pl (E.1*Bq dn'.reverse+Xq (wx x.1) dn'.reverse*E.2.2) (E.2.1*Bq dn'.reverse+Xq (wy x.1) dn'.reverse*E.2.2) (E.2.2*Bq dn'.reverse) u v t/\Pl (Xq (fun _=>1) dn'.reverse) 0 (Bq dn'.reverse) a 0 b/\ρ=[.s (.tup (ws.map wtD)),.s (.tup (co.map shsD)),.s (.tup [.int u,.int v,.int t]),.s (.int (k:Int)),.s (.tup [.int a,.int b]),x5,x6]) ⟨u,v,t,0,1,_,_,by simpa[Bq,Xq] using hp,⟨by decide,by decide,by simp[Bq,Xq],by simp⟩,rfl⟩ ?_ ?_
  ·rintro dn' s r' ρ e' ⟨u,v,t,a,b,x5,x6,hp,ht,rfl⟩
   obtain⟨hsg,hn⟩:=hs.shs.each s (by rw[e']; simp)
   obtain⟨b10,b11⟩:=hs.sml s (by rw[e']; simp)
   obtain⟨p0,q0,q1,q2,q3⟩:=z80 hx hs e'
   have hb:=Int.mul_pos fb.pos p0
   obtain⟨bt1,bu,bv⟩:=hp.bt (n:=4400) (m:=4600) hb (Bt.le (Bt.mul fb.b q0)) (Bt.le (Bt.add (Bt.mul fb.x q0) (Bt.mul q1 fb.b))) (Bt.le (Bt.add (Bt.mul fb.y q0) (Bt.mul q2 fb.b)))
   obtain⟨bb1,ba1,_⟩:=ht.bt (n:=157) (m:=242) p0 q0 q3 (Bt.le (m:=0) (z0F (by decide)))
   refine⟨rfl,?_⟩
   show Sm.run _ _ _ _ _
   unfold z0E z0E z0E
   walk_at "en"
   walk_at "go"
   refine z2r (z1Q e1) ?_
   walk_at "go"
   refine z2r (z1Q (zeF hn)) ?_
   walk_at "go"
   refine zeV hp.pos hsg.bot bu.le bv.le bt1.le b10.le b11.le ⟨(zeE hx.ne hx.wb s.1).1.le,(zeE hx.ne hx.wb s.1).2.le⟩ fun u' v' t' h' => ?_
   refine z3b (Safe.of_noL rfl rfl _) ?_
   walk_at "en"
   walk_at "go"
   refine zeT ht.pos hsg.bot ba1.le bb1.le b10.le b11.le fun a' b' h2 => ?_
   refine z3b (Safe.of_noL rfl rfl _) ?_
   walk_at "en"
   refine⟨u',v',t',a',b',_,_,?_,?_,rfl⟩
   ·have:=hp.lift hb h'
    rw[List.reverse_append]
    show Pl (E.1*(Bq dn'.reverse*s.2.2)+(Xq (wx x.1) dn'.reverse*s.2.2+wx x.1 s.1*s.2.1*Bq dn'.reverse)*E.2.2) (E.2.1*(Bq dn'.reverse*s.2.2)+(Xq (wy x.1) dn'.reverse*s.2.2+wy x.1 s.1*s.2.1*Bq dn'.reverse)*E.2.2) (E.2.2*(Bq dn'.reverse*s.2.2)) u' v' t'
    refine this.eqv (Int.mul_pos hb hsg.bot) ?_ ?_
    ·show (_+(Geo.cy x.1 s.1).1*s.2.1*_)*_=(_+(_+(Geo.cy x.1 s.1).1*s.2.1*_)*_)*_
     grind
    ·show (_+(Geo.cy x.1 s.1).2*s.2.1*_)*_=(_+(_+(Geo.cy x.1 s.1).2*s.2.1*_)*_)*_
     grind
   ·have:=ht.lift (vx:=1) (vy:=0) (p:=s.2.1) (q:=s.2.2) p0 (u':=a') (v':=0) (t':=b') (by simpa using h2)
    rw[List.reverse_append]
    show Pl (Xq (fun _=>1) dn'.reverse*s.2.2+1*s.2.1*Bq dn'.reverse) 0 (Bq dn'.reverse*s.2.2) a' 0 b'
    simpa using this
  rintro ρ ⟨u,v,t,a,b,x5,x6,hp,ht,rfl⟩
  obtain⟨p0,q0,q1,q2,q3⟩:=z80 hx hs (dn:=sh) (r:=[]) (by simp)
  have hb:=Int.mul_pos fb.pos p0
  obtain⟨bt1,bu,bv⟩:=hp.bt (n:=4400) (m:=4600) hb (Bt.le (Bt.mul fb.b q0)) (Bt.le (Bt.add (Bt.mul fb.x q0) (Bt.mul q1 fb.b))) (Bt.le (Bt.add (Bt.mul fb.y q0) (Bt.mul q2 fb.b)))
  obtain⟨ba1,bb1⟩:=z7o hs ht
  walk_at "go"
  refine z2r (z1Q e1) ?_
  walk_at "go"
  refine zeV hp.pos ht.pos bu.le bv.le bt1.le ba1.le bb1.le ⟨hx.vb.1.le,hx.vb.2.le⟩ fun u' v' t' h' => ?_
  refine z3b (Safe.of_noL rfl rfl _) ?_
  walk_at "en"
  refine⟨u',v',t',_,_,_,_,?_,rfl⟩
  have:=hp.strm hb ht.pos ht.cx h'
  refine this.eqv (Int.mul_pos hb p0) ?_ ?_
  ·simp only[wtq]
   grind
  ·simp only[wtq]
   grind
 rintro ρ ⟨u,v,t,x3,x4,x5,x6,hp,rfl⟩
 rw[List.length_range,List.take_of_length_le (by omega)] at hp
 walk_at "go"
 exact q u v t hp
end Pu
namespace Pu
open PySem L2 Mth
noncomputable def mst (E:Int × Int)(sh:List Sh):Int × Int:=(E.1*Bq sh.reverse+Xq (fun _=>1) sh.reverse*E.2,E.2*Bq sh.reverse)
noncomputable def Mq (co:List (List Sh)):Int × Int:=co.foldl mst (0,1)
theorem Mq.snoc (zs:List (List Sh))(p:List Sh):Mq (zs++[p])=mst (Mq zs) p:=by
 unfold Mq
 rw[List.foldl_append]
 rfl
structure MB (n:Nat)(E:Int × Int):Prop where
 pos:0 < E.2
 b:Bt n E.2
 x:Bt (n+250) E.1
noncomputable def WP1 (sh:List Sh):Prop:=(∃ n,n<=62/\WPt n sh)/\∀ dn r,sh=dn++r->0 < Bq dn.reverse/\Bt 157 (Bq dn.reverse)/\Bt 242 (Xq (fun _=>1) dn.reverse)
theorem MB.mst {n:Nat}{E:Int × Int}{sh:List Sh}(h:MB n E)(hs:WP1 sh):MB (n+160) (mst E sh):=by
 obtain⟨p0,b0,b1⟩:=hs.2 sh [] (by simp)
 exact⟨Int.mul_pos h.pos p0,Bt.le (Bt.mul h.b b0) (by omega),Bt.le (Bt.add (Bt.mul h.x b0) (Bt.mul b1 h.b)) (by omega)⟩
theorem MB.le {n m:Nat}{E:Int × Int}(h:MB n E)(k:n<=m):MB m E:=⟨h.pos,h.b.le k,h.x.le (by omega)⟩
theorem zgd {zs:List (List Sh)}(h:∀ p∈zs,WP1 p):MB (1+160*zs.length) (Mq zs):=by
 have main:∀ (zs:List (List Sh)) (n:Nat) (E:Int × Int),MB n E->(∀ p∈zs,WP1 p)->MB (n+160*zs.length) (zs.foldl Pu.mst E):=by
  intro zs
  induction zs with
  | nil=>intro n E h _; exact h
  | cons p zs ih=>
   intro n E h k
   have hp:=k p (by simp)
   exact(ih (n+160) _ (h.mst hp) fun q hq=>k q (by simp[hq])).le (by simp; omega)
 exact main zs 1 (0,1) ⟨by decide,z0F (by decide),Bt.le (m:=1) (z0F (by decide)) (by omega)⟩ h
theorem zck {co:List (List Sh)}{Q:DK}{X:XP}(hz:co.length<=13)(hc:∀ sh∈co,WP1 sh)(q:∀ u t,Pl (Mq co).1 0 (Mq co).2 u 0 t->Q (.tup [.int u,.int t])):z1v.run [.tup (co.map shsD)] Q X:=by
 walk_at "fn"
 walk_at "go"
 refine z1M (f:=shsD) (fun dn ρ=>∃ (u t:Int) (x2 x3 x4:B),Pl (Mq dn).1 0 (Mq dn).2 u 0 t/\ρ=[.s (.tup (co.map shsD)),.s (.tup [.int u,.int t]),x2,x3,x4]) ⟨0,1,_,_,_,⟨by decide,by decide,rfl,rfl⟩,rfl⟩ ?_ ?_
 ·rintro dn sh r ρ e ⟨u,t,x2,x3,x4,hp,rfl⟩
  have hs:=hc sh (by rw[e]; simp)
  have mb:MB 2081 (Mq dn):=(zgd fun p hp=>hc p (by rw[e]; simp[hp])).le (by
   have:=congrArg List.length e
   rw[List.length_append,List.length_cons] at this
   omega)
  rw[Mq.snoc]
  generalize Mq dn=E at hp mb ⊢
  show Sm.run _ _ _ _ _
  walk_at "en"
  walk_at "go"
  refine z1M (f:=shD) (fun dn' ρ=>∃ (u t:Int) (x3 x4:B),Pl (E.1*Bq dn'.reverse+Xq (fun _=>1) dn'.reverse*E.2) 0 (E.2*Bq dn'.reverse) u 0 t/\ρ=[.s (.tup (co.map shsD)),.s (.tup [.int u,.int t]),.s (shsD sh),x3,x4]) ⟨u,t,_,_,by simpa[Bq,Xq] using hp,rfl⟩ ?_ ?_
  ·rintro dn' s r' ρ e' ⟨u,t,x3,x4,hp,rfl⟩
   obtain⟨n,hn62,wpt⟩:=hs.1
   obtain⟨hsg,hn⟩:=wpt.shs.each s (by rw[e']; simp)
   obtain⟨b10,b11⟩:=wpt.sml s (by rw[e']; simp)
   obtain⟨p0,q0,q3⟩:=hs.2 _ _ e'
   have hb:=Int.mul_pos mb.pos p0
   obtain⟨bt1,bu,_⟩:=hp.bt (n:=2300) (m:=2600) hb (Bt.le (Bt.mul mb.b q0)) (Bt.le (Bt.add (Bt.mul mb.x q0) (Bt.mul q3 mb.b))) (Bt.le (m:=0) (z0F (by decide)))
   refine⟨rfl,?_⟩
   show Sm.run _ _ _ _ _
   unfold z0E z0E z0E
   walk_at "en"
   walk_at "go"
   refine zeT hp.pos hsg.bot bu.le bt1.le b10.le b11.le fun a' b' h2 => ?_
   refine z3b (Safe.of_noL rfl rfl _) ?_
   walk_at "en"
   refine⟨a',b',_,_,?_,rfl⟩
   have:=hp.lift (vx:=1) (vy:=0) (p:=s.2.1) (q:=s.2.2) hb (u':=a') (v':=0) (t':=b') (by simpa using h2)
   rw[List.reverse_append]
   show Pl (E.1*(Bq dn'.reverse*s.2.2)+(Xq (fun _=>1) dn'.reverse*s.2.2+1*s.2.1*Bq dn'.reverse)*E.2) 0 (E.2*(Bq dn'.reverse*s.2.2)) a' 0 b'
   refine this.eqv (Int.mul_pos hb hsg.bot) ?_ ?_
   ·grind
   ·simp
  rintro ρ ⟨u,t,x3,x4,hp,rfl⟩
  exact⟨u,t,_,_,_,hp,rfl⟩
 rintro ρ ⟨u,t,x2,x3,x4,hp,rfl⟩
 walk_at "go"
 exact q u t hp
theorem za8 {co:List (List Sh)}{Q:DK}{X:XP}(hz:co.length<=13)(hc:∀ sh∈co,WP1 sh)(q:∀ u t,Pl (Mq co).1 0 (Mq co).2 u 0 t->Q (.tup [.int u,.int t])):z1S.run [.tup (co.map shsD)] Q X:=by
 walk_at "fn"
 walk_at "go"
 refine z1M (f:=shsD) (fun dn ρ=>∃ (u t:Int) (x2:B),Pl (Mq dn).1 0 (Mq dn).2 u 0 t/\ρ=[.s (.tup (co.map shsD)),.s (.tup [.int u,.int t]),x2]) ⟨0,1,_,⟨by decide,by decide,rfl,rfl⟩,rfl⟩ ?_ ?_
 ·rintro dn sh r ρ e ⟨u,t,x2,hp,rfl⟩
  have hs:=hc sh (by rw[e]; simp)
  have mb:MB 2081 (Mq dn):=(zgd fun p hp=>hc p (by rw[e]; simp[hp])).le (by
   have:=congrArg List.length e
   rw[List.length_append,List.length_cons] at this
   omega)
  rw[Mq.snoc]
  generalize Mq dn=E at hp mb ⊢
  obtain⟨n,hn62,wpt⟩:=hs.1
  obtain⟨p0,q0,q3⟩:=hs.2 sh [] (by simp)
  obtain⟨bt1,bu,_⟩:=hp.bt mb.pos mb.b mb.x (Bt.le (m:=0) (z0F (by decide)))
  show Sm.run _ _ _ _ _
  walk_at "en"
  walk_at "go"
  refine s_shares_sum hn62 wpt.shs fun a b hab => ?_
  obtain⟨ba1,bb1⟩:=z7o wpt hab
  have c1:Int.gcd u t=1:=by have:=hp.cop; rw[gcd0] at this; exact this
  have c2:Int.gcd a b=1:=by have:=hab.cop; rw[gcd0] at this; exact this
  refine s_added hp.pos hab.pos c1 c2 bu.le bt1.le ba1.le bb1.le fun u' t' h' => ?_
  refine z3b (Safe.of_noL rfl rfl _) ?_
  walk_at "en"
  refine⟨u',t',_,?_,rfl⟩
  have:=hp.add mb.pos p0 hab (p:=u') (q:=0) (r:=t') (by simpa using h')
  simpa[mst] using this
 rintro ρ ⟨u,t,x2,hp,rfl⟩
 walk_at "go"
 exact q u t hp
end Pu
namespace Pu
open PySem L2 Mth
noncomputable def scl (p q:Int)(s:Sh):Sh:=(s.1,s.2.1*p / (Int.gcd (s.2.1*p) (s.2.2*q):Int),s.2.2*q / (Int.gcd (s.2.1*p) (s.2.2*q):Int))
theorem ziS {p q:Int}{s:Sh}(hb:0 < s.2.2*q):(scl p q s).2.1*(s.2.2*q)=s.2.1*p*(scl p q s).2.2:=by
 obtain⟨g0,e1,e2,e3,e4⟩:=z5V (t:=s.2.1*p) hb
 show s.2.1*p / (Int.gcd (s.2.1*p) (s.2.2*q):Int)*(s.2.2*q)=s.2.1*p*(s.2.2*q / (Int.gcd (s.2.1*p) (s.2.2*q):Int))
 generalize (Int.gcd (s.2.1*p) (s.2.2*q):Int)=g at*
 generalize s.2.1*p / g=a at*
 generalize s.2.2*q / g=b at*
 rw[e1,e2]
 grind
theorem zeQ {f:Sh->Sh}{p q:Int}:∀ {l:List Sh},(∀ s∈l,(f s).2.1*(s.2.2*q)=s.2.1*p*(f s).2.2)->Xq (fun _=>1) (l.map f)*(Bq l*q)=p*Xq (fun _=>1) l*Bq (l.map f)
 | [],_=>by simp[Xq,Bq]
 | s::l,h=>by
  have ih:=zeQ (l:=l) fun x hx=>h x (by simp[hx])
  have e:=h s (by simp)
  rw[List.map_cons]
  simp only[Xq,Bq]
  calc (Xq (fun _=>1) (l.map f)*(f s).2.2+1*(f s).2.1*Bq (l.map f))*(Bq l*s.2.2*q)=(Xq (fun _=>1) (l.map f)*(Bq l*q))*(s.2.2*(f s).2.2)+((f s).2.1*(s.2.2*q))*(Bq (l.map f)*Bq l):=by grind
   _=p*(Xq (fun _=>1) l*s.2.2+1*s.2.1*Bq l)*(Bq (l.map f)*(f s).2.2):=by rw[ih,e]; grind
theorem zcg {n:Nat}{sh:List Sh}{p q:Int}(h:WOk n sh)(hq:0 < q):Xq (fun _=>1) (sh.map (scl p q)).reverse*q=p*Bq (sh.map (scl p q)).reverse:=by
 have B0:0 < Bq sh.reverse:=Bq.pos fun x hx=>(h.shs.each x (by simpa using hx)).1
 have c:=zeQ (f:=scl p q) (p:=p) (q:=q) (l:=sh.reverse) fun s hs=>ziS (Int.mul_pos (h.shs.each s (by simpa using hs)).1.bot hq)
 have o:=h.one
 unfold One at o
 rw[List.map_reverse,o] at c
 apply Int.eq_of_mul_eq_mul_right (show Bq sh.reverse≠0 by omega)
 generalize Bq sh.reverse=b at*
 grind
theorem zch {n:Nat}{sh:List Sh}{p q:Int}(h:WOk n sh)(p0:0 < p)(pq:p<=q)(q7:q<=7):WPt n (sh.map (scl p q)):=by
 have bits:∀ s∈sh,Bt 13 (scl p q s).2.1/\Bt 13 (scl p q s).2.2:=fun s hs=>by
  have hsg:=(h.shs.each s hs).1
  have:=h.sml s hs
  obtain⟨g0,e1,e2,e3,e4⟩:=z5V (t:=s.2.1*p) (Int.mul_pos hsg.bot (show 0 < q by omega))
  exact⟨Bt.of_abs (Bt.mul this.1 (z0F (n:=3) (by omega))) (z0s g0),Bt.of_abs (Bt.mul this.2 (z0F (n:=3) (by omega))) (z0s g0)⟩
 refine⟨⟨fun s hs' => ?_,?_⟩,fun s hs' => ?_,fun z=>h.ne (List.map_eq_nil_iff.mp z),p,q,p0,pq,q7,zcg h (by omega)⟩
 ·obtain⟨s,hs,rfl⟩:=List.mem_map.mp hs'
  obtain⟨hsg,hn⟩:=h.shs.each s hs
  obtain⟨b1,b2⟩:=bits s hs
  obtain⟨g0,e1,e2,e3,e4⟩:=z5V (t:=s.2.1*p) (Int.mul_pos hsg.bot (show 0 < q by omega))
  refine⟨⟨?_,by show 0 < s.2.2*q / _; omega,e4,b1.le,b2.le⟩,hn⟩
  show 0 < s.2.1*p / (Int.gcd (s.2.1*p) (s.2.2*q):Int)
  have tp:=Int.mul_pos hsg.top p0
  rcases Int.lt_or_le 0 (s.2.1*p / (Int.gcd (s.2.1*p) (s.2.2*q):Int)) with z | z
  ·exact z
  ·have:=Int.mul_nonpos_of_nonneg_of_nonpos (Int.le_of_lt g0) z
   omega
 ·rw[List.pairwise_map]
  exact h.shs.up
 ·obtain⟨s,hs,rfl⟩:=List.mem_map.mp hs'
  exact bits s hs
noncomputable def SC (ws:List (List P × P))(co:List (List Sh)):Prop:=co=[]\/∃ ini la x,co=ini++[la]/\ws[ini.length]? = some x/\Crs (ws.take ini.length) ini/\WPt x.1.length la
theorem zb4 {α β:Type}:∀ {l:List α}{m:List β},l.zip m=(l.take m.length).zip m
 | [],_=>by simp
 | _::_,[]=>by simp
 | a::l,b::m=>by
  rw[List.length_cons,List.take_succ_cons,List.zip_cons_cons,List.zip_cons_cons, <- zb4]
theorem zeO {α β:Type}:∀ {n:Nat}{l:List α}{m:List β},(l.take n).zip (m.take n)=(l.zip m).take n
 | 0,_,_=>by simp
 | _+1,[],_=>by simp
 | _+1,_::_,[]=>by simp
 | n+1,a::l,b::m=>by
  rw[List.take_succ_cons,List.take_succ_cons,List.zip_cons_cons,List.zip_cons_cons,List.take_succ_cons,zeO]
theorem zbo {α:Type}{l:List α}{k:Nat}{x:α}(h:l[k]? = some x):k < l.length:=by
 rcases Nat.lt_or_ge k l.length with z | z
 ·exact z
 ·rw[List.getElem?_eq_none z] at h; cases h
theorem SC.sc0 {ws:List (List P × P)}{co:List (List Sh)}(h:SC ws co):Sc0 ws co:=by
 rcases h with rfl | ⟨ini,la,x,rfl,hx,hc,hp⟩
 ·exact⟨by simp,fun p hp=>by simp at hp⟩
 ·have:=zbo hx
  refine⟨by rw[List.length_append,List.length_singleton]; omega,fun p hp' => ?_⟩
  rw[z9l hx] at hp'
  rcases List.mem_append.mp hp' with z | z
  ·rw[zb4] at z
   exact(hc.2 p z).wpt
  ·rw[List.mem_singleton.mp z]
   exact hp
theorem zfd {co:List (List Sh)}:Da 60 (.tup (co.map shsD)):=Da.tup.mpr fun d hd=>by
 obtain⟨x,_,rfl⟩:=List.mem_map.mp hd
 refine Da.tup.mpr fun d hd => ?_
 obtain⟨s,_,rfl⟩:=List.mem_map.mp hd
 refine Da.tup.mpr fun d hd => ?_
 simp only[List.mem_cons,List.not_mem_nil,or_false] at hd
 rcases hd with rfl | rfl
 ·exact Da.int
 ·exact Da.vec s.2 (n:=56)
theorem ziK {α:Type}{ini:List α}{la:α}:atI (ini++[la]) (-1)=some la:=by
 unfold atI
 rw[show ixN (ini++[la]).length (-1)=some ini.length by
  unfold ixN
  rw[if_neg (by decide),List.length_append,List.length_singleton]
  have:(0:Int) <= -1+((ini.length+1:Nat):Int):=by omega
  first | (rw[if_pos this]; congr 1; omega) | (rw[if_pos (by omega)]; congr 1; omega)]
 show (ini++[la])[ini.length]? = some la
 simp
theorem zfq {ws:List (List P × P)}{co:List (List Sh)}{c:Int}{Q:DK}{X:XP}(hw:∀ x∈ws,Wt x)(hz:ws.length<=13)(hc:Crs ws co)(q:∀ co,SC ws co->Q (.tup (co.map shsD))):z1C.run [.tup (co.map shsD),.int c] Q X:=by
 have hl:=hc.1
 walk_at "fn"
 walk_at "go"
 rw[List.length_map]
 refine z1O (by decide) (by decide) (by omega) fun r r0 r1 => ?_
 obtain⟨n,rfl⟩:∃ n:Nat,r=n:=⟨r.toNat,by omega⟩
 walk_at "go"
 rw[zdk shsD (by omega)]
 walk_at "go"
 refine zid zfd (Da.tup.mpr fun d hd=>by cases hd) ?_
 cases n with
 | zero=>
  refine za1 rfl ?_
  walk_at "go"
  exact q [] (.inl rfl)
 | succ n=>
 have hn:n < co.length:=by omega
 obtain⟨sh,es⟩:∃ sh,co[n]? = some sh:=⟨_,List.getElem?_eq_getElem hn⟩
 obtain⟨x,ex⟩:∃ x,ws[n]? = some x:=⟨_,List.getElem?_eq_getElem (by omega)⟩
 have et:co.take (n+1)=co.take n++[sh]:=by rw[List.take_succ,es]; rfl
 have hm:(x,sh)∈ws.zip co:=List.mem_of_getElem? (i:=n) (by rw[List.getElem?_zip_eq_some]; exact⟨ex,es⟩)
 have ok:=hc.2 _ hm
 rw[et]
 have ne:deq (.tup ((co.take n++[sh]).map shsD)) (.tup [])=false:=by
  cases co.take n <;> rfl
 refine z9r ne ?_
 walk_at "go"
 refine z1O (by decide) (by decide) (by decide) fun b b0 b1 => ?_
 walk_at "go"
 refine z1O (by decide) (by decide) (by omega) fun a a0 a1 => ?_
 walk_at "go"
 refine z2r (z1Q ziK) ?_
 walk_at "go"
 have sl:=z5A ok.shs.up fun s hs=>(ok.shs.each s hs).2
 have hxl:=(hw x (List.of_mem_zip hm).1).len
 dsimp only at ok sl
 refine⟨by rw[List.length_map]; exact szl' (by omega),?_⟩
 refine z3g (g:=fun s=>shD (scl (1+a) (1+b) s)) (fun s hs K hK => ?_) ?_
 ·have hsg:=(ok.shs.each s hs).1
  obtain⟨k1,k2⟩:=ok.sml s hs
  have ba:Bt 4 (1+a):=z0F (by omega)
  have bb:Bt 4 (1+b):=z0F (by omega)
  refine⟨rfl,?_⟩
  show Ex.run _ _ _ _
  unfold z0E z0E z0E
  walk_at "en"
  walk_at "go"
  refine z9u (Int.mul_pos hsg.bot (by omega)) (Bt.le (Bt.mul k2 bb)) ?_
  walk_at "go"
  exact hK
 walk_at "go"
 rw[show (sh.map fun s=>shD (scl (1+a) (1+b) s))=(sh.map (scl (1+a) (1+b))).map shD by rw[List.map_map]; rfl]
 rw[z5i,zbt,List.dropLast_concat]
 refine z7G (by simp; exact szl (by omega)) ?_
 rw[show (co.take n).map shsD++[D.tup ((sh.map (scl (1+a) (1+b))).map shD)]=(co.take n++[sh.map (scl (1+a) (1+b))]).map shsD by simp]
 have tl:(co.take n).length=n:=by rw[List.length_take]; omega
 refine q _ (.inr ⟨co.take n,_,x,rfl,by rw[tl]; exact ex,⟨by rw[tl,List.length_take]; omega,fun p hp => ?_⟩,zch ok (by omega) (by omega) (by omega)⟩)
 rw[tl,zeO] at hp
 exact hc.2 p (List.mem_of_mem_take hp)
noncomputable def leR (rs:List Rs):Bool:=decide (Xq (fun _=>(1:Int)) (rs.map zbU).reverse<=Bq (rs.map zbU).reverse)
noncomputable def crsR (ws:List (List P × P))(rc:List (List Rs)):Bool:=decide (rc.length=ws.length) && (ws.zip rc).all fun p=>okR p.1.1.length p.2
theorem s_is_before {a b c d:Int}{Q:DK}{X:XP}(h1:Bt 9000 a)(h2:Bt 9000 b)(h3:Bt 9000 c)(h4:Bt 9000 d)(q:Q (.bl (decide (a*d < c*b)))):z31.run [.tup [.int a,.int b],.tup [.int c,.int d]] Q X:=by
 walk_at "fn"
 walk_at "go"
 exact q
theorem zcm {n:Nat}{rs:List Rs}{Q:DK}{X:XP}(hn:n<=62)(hg:z3j (n:Int) (-1) rs=true)(hb:Bits rs)(q:Q (.bl (!leR rs))):z0C.run [.tup (rs.map rsD)] (fun x=>z31.run [.tup [.int 1,.int 1],x] Q X) X:=by
 obtain⟨sh,rfl,hs,_⟩:=z9L (by decide) hg hb
 have hgs:∀ x∈sh.reverse,Sg x:=fun x hx=>(hs.each x (by simpa using hx)).1
 have B0:0 < Bq sh.reverse:=Bq.pos hgs
 have sl:=z5A hs.up fun s h=>(hs.each s h).2
 have w1:∀ k:Nat,Bt 600 ((fun _=>(1:Int)) k):=fun _=>Bt.le (m:=1) (z0F (by show (1:Int).natAbs < 2 ^ 1; decide))
 have dl:sh.reverse.length<=62:=by rw[List.length_reverse]; omega
 rw[<- z6q]
 refine s_shares_sum hn hs fun u t hp => ?_
 obtain⟨b1,b2,_⟩:=hp.bt B0 (Bt.le (Bq.bt hgs) (show _<=8000 by lia)) (Bt.le (Xq.bt w1 hgs) (show _<=8000 by lia)) (Bt.le (m:=0) (z0F (by decide)))
 refine s_is_before (Bt.le (m:=1) (z0F (by decide))) (Bt.le (m:=1) (z0F (by decide))) b2.le b1.le ?_
 have e:(decide (1*t < u*1)) = !leR (sh.map toR):=by
  unfold leR
  rw[z7y]
  have cx:=hp.cx
  have t0:=hp.pos
  generalize Xq (fun _=>(1:Int)) sh.reverse=x at*
  generalize Bq sh.reverse=b at*
  rw[<- decide_not]
  refine z7z ⟨fun h => ?_,fun h => ?_⟩
  ·intro z
   have h1:x*t<=b*t:=Int.mul_le_mul_of_nonneg_right z (by omega)
   have h2:t*b < u*b:=Int.mul_lt_mul_of_pos_right (by omega) B0
   rw[Int.mul_comm t b] at h2
   omega
  ·rcases Int.lt_or_le t u with z | z
   ·omega
   ·have h2:u*b<=t*b:=Int.mul_le_mul_of_nonneg_right z (by omega)
    have h1:b*t < x*t:=Int.mul_lt_mul_of_pos_right (by omega) t0
    rw[Int.mul_comm t b] at h2
    omega
 rw[e]
 exact q
end Pu
namespace Pu
open PySem L2 Mth
theorem zdv {α:Type}{l:List α}{k:Nat}{x:α}(h:l[k]? = some x):atI l (k:Int)=some x:=by
 unfold atI
 rw[z6O (by omega) (by have:=zbo h; omega)]
 show l[((k:Nat):Int).toNat]? = some x
 simpa using h
theorem z99 {ws:List (List P × P)}{ini:List (List Rs)}{la:List Rs}{x:List P × P}{Q:DK}{X:XP}(hw:∀ x∈ws,Wt x)(hz:ws.length<=13)(hx:ws[ini.length]? = some x)(hb:∀ rs∈ini,Bits rs)(hl:Bits la)(q:Q (.bl (!la.isEmpty && (z3j (x.1.length:Int) (-1) la && (leR la && crsR (ws.take ini.length) ini))))):z0N.run [.tup (ws.map wtD),.tup ((ini++[la]).map rcD)] Q X:=by
 have lt:=zbo hx
 have wx:=hw x (List.mem_of_getElem? hx)
 have el:atI (ini++[la]) (ini.length:Int)=some la:=zdv (by simp)
 walk_at "fn"
 walk_at "go"
 rw[List.length_map,List.length_append,List.length_singleton]
 refine t_no (by omega) ?_
 walk_at "go"
 rw[List.length_map,List.length_map,List.length_append,List.length_singleton]
 refine t_no (by omega) ?_
 walk_at "go"
 rw[List.length_map,List.length_append,List.length_singleton,show ((ini.length+1:Nat):Int) - 1=(ini.length:Int) by omega]
 walk_at "go"
 refine z2r (z1Q el) ?_
 walk_at "go"
 show pLen.run [.tup (la.map rsD)] _ _
 walk_at "go"
 rw[List.length_map]
 cases la with
 | nil=>
  refine zbD rfl ?_
  walk_at "go"
  exact q
 | cons r0 la0=>
 generalize hla:r0::la0=la at*
 have lae:la.isEmpty=false:=by rw[<- hla]; rfl
 have lal:la.length≠0:=by rw[<- hla]; simp
 rw[lae] at q
 refine t_no (by omega) ?_
 walk_at "go"
 refine z2r (z1Q (zdv hx)) ?_
 walk_at "go"
 refine za7 (l:=x.1) ?_
 cases eg:z3j (x.1.length:Int) (-1) la with
 | false=>
  rw[eg] at q
  walk_at "go"
  refine z2A (z4I ?_)
  walk_at "go"
  exact q
 | true=>
 rw[eg] at q
 walk_at "go"
 refine z2A (z3F ?_)
 walk_at "go"
 refine zcm (n:=x.1.length) (by have:=wx.len; omega) eg hl ?_
 cases ele:leR la with
 | false=>
  rw[ele] at q
  refine z2A (z4I ?_)
  walk_at "go"
  exact q
 | true=>
 rw[ele] at q
 refine z2A (z3F ?_)
 walk_at "go"
 rw[zdk wtD (by omega)]
 walk_at "go"
 rw[zdk rcD (by simp),List.take_left']
 ·exact s_is_course (fun y hy=>hw y (List.mem_of_mem_take hy)) (by rw[List.length_take]; omega) (by omega) hb q
 ·rfl
theorem zaM {ws:List (List P × P)}{rc:List (List Rs)}{Q:DK}{X:XP}(hz:ws.length < rc.length)(hr:rc.length<=100)(q:Q (.bl false)):z0N.run [.tup (ws.map wtD),.tup (rc.map rcD)] Q X:=by
 walk_at "fn"
 walk_at "go"
 rw[List.length_map]
 refine t_no (by omega) ?_
 walk_at "go"
 rw[List.length_map,List.length_map]
 refine zbD (by omega) ?_
 walk_at "go"
 exact q
theorem z6C {ini:List (List Sh)}{la:List Sh}:toC (ini++[la])=toC ini++[la.map toR]:=by
 unfold toC
 simp
theorem z4h {co:List (List Sh)}:(toC co).length=co.length:=by unfold toC; rw[List.length_map]
theorem z9m {n:Nat}{sh:List Sh}(h:WPt n sh):Bits (sh.map toR):=fun r hr=>by
 obtain⟨s,hs,rfl⟩:=List.mem_map.mp hr
 exact⟨(h.sml s hs).1.le,(h.sml s hs).2.le⟩
theorem zgu {n:Nat}{sh:List Sh}(h:WPt n sh):leR (sh.map toR)=true:=by
 unfold leR
 rw[z7y]
 exact decide_eq_true (zcH h).2
theorem zdx {n:Nat}{sh:List Sh}(h:WPt n sh):z3j (n:Int) (-1) (sh.map toR)=true:=zaV h.shs fun s _=>by omega
theorem zaL {ws:List (List P × P)}{co:List (List Sh)}{Q:DK}{X:XP}(hw:∀ x∈ws,Wt x)(hz:ws.length<=13)(hc:SC ws co)(q:Q (.bl true)):z0N.run [.tup (ws.map wtD),.tup (co.map shsD)] Q X:=by
 rcases hc with rfl | ⟨ini,la,x,rfl,hx,hc,hp⟩
 ·walk_at "fn"
  walk_at "go"
  refine zbD rfl ?_
  walk_at "go"
  exact q
 ·rw[z7X,z6C]
  refine z99 hw hz (by rw[z4h]; exact hx) (zbv hc) (z9m hp) ?_
  have e1:(la.map toR).isEmpty=false:=by
   cases la with
   | nil=>exact(hp.ne rfl).elim
   | cons a l=>rfl
  rw[e1,zdx hp,zgu hp,z4h,show crsR (ws.take ini.length) (toC ini)=true from ziC hc]
  exact q
theorem s_short_end {ws:List (List P × P)}{co:List (List Sh)}{Q:DK}{X:XP}(hw:∀ x∈ws,Wt x)(hz:ws.length<=13)(hs:SC ws co)(q:∀ u v t,Pl (Fq (ws.zip co)).1 (Fq (ws.zip co)).2.1 (Fq (ws.zip co)).2.2 u v t->Q (.tup [.int u,.int v,.int t])):z1x.run [.tup (ws.map wtD),.tup (co.map shsD)] Q X:=by
 have hc:=hs.sc0
 walk_at "fe"
 walk_at "go"
 refine zaL hw hz hs ?_
 walk_at "go"
 refine z2A (z3F ?_)
 walk_at "go"
 refine zhT ?_
 walk_at "go"
 refine z1M (f:=fun p:(List P × P) × List Sh=>D.tup [wtD p.1,shsD p.2]) (fun dn ρ=>∃ (u v t:Int) (x3 x4 x5 x6:B),Pl (Fq dn).1 (Fq dn).2.1 (Fq dn).2.2 u v t/\ρ=[.s (.tup (ws.map wtD)),.s (.tup (co.map shsD)),.s (.tup [.int u,.int v,.int t]),x3,x4,x5,x6]) ⟨0,0,1,_,_,_,_,⟨by decide,by decide,rfl,rfl⟩,rfl⟩ ?_ ?_
 ·rintro dn p r ρ e ⟨u,v,t,x3,x4,x5,x6,hp,rfl⟩
  have hm:p∈ws.zip co:=by rw[e]; simp
  obtain⟨m1,m2⟩:=List.of_mem_zip hm
  have hx:=hw p.1 m1
  have hs:=hc.2 p hm
  have fb:FC 4161 (Fq dn):=(zgj fun p hp=>by
   have:p∈ws.zip co:=by rw[e]; simp[hp]
   exact⟨hw _ (List.of_mem_zip this).1,hc.2 _ this⟩).le (by
   have:=congrArg List.length e
   rw[List.length_zip,List.length_append,List.length_cons] at this
   have:=hc.1
   omega)
  obtain⟨p0,q0,q1,q2,q3⟩:=z80 hx hs (dn:=p.2) (r:=[]) (by simp)
  obtain⟨bt1,bu,bv⟩:=hp.bt fb.pos fb.b fb.x fb.y
  rw[Fq.snoc]
  obtain⟨⟨wd,st⟩,sh⟩:=p
  obtain⟨sx,sy⟩:=st
  dsimp only at hx hs p0 q0 q1 q2 q3 ⊢
  have v1:=hx.vb
  have v11:Bt 40 sx:=v1.1
  have v12:Bt 40 sy:=v1.2
  have wl:wd.length<=12:=hx.len
  refine⟨rfl,?_⟩
  show Sm.run _ _ _ _ _
  unfold z0E z0E z0E
  walk_at "en"
  walk_at "go"
  refine s_shares_sum (n:=wd.length) (by omega) hs.shs fun pp qq hpq => ?_
  obtain⟨bp,bq⟩:=z7o hs hpq
  refine s_place_times hpq.pos bq.le v11.le v12.le bp.le fun a1 c1 w1 hk1 => ?_
  refine z3b (Safe.of_noL rfl rfl _) ?_
  walk_at "en"
  walk_at "go"
  obtain⟨bw1,ba1,bc1⟩:=hk1.bt hpq.pos bq (Bt.mul v11 bp) (Bt.mul v12 bp)
  refine s_shares_end (l:=wd) hx.ne (by omega) (fun p hp=>⟨(hx.wb p hp).1.le,(hx.wb p hp).2.le⟩) hs.shs fun a c w hk => ?_
  obtain⟨bw,ba,bc⟩:=hk.bt p0 q0 q1 q2
  walk_at "go"
  refine s_place_added hk.pos hk1.pos hk.cop hk1.cop ba.le bc.le bw.le ba1.le bc1.le bw1.le fun a' c' w' hk' => ?_
  have pk0:=hk.add p0 hpq.pos hk1 hk'
  obtain⟨bw',ba',bc'⟩:=pk0.bt (n:=300) (m:=600) (Int.mul_pos p0 hpq.pos) (Bt.le (Bt.mul q0 bq)) (Bt.le (Bt.add (Bt.mul q1 bq) (Bt.mul (Bt.mul v11 bp) q0))) (Bt.le (Bt.add (Bt.mul q2 bq) (Bt.mul (Bt.mul v12 bp) q0)))
  have cx:=hpq.cx
  have pk:Pl (Xq (wx wd) sh.reverse*Bq sh.reverse+sx*Xq (fun _=>1) sh.reverse*Bq sh.reverse) (Xq (wy wd) sh.reverse*Bq sh.reverse+sy*Xq (fun _=>1) sh.reverse*Bq sh.reverse) (Bq sh.reverse*Bq sh.reverse) a' c' w':=by
   refine pk0.eqv (Int.mul_pos p0 hpq.pos) ?_ ?_
   ·generalize Xq (fun _=>(1:Int)) sh.reverse=T at*
    generalize Bq sh.reverse=B at*
    generalize Xq (wx wd) sh.reverse=Z at*
    calc (Z*qq+sx*pp*B)*(B*B)=Z*qq*B*B+sx*B*B*(pp*B):=by grind
     _=_:=by rw[cx]; grind
   ·generalize Xq (fun _=>(1:Int)) sh.reverse=T at*
    generalize Bq sh.reverse=B at*
    generalize Xq (wy wd) sh.reverse=Z at*
    calc (Z*qq+sy*pp*B)*(B*B)=Z*qq*B*B+sy*B*B*(pp*B):=by grind
     _=_:=by rw[cx]; grind
  refine s_place_added hp.pos pk.pos hp.cop pk.cop bu.le bv.le bt1.le ba'.le bc'.le bw'.le fun u' v' t' h' => ?_
  refine z3b (Safe.of_noL rfl rfl _) ?_
  walk_at "en"
  refine⟨u',v',t',_,_,_,_,?_,rfl⟩
  have:=hp.add fb.pos (Int.mul_pos p0 p0) pk h'
  refine this.eqv (Int.mul_pos fb.pos (Int.mul_pos p0 p0)) ?_ ?_
  ·simp only[wtq]
   grind
  ·simp only[wtq]
   grind
 rintro ρ ⟨u,v,t,x3,x4,x5,x6,hp,rfl⟩
 walk_at "go"
 exact q u v t hp
end Pu
namespace Pu
open PySem L2 Mth
noncomputable def Bad (n:Nat)(rs:List Rs):Prop:=rs=[]\/z3j (n:Int) (-1) rs=false\/leR rs=false
theorem z8G {n:Nat}{rs:List Rs}{r:Rs}(hr:r∈rs)(h:¬ ((-1:Int) < r.1/\r.1 < n/\0 < r.2.1/\0 < r.2.2/\Int.gcd r.2.1 r.2.2=1)):Bad n rs:=by
 refine .inr (.inl ?_)
 cases e:z3j (n:Int) (-1) rs with
 | false=>rfl
 | true=>exact(h (zbn e r hr)).elim
theorem ziH {n:Nat}{rs:List Rs}(h:Bad n rs):okR n rs=false:=by
 unfold okR
 rcases h with rfl | h | h
 ·simp[z3j,oneR,Xq,Bq]
 ·rw[h]; rfl
 ·have:oneR rs=false:=by
   unfold leR at h
   unfold oneR
   have:=of_decide_eq_false h
   exact decide_eq_false (by omega)
  rw[this,Bool.and_false]
theorem zcj {n:Nat}{sh:List Sh}{way:Int}{Q:DK}{X:XP}(hn:n<=62)(h:WPt n sh)(w0:2<=way)(w1:way < 12)(q:∀ rs,Bits rs->Bad n rs->Q (rcD rs)):z0I.run [shsD sh,.int way,.int (n:Int)] Q X:=by
 have sl:=z5A h.shs.up fun s hs=>(h.shs.each s hs).2
 obtain⟨s,r,esh⟩:∃ s r,sh=s::r:=by
  cases sh with
  | nil=>exact(h.ne rfl).elim
  | cons s r=>exact⟨s,r,rfl⟩
 obtain⟨hg,hs⟩:=h.shs.each s (by rw[esh]; simp)
 obtain⟨b1,b2⟩:=h.sml s (by rw[esh]; simp)
 have hbr:∀ x∈r,Bt 67 x.2.1/\Bt 67 x.2.2:=fun x hx=>⟨(h.sml x (by rw[esh]; simp[hx])).1.le,(h.sml x (by rw[esh]; simp[hx])).2.le⟩
 obtain⟨k,a,b⟩:=s
 dsimp only at hs b1 b2
 obtain⟨g1,g2,g3,_,_⟩:=hg
 dsimp only at g1 g2 g3
 have hl:=congrArg List.length esh
 rw[List.length_cons] at hl
 have rest:∀ (hd:List Rs),(∀ x∈hd,Bt 67 x.2.1/\Bt 67 x.2.2)->Bits (hd++r.map toR):=fun hd hh x hx=>by
  rcases List.mem_append.mp hx with z | z
  ·exact hh x z
  ·obtain⟨y,hy,rfl⟩:=List.mem_map.mp z
   exact hbr y hy
 have fin:∀ (hd:List Rs),hd.length<=2->(∀ x∈hd,Bt 67 x.2.1/\Bt 67 x.2.2)->Bad n (hd++r.map toR)->∀ X:XP,pAdd.run [.tup (hd.map rsD),.tup (r.map shD)] Q X:=fun hd hl hh hk X=>by
  refine z7G (by rw[List.length_map,List.length_map]; exact szl (by omega)) ?_
  rw[z6q, <- List.map_append]
  exact q _ (rest hd hh) hk
 have cr:cutD (sh.map shD) (some 1) none=r.map shD:=by
  rw[z5i,z9a (by decide),esh]
  show List.map shD (List.take (r.length+1 - min 1 (r.length+1)) (List.drop (min 1 (r.length+1)) ((k,a,b)::r)))=_
  rw[Nat.min_eq_left (by omega)]
  simp
 walk_at "fn"
 walk_at "go"
 have e0:atI (sh.map shD) 0=some (shD (k,a,b)):=z1Q (f:=shD) (by unfold atI; rw[z6O (by decide) (by omega),esh]; rfl)
 refine z2r e0 ?_
 walk_at "go"
 refine z2r e0 ?_
 walk_at "go"
 rw[cr]
 have k0:Bt 67 0:=z0F (by decide)
 have k1:Bt 67 1:=z0F (by decide)
 have d2:Bt 12 2:=z0F (by decide)
 have m1:Bt 67 (2*a):=Bt.le (Bt.mul d2 b1)
 have m2:Bt 67 (2*b):=Bt.le (Bt.mul d2 b2)
 refine z2q (fun hw => ?_) (fun hw => ?_)
 ·walk_at "go"
  exact q [] (fun _ z=>by cases z) (.inl rfl)
 walk_at "go"
 refine z2q (fun hw => ?_) (fun hw => ?_)
 ·obtain⟨ini,la,el⟩:∃ ini la,sh=ini++[la]:=⟨_,_,(List.dropLast_concat_getLast h.ne).symm⟩
  have ll:=congrArg List.length el
  rw[List.length_append,List.length_singleton] at ll
  have hml:∀ x∈ini++[la],Bt 67 x.2.1/\Bt 67 x.2.2:=fun x hx=>by
   rw[<- el,esh] at hx
   rcases List.mem_cons.mp hx with rfl | hx
   ·exact⟨b1.le,b2.le⟩
   ·exact hbr x hx
  have cl:cutD (sh.map shD) none (some (-1))=ini.map shD:=by
   rw[z5i,zbt,el]
   simp
  have el1:atI (sh.map shD) (-1)=some (shD la):=z1Q (f:=shD) (by
   rw[el]
   unfold atI
   rw[show ixN (ini++[la]).length (-1)=some ini.length by
    unfold ixN
    rw[if_neg (by decide),List.length_append,List.length_singleton]
    have:(0:Int) <= -1+((ini.length+1:Nat):Int):=by omega
    first | (rw[if_pos this]; congr 1; omega) | (rw[if_pos (by omega)]; congr 1; omega)]
   show (ini++[la])[ini.length]? = some la
   simp)
  walk_at "go"
  rw[cl]
  walk_at "go"
  refine z2r el1 ?_
  walk_at "go"
  refine z7G (by simp; exact szl (by omega)) ?_
  rw[z6q,show ((ini.map toR).map rsD++[D.tup [.int (n:Int),.tup [.int la.2.1,.int la.2.2]]])=(ini.map toR++[((n:Int),la.2)]).map rsD by simp]
  refine q _ (fun x hx => ?_) (z8G (r:=((n:Int),la.2)) (by simp) fun z=>by have:=z.2.1; dsimp only at this; omega)
  rcases List.mem_append.mp hx with z | z
  ·obtain⟨y,hy,rfl⟩:=List.mem_map.mp z
   exact hml y (by simp[hy])
  ·rw[List.mem_singleton.mp z]
   exact hml la (by simp)
 walk_at "go"
 refine z2q (fun hw => ?_) (fun hw => ?_)
 ·walk_at "go"
  exact fin [(-1,a,b)] (by simp) (fun x hx=>by rw[List.mem_singleton.mp hx]; exact⟨b1.le,b2.le⟩) (z8G (r:=(-1,a,b)) (by simp) fun z=>by have:=z.1; dsimp only at this; omega) _
 walk_at "go"
 refine z2q (fun hw => ?_) (fun hw => ?_)
 ·walk_at "go"
  refine fin [((k:Int),a,2*b),((k:Int),a,2*b)] (by simp) (fun x hx => ?_) ?_ _
  ·simp only[List.mem_cons,List.not_mem_nil,or_false,or_self] at hx
   rw[hx]
   exact⟨b1.le,m2⟩
  ·refine .inr (.inl ?_)
   have:z3j (n:Int) (-1) ([((k:Int),a,2*b),((k:Int),a,2*b)]++r.map toR)=false:=by
    rw[Bool.eq_false_iff]
    intro z
    simp only[List.cons_append,z3j,Bool.and_eq_true,decide_eq_true_eq] at z
    have:=z.2.2.2.2.2.1
    omega
   exact this
 walk_at "go"
 refine z2q (fun hw => ?_) (fun hw => ?_)
 ·walk_at "go"
  refine zed ?_
  walk_at "go"
  refine z7G (by simp; exact szl (by omega)) ?_
  rw[<- List.map_reverse,z6q,show ((sh.reverse.map toR).map rsD++[D.tup [.int 0,.tup [.int 0,.int 1]]])=(sh.reverse.map toR++[((0:Int),(0:Int),(1:Int))]).map rsD by simp]
  refine q _ (fun x hx => ?_) (z8G (r:=(0,0,1)) (by simp) fun z=>by have:=z.2.2.1; dsimp only at this; omega)
  rcases List.mem_append.mp hx with z | z
  ·obtain⟨y,hy,rfl⟩:=List.mem_map.mp z
   have hy:=List.mem_reverse.mp hy
   rw[esh] at hy
   rcases List.mem_cons.mp hy with rfl | hy
   ·exact⟨b1.le,b2.le⟩
   ·exact hbr y hy
  ·rw[List.mem_singleton.mp z]
   exact⟨k0,k1⟩
 walk_at "go"
 refine z2q (fun hw => ?_) (fun hw => ?_)
 ·walk_at "go"
  exact fin [((k:Int),0,1)] (by simp) (fun x hx=>by rw[List.mem_singleton.mp hx]; exact⟨k0,k1⟩) (z8G (r:=((k:Int),0,1)) (by simp) fun z=>by have:=z.2.2.1; dsimp only at this; omega) _
 walk_at "go"
 refine z2q (fun hw => ?_) (fun hw => ?_)
 ·walk_at "go"
  refine fin [((k:Int),2*a,2*b)] (by simp) (fun x hx=>by rw[List.mem_singleton.mp hx]; exact⟨m1,m2⟩) (z8G (r:=((k:Int),2*a,2*b)) (by simp) fun z => ?_) _
  have:=z.2.2.2.2
  dsimp only at this
  rw[Int.gcd_mul_left,g3] at this
  exact absurd this (by decide)
 walk_at "go"
 refine z2q (fun hw => ?_) (fun hw => ?_)
 ·walk_at "go"
  exact fin [((k:Int),a,0)] (by simp) (fun x hx=>by rw[List.mem_singleton.mp hx]; exact⟨b1.le,k0⟩) (z8G (r:=((k:Int),a,0)) (by simp) fun z=>by have:=z.2.2.2.1; dsimp only at this; omega) _
 walk_at "go"
 refine z2q (fun hw => ?_) (fun hw => ?_)
 ·walk_at "go"
  exact fin [((k:Int),-a,b)] (by simp) (fun x hx=>by rw[List.mem_singleton.mp hx]; exact⟨Bt.le (Bt.neg b1),b2.le⟩) (z8G (r:=((k:Int),-a,b)) (by simp) fun z=>by have:=z.2.2.1; dsimp only at this; omega) _
 walk_at "go"
 refine fin [((k:Int),a+b,b)] (by simp) (fun x hx=>by rw[List.mem_singleton.mp hx]; exact⟨Bt.le (Bt.add b1 b2),b2.le⟩) ?_ _
 refine .inr (.inr ?_)
 unfold leR
 rw[List.map_append,z7y,List.reverse_append]
 show decide (Xq (fun _=>(1:Int)) (r.reverse++[(((k:Nat):Int).toNat,a+b,b)])<=Bq (r.reverse++[(((k:Nat):Int).toNat,a+b,b)]))=false
 obtain⟨e1,e2⟩:=zc3 (s:=(k,a,b)) (s':=(((k:Nat):Int).toNat,a+b,b)) rfl rfl r.reverse
 rw[e1,e2]
 have o:=(zcH h).1
 rw[esh,List.reverse_cons] at o
 exact decide_eq_false (by omega)
noncomputable def NotS (ws:List (List P × P))(rc:List (List Rs)):Prop:=rc.length<=100/\(∀ rs∈rc,Bits rs)/\(ws.length < rc.length\/∃ ini la x,rc=ini++[la]/\ws[ini.length]? = some x/\(Bad x.1.length la\/crsR (ws.take ini.length) ini=false))
theorem zbG {ws:List (List P × P)}{rc:List (List Rs)}{Q:DK}{X:XP}(hw:∀ x∈ws,Wt x)(hz:ws.length<=13)(h:NotS ws rc)(q:Q (.bl false)):z0N.run [.tup (ws.map wtD),.tup (rc.map rcD)] Q X:=by
 obtain⟨h1,h2,h3 | ⟨ini,la,x,rfl,hx,hb⟩⟩:=h
 ·exact zaM h3 h1 q
 ·refine z99 hw hz hx (fun rs hr=>h2 rs (by simp[hr])) (h2 la (by simp)) ?_
  have:(!la.isEmpty && (z3j (x.1.length:Int) (-1) la && (leR la && crsR (ws.take ini.length) ini)))=false:=by
   rcases hb with (rfl | h | h) | h
   ·rfl
   ·rw[h]; simp
   ·rw[h]; simp
   ·rw[h]; simp
  rw[this]
  exact q
theorem zbF {ws:List (List P × P)}{rc:List (List Rs)}{Q:DK}{X:XP}(hw:∀ x∈ws,Wt x)(hz:ws.length<=13)(h:NotS ws rc)(q:Q (.bl true)):z1m.run [.tup (ws.map wtD),.tup (rc.map rcD)] Q X:=by
 walk_at "fn"
 walk_at "go"
 refine zgQ ?_
 walk_at "go"
 walk_at "fe"
 walk_at "go"
 refine zbG hw hz h ?_
 walk_at "go"
 refine z2A (z4I ?_)
 walk_at "go"
 refine⟨by decide,?_⟩
 walk_at "en"
 walk_at "go"
 walk_at "en"
 walk_at "go"
 refine z9r rfl ?_
 walk_at "go"
 refine zg9 (by decide) ?_
 walk_at "go"
 refine z2A (za1 (by decide +kernel) ?_)
 walk_at "go"
 refine zg9 (by decide) ?_
 walk_at "go"
 refine z2A (za1 rfl ?_)
 walk_at "go"
 refine zg9 (by decide) ?_
 walk_at "go"
 rw[show ((Str.ofString "NoCourse":Str) == "NoShares")=false by decide +kernel]
 exact q
theorem zdl {ws:List (List P × P)}{rc:List (List Rs)}{x:List P × P}{rs:List Rs}{j:Nat}(h1:ws[j]? = some x)(h2:rc[j]? = some rs)(h3:okR x.1.length rs=false):crsR ws rc=false:=by
 unfold crsR
 have hm2:(x,rs)∈ws.zip rc:=List.mem_of_getElem? (i:=j) (by rw[List.getElem?_zip_eq_some]; exact⟨h1,h2⟩)
 have:((ws.zip rc).all fun p=>okR p.1.1.length p.2)=false:=List.all_eq_false.mpr ⟨_,hm2,by show ¬ okR x.1.length rs=true; rw[h3]; decide⟩
 rw[this,Bool.and_false]
theorem zfp {ws:List (List P × P)}{co:List (List Sh)}(h:SC ws co):∀ rs∈toC co,Bits rs:=by
 rcases h with rfl | ⟨ini,la,x,rfl,hx,hc,hp⟩
 ·intro rs hr; cases hr
 ·intro rs hr
  rw[z6C] at hr
  rcases List.mem_append.mp hr with z | z
  ·exact zbv hc rs z
  ·rw[List.mem_singleton.mp z]
   exact z9m hp
theorem zeq {n:Nat}{sh:List Sh}(h:WOk n sh):okR n ((sh.map (scl 1 2)).map toR)=false:=by
 have B0:0 < Bq (sh.map (scl 1 2)).reverse:=Bq.pos fun x hx=>((zch (p:=1) (q:=2) h (by decide) (by decide) (by decide)).shs.each x (by simpa using hx)).1
 have e:=zcg (p:=1) (q:=2) h (by decide)
 unfold okR
 have:oneR ((sh.map (scl 1 2)).map toR)=false:=by
  unfold oneR
  rw[z7y]
  exact decide_eq_false (by omega)
 rw[this,Bool.and_false]
theorem zj0 {ws:List (List P × P)}{co:List (List Sh)}{c:Int}{Q:DK}{X:XP}(hw:∀ x∈ws,Wt x)(hz:ws.length<=13)(h0:ws≠[])(hc:SC ws co)(q:∀ rc,NotS ws rc->Q (.tup (rc.map rcD))):z28.run [.tup (ws.map wtD),.tup (co.map shsD),.int c] Q X:=by
 have hp:=List.length_pos_iff.mpr h0
 have s0:=hc.sc0
 have hl:=s0.1
 have hcb:=zfp hc
 have fin0:∀ X:XP,pAdd.run [.tup (co.map shsD),.tup [.tup []]] Q X:=fun X=>by
  refine z7G (by simp; exact szl (by omega)) ?_
  rw[z7X,show (toC co).map rcD++[D.tup []]=(toC co++[[]]).map rcD by simp[rcD]]
  refine q _ ⟨by rw[List.length_append,z4h,List.length_singleton]; omega,fun rs hr => ?_,?_⟩
  ·rcases List.mem_append.mp hr with z | z
   ·exact hcb rs z
   ·rw[List.mem_singleton.mp z]; intro r hr; cases hr
  ·rcases Nat.lt_or_ge co.length ws.length with z | z
   ·exact .inr ⟨toC co,[],ws[co.length],rfl,by rw[z4h]; exact List.getElem?_eq_getElem z,.inl (.inl rfl)⟩
   ·exact .inl (by rw[List.length_append,z4h,List.length_singleton]; omega)
 walk_at "fn"
 walk_at "go"
 refine z1O (by decide) (by decide) (by decide) fun way w0 w1 => ?_
 walk_at "go"
 refine z2q (fun hw0 => ?_) (fun hw0 => ?_)
 ·walk_at "go"
  exact fin0 _
 walk_at "go"
 refine zid zfd (Da.tup.mpr fun d hd=>by cases hd) ?_
 rcases hc with rfl | ⟨ini,la,x,rfl,hx,hci,hpt⟩
 ·refine za1 rfl ?_
  walk_at "go"
  exact fin0 _
 have ne:deq (.tup ((ini++[la]).map shsD)) (.tup [])=false:=by
  cases ini <;> rfl
 have lt:=zbo hx
 have cl:(ini++[la]).length=ini.length+1:=by rw[List.length_append,List.length_singleton]
 refine z9r ne ?_
 walk_at "go"
 refine z2q (fun hw1 => ?_) (fun hw1 => ?_)
 ·walk_at "go"
  refine zb9 hw (by omega) fun wh hwh => ?_
  have whl:=hwh.1
  have nc:noL (.tup (wh.map shsD))=true/\noD (.tup (wh.map shsD))=true:=⟨z4Q fun d hd=>by(obtain⟨x,_,rfl⟩:=List.mem_map.mp hd; exact zcQ x),z4R fun d hd=>by(obtain⟨x,_,rfl⟩:=List.mem_map.mp hd; exact zcS x)⟩
  refine z3b (Safe.of_noL nc.1 nc.2 _) ?_
  walk_at "en"
  obtain⟨sh,es⟩:∃ sh,wh[0]? = some sh:=⟨_,List.getElem?_eq_getElem (by omega)⟩
  obtain⟨y,ey⟩:∃ y,ws[0]? = some y:=⟨_,List.getElem?_eq_getElem (by omega)⟩
  have hm:(y,sh)∈ws.zip wh:=List.mem_of_getElem? (i:=0) (by rw[List.getElem?_zip_eq_some]; exact⟨ey,es⟩)
  have ok:=hwh.2 _ hm
  have hyl:=(hw y (List.of_mem_zip hm).1).len
  have sl:=z5A ok.shs.up fun s hs=>(ok.shs.each s hs).2
  dsimp only at ok sl
  walk_at "go"
  refine z2r (z1Q (zdv (k:=0) es)) ?_
  walk_at "go"
  refine⟨by rw[List.length_map]; exact szl' (by omega),?_⟩
  refine z3g (g:=fun s=>shD (scl 1 2 s)) (fun s hs K hK => ?_) ?_
  ·have hsg:=(ok.shs.each s hs).1
   obtain⟨k1,k2⟩:=ok.sml s hs
   refine⟨rfl,?_⟩
   show Ex.run _ _ _ _
   unfold z0E z0E z0E
   walk_at "en"
   walk_at "go"
   rw[show s.2.1=s.2.1*1 by omega,show 2*s.2.2=s.2.2*2 by omega]
   refine z9u (by have:=hsg.bot; omega) (Bt.le (Bt.mul k2 (z0F (n:=4) (by decide)))) ?_
   walk_at "go"
   exact hK
  walk_at "go"
  rw[show (sh.map fun s=>shD (scl 1 2 s))=(sh.map (scl 1 2)).map shD by rw[List.map_map]; rfl]
  refine z7G (by simp; exact szl (by omega)) ?_
  have hf:=zch (p:=1) (q:=2) ok (by decide) (by decide) (by decide)
  rw[z7X,z6q,z6C,show [D.tup (((sh.map (scl 1 2)).map toR).map rsD)]++(toC ini++[la.map toR]).map rcD=((sh.map (scl 1 2)).map toR::(toC ini++[la.map toR])).map rcD by simp[rcD]]
  refine q _ ⟨by rw[List.length_cons,List.length_append,z4h,List.length_singleton]; omega,fun rs hr => ?_,?_⟩
  ·rcases List.mem_cons.mp hr with z | z
   ·rw[z]; exact z9m hf
   ·exact hcb rs (by rw[z6C]; exact z)
  ·rcases Nat.lt_or_ge (ini.length+1) ws.length with z | z
   ·refine .inr ⟨(sh.map (scl 1 2)).map toR::toC ini,la.map toR,ws[ini.length+1],rfl,by rw[List.length_cons,z4h]; exact List.getElem?_eq_getElem z,.inr ?_⟩
    refine zdl (j:=0) (x:=y) (rs:=(sh.map (scl 1 2)).map toR) ?_ rfl (zeq ok)
    rw[List.length_cons,List.getElem?_take_of_lt (by omega)]
    exact ey
   ·exact .inl (by rw[List.length_cons,List.length_append,z4h,List.length_singleton]; omega)
 walk_at "go"
 rw[List.length_map,cl]
 refine z1O (by decide) (by decide) (by omega) fun at' a0 a1 => ?_
 obtain⟨j,rfl⟩:∃ j:Nat,at'=j:=⟨at'.toNat,by omega⟩
 walk_at "go"
 refine z1O (by decide) (by decide) (by decide) fun f f0 f1 => ?_
 walk_at "go"
 obtain⟨y,ey⟩:∃ y,ws[j]? = some y:=⟨_,List.getElem?_eq_getElem (by omega)⟩
 obtain⟨sh,es⟩:∃ sh,(ini++[la])[j]? = some sh:=⟨_,List.getElem?_eq_getElem (by omega)⟩
 have hm:(y,sh)∈ws.zip (ini++[la]):=List.mem_of_getElem? (i:=j) (by rw[List.getElem?_zip_eq_some]; exact⟨ey,es⟩)
 have ok:=s0.2 _ hm
 have hyl:=(hw y (List.of_mem_zip hm).1).len
 dsimp only at ok
 refine z2r (z1Q (zdv es)) ?_
 walk_at "go"
 refine z2r (z1Q (zdv ey)) ?_
 walk_at "go"
 rw[List.length_map]
 refine zcj (by omega) ok (by omega) (by omega) fun rs hb hk => ?_
 have nr:noL (rcD rs)=true/\noD (rcD rs)=true:=⟨z4Q fun d hd=>by(obtain⟨x,_,rfl⟩:=List.mem_map.mp hd; rfl),z4R fun d hd=>by(obtain⟨x,_,rfl⟩:=List.mem_map.mp hd; rfl)⟩
 refine z3b (Safe.of_noL nr.1 nr.2 _) ?_
 walk_at "en"
 obtain⟨c1,c2⟩:=zgm shsD (l:=ini++[la]) (n:=j) (by omega)
 walk_at "go"
 rw[c1]
 refine z7G (by simp; exact szl (by omega)) ?_
 walk_at "go"
 rw[c2]
 refine z7G (by simp; exact szl (by omega)) ?_
 rw[z7X,z7X,show (toC ((ini++[la]).take j)).map rcD++[rcD rs]++(toC ((ini++[la]).drop (j+1))).map rcD=(toC ((ini++[la]).take j)++[rs]++toC ((ini++[la]).drop (j+1))).map rcD by simp]
 have l1:(toC ((ini++[la]).take j)).length=j:=by rw[z4h,List.length_take]; omega
 have l2:(toC ((ini++[la]).drop (j+1))).length=ini.length - j:=by rw[z4h,List.length_drop]; omega
 refine q _ ⟨by rw[List.length_append,List.length_append,List.length_singleton]; omega,fun r hr => ?_,.inr ?_⟩
 ·rcases List.mem_append.mp hr with hr | hr
  ·rcases List.mem_append.mp hr with hr | hr
   ·obtain⟨s,hs',rfl⟩:=List.mem_map.mp hr
    exact hcb _ (List.mem_map_of_mem (List.mem_of_mem_take hs'))
   ·rw[List.mem_singleton.mp hr]; exact hb
  ·obtain⟨s,hs',rfl⟩:=List.mem_map.mp hr
   exact hcb _ (List.mem_map_of_mem (List.mem_of_mem_drop hs'))
 ·rcases Nat.lt_or_ge j ini.length with z | z
  ·have e3:toC ((ini++[la]).drop (j+1))=toC (ini.drop (j+1))++[la.map toR]:=by
    rw[List.drop_append_of_le_length (by omega),z6C]
   rw[e3] at l2 ⊢
   rw[List.length_append,List.length_singleton] at l2
   refine⟨toC ((ini++[la]).take j)++[rs]++toC (ini.drop (j+1)),la.map toR,x,by simp,?_,.inr ?_⟩
   ·rw[List.length_append,List.length_append,List.length_singleton,l1,show j+1+(toC (ini.drop (j+1))).length=ini.length by omega]
    exact hx
   ·refine zdl (j:=j) (x:=y) (rs:=rs) ?_ ?_ (ziH hk)
    ·rw[List.getElem?_take_of_lt (by rw[List.length_append,List.length_append,List.length_singleton]; omega)]
     exact ey
    ·rw[List.append_assoc,List.getElem?_append_right (by omega),l1,Nat.sub_self]
     rfl
  ·have ej:j=ini.length:=by omega
   have e3:toC ((ini++[la]).drop (j+1))=[]:=List.length_eq_zero_iff.mp (by omega)
   rw[e3,List.append_nil]
   refine⟨_,rs,y,rfl,by rw[l1]; exact ey,.inl hk⟩
theorem ziA {ws:List (List P × P)}:Da 60 (.tup (ws.map wtD)):=Da.tup.mpr fun d hd=>by
 obtain⟨x,_,rfl⟩:=List.mem_map.mp hd
 refine Da.tup.mpr fun d hd => ?_
 simp only[List.mem_cons,List.not_mem_nil,or_false] at hd
 rcases hd with rfl | rfl
 ·exact Da.vecs x.1 (n:=56)
 ·exact Da.vec x.2 (n:=57)
theorem zgv {ws:List (List P × P)}{co:List (List Sh)}(hw:∀ x∈ws,Wt x)(h:Sc0 ws co):∀ sh∈co,WP1 sh:=fun sh hs=>by
 obtain⟨i,hi,rfl⟩:=List.getElem_of_mem hs
 have:=h.1
 have hm:(ws[i],co[i])∈ws.zip co:=List.mem_of_getElem? (i:=i) (by rw[List.getElem?_zip_eq_some]; exact⟨List.getElem?_eq_getElem (by omega),List.getElem?_eq_getElem hi⟩)
 have hx:=hw _ (List.of_mem_zip hm).1
 have hp:=h.2 _ hm
 dsimp only at hp
 have hx12:=hx.len
 refine⟨⟨ws[i].1.length,by omega,hp⟩,fun dn r e => ?_⟩
 obtain⟨p0,q0,_,_,q3⟩:=z80 hx hp e
 exact⟨p0,q0,q3⟩
theorem zgf (ns:List Int)(h:ns.length<=63):z8E.run [.lst (ns.map .int)] (fun d=>d = .bl true) (fun _=>False):=by
 walk_at "fe"
 walk_at "go"
 refine zci h fun ws hw hz => ?_
 refine z3b (Safe.of_noL (zgb _) (zgc _) _) ?_
 walk_at "en"
 walk_at "go"
 refine zie (by simp; exact szl (by omega)) ?_
 rw[show D.int 0::([]:List D)++ns.map D.int=(0::ns).map .int by simp]
 walk_at "go"
 rw[z5i]
 generalize ((0::ns).drop (HT.sIx (0::ns).length 0 (some (-4)))).take (HT.sIx (0::ns).length (0::ns).length none - HT.sIx (0::ns).length 0 (some (-4)))=cs
 refine z1M (f :=.int) (fun dn ρ=>∃ x2 x3 x4:B,ρ=[.s (.lst (ns.map .int)),.s (.tup (ws.map wtD)),x2,x3,x4]) ⟨_,_,_,rfl⟩ ?_ ?_
 ·rintro dn c r ρ e ⟨x2,x3,x4,rfl⟩
  show Sm.run _ _ _ _ _
  walk_at "en"
  walk_at "go"
  refine zb9 hw (by omega) fun wh hwh => ?_
  walk_at "go"
  refine zfq hw (by omega) hwh fun co hc => ?_
  have nc:noL (.tup (co.map shsD))=true/\noD (.tup (co.map shsD))=true:=⟨z4Q fun d hd=>by(obtain⟨x,_,rfl⟩:=List.mem_map.mp hd; exact zcQ x),z4R fun d hd=>by(obtain⟨x,_,rfl⟩:=List.mem_map.mp hd; exact zcS x)⟩
  refine z3b (Safe.of_noL nc.1 nc.2 _) ?_
  walk_at "en"
  walk_at "go"
  have s0:=hc.sc0
  have cl:=s0.1
  have wp:=zgv hw s0
  have fb:FC 4161 (Fq (ws.zip co)):=(zgj fun p hp=>⟨hw _ (List.of_mem_zip hp).1,s0.2 _ hp⟩).le (by rw[List.length_zip]; omega)
  have mb:MB 2081 (Mq co):=(zgd wp).le (by omega)
  refine zgY hw (by omega) s0 fun u v t hp => ?_
  refine z3b (Safe.of_noL rfl rfl _) ?_
  walk_at "en"
  walk_at "go"
  refine s_short_end hw (by omega) hc fun u' v' t' hp' => ?_
  obtain⟨rfl,rfl,rfl⟩:=hp.eq fb.pos hp'
  walk_at "go"
  refine z81 (l:=[u,v,t]) (by simp) ?_
  walk_at "go"
  refine z2A (z3F ?_)
  walk_at "go"
  refine za8 (by omega) wp fun a b hab => ?_
  walk_at "go"
  refine zck (by omega) wp fun a' b' hab' => ?_
  obtain⟨rfl,_,rfl⟩:=hab.eq mb.pos hab'
  walk_at "go"
  refine z81 (l:=[a,b]) (by simp) ?_
  walk_at "go"
  refine z2A (z3F ?_)
  walk_at "go"
  refine zhX ziA (Da.tup.mpr fun d hd=>by cases hd) ?_
  have fin:Sm.run (.ifs (.not (.op z0S [(.op z1x [(.v 1),(.v 3)]),(.v 4)])) (.ret (.c (.bl false))) .skip) [.s (.lst (ns.map .int)),.s (.tup (ws.map wtD)),.s (.int c),.s (.tup (co.map shsD)),.s (.tup [.int u,.int v,.int t])] (fun ρ'=>∃ x2 x3 x4:B,ρ'=[.s (.lst (ns.map .int)),.s (.tup (ws.map wtD)),x2,x3,x4]) (fun d=>d = .bl true) (fun _=>False):=by
   walk_at "go"
   refine s_short_end hw (by omega) hc fun u' v' t' hp' => ?_
   obtain⟨rfl,rfl,rfl⟩:=hp.eq fb.pos hp'
   walk_at "go"
   refine z81 (l:=[u,v,t]) (by simp) ?_
   walk_at "go"
   refine z2A (z3F ?_)
   walk_at "go"
   exact⟨_,_,_,rfl⟩
  by_cases h0:ws=[]
  ·rw[h0,show deq (.tup (([]:List (List P × P)).map wtD)) (.tup [])=true by decide +kernel]
   rw[h0] at fin
   refine z2A (z3F ?_)
   walk_at "go"
   exact fin
  ·have:deq (.tup (ws.map wtD)) (.tup [])=false:=by
    cases ws with
    | nil=>exact(h0 rfl).elim
    | cons x l=>rfl
   rw[this]
   refine z2A (z4I ?_)
   walk_at "go"
   refine zj0 hw (by omega) h0 hc fun rc hrc => ?_
   refine zbF hw (by omega) hrc ?_
   walk_at "go"
   refine z2A (z3F ?_)
   walk_at "go"
   exact fin
 rintro ρ ⟨x2,x3,x4,rfl⟩
 walk_at "go"
 refine s_short_end (co:=[]) hw (by omega) (.inl rfl) fun u v t hp => ?_
 rw[List.zip_nil_right] at hp
 obtain⟨rfl,rfl,rfl⟩:=hp.eq (by decide) (⟨by decide,by decide,rfl,rfl⟩:Pl 0 0 1 0 0 1)
 walk_at "go"
 refine z81 (l:=[0,0,1]) (by simp) ?_
 walk_at "go"
 refine za8 (co:=[]) (by simp) (fun _ z=>by cases z) fun u t hp => ?_
 obtain⟨rfl,_,rfl⟩:=hp.eq (by decide) (⟨by decide,by decide,rfl,rfl⟩:Pl 0 0 1 0 0 1)
 walk_at "go"
 refine z81 (l:=[0,1]) (by simp) ?_
 rfl
end Pu
namespace Pu
open PySem PySem.Spec PyProof.Rows L2
noncomputable def Std (K:W.Frag)(n:Str)(st:Stmt)(f:Addr):Prop:=∃ (oc:Value) (od:Option Addr) (sl:Array (Option Value)) (kV dc pm:Value) (an:Option Addr) (cd ct:Value),
 PySem.W.nsIn K mainGlobals n=some (some (.ref f))/\K.lookup f=some ⟨oc,od,.func (PySem.W.fnOf n n (z5W st) (z3k st) (z01 st) .none kV dc pm an cd ct),sl⟩/\PySem.W.codeIn K cd n=true/\PySem.W.keepIn K (.ref f)=true
theorem Std.mk {K:W.Frag}{n:Str}{st:Stmt}{f:Addr}{oc:Value}{od:Option Addr}{sl:Array (Option Value)}{kV dc pm:Value}{an:Option Addr}{cd ct:Value}(a:PySem.W.nsIn K mainGlobals n=some (some (.ref f)))(l:K.lookup f=some ⟨oc,od,.func (PySem.W.fnOf n n (z5W st) (z3k st) (z01 st) .none kV dc pm an cd ct),sl⟩)(c:PySem.W.codeIn K cd n=true)(k:PySem.W.keepIn K (.ref f)=true):Std K n st f:=⟨oc,od,sl,kV,dc,pm,an,cd,ct,a,l,c,k⟩
section
variable {P:Program}{w:World}{K:W.Frag}{mg:Str->Option Value}{h base:Heap}{CX:CXT}{k:Nat}{n:Str}{st:Stmt}{f fa:Addr}{ps:List Str}{sp:Sp}
theorem z0Z (X:K.In h)(G:h.Ns mainGlobals mg)(d:Std K n st f)
  (hb:∀ (kV dc pm:Value) (an:Option Addr) (cd ct:Value) (us:List Value),us.length=ps.length->bindArgs (PySem.W.fnOf n n (z5W st) (z3k st) (z01 st) .none kV dc pm an cd ct) ⟨us,[]⟩=pure (ps.zip us))
  (ok:∀ fd,Fun K n n st f fd->FnOk P w K mg base CX k f fd ps sp):Cal P w K mg base CX k n ps sp:=by
 obtain⟨oc,od,sl,kV,dc,pm,an,cd,ct,a,l,c,kk⟩:=d
 have F:=zfa (st:=st) l c kk
 exact⟨_,_,ok _ F,PySem.W.mg_of X G a,kk,F.binds (ps:=ps) hb⟩
theorem zgB {x:Str}(X:K.In h)(G:h.Ns mainGlobals mg)(d:Std K n st f)(hfa:mg n=some (.ref fa))
  (hb:∀ (kV dc pm:Value) (an:Option Addr) (cd ct:Value) (s:Shared) (v:Value),BindsTo s (PySem.W.fnOf n n (z5W st) (z3k st) (z01 st) .none kV dc pm an cd ct) ⟨[v],[]⟩ [(x,v)])
  (ok:∀ base:Heap,K.In base->base.Ns mainGlobals mg->∀ fd,Fun K n n st fa fd->FnOk P w K mg base CX k fa fd [x] sp):
  ∃ fd:FuncData,(∀ (s:Shared) (v:Value),BindsTo s fd ⟨[v],[]⟩ [(x,v)])/\∀ base:Heap,K.In base->base.Ns mainGlobals mg->FnOk P w K mg base CX k fa fd [x] sp:=by
 obtain⟨oc,od,sl,kV,dc,pm,an,cd,ct,a,l,c,kk⟩:=d
 cases hfa.symm.trans (PySem.W.mg_of X G a)
 exact⟨_,fun s v=>hb kV dc pm an cd ct s v,fun base kb nb=>ok base kb nb _ (zfa (st:=st) l c kk)⟩
end
end Pu
namespace My
open PySem L2 Pu
noncomputable def top (i:Nat):Stmt:=PySem.Challenge.pw_closehaul_k28_short_courses.main.body.getD i (.Pass ⟨0,0,0,0⟩)
theorem z9k:(("NoCourse":Str) == ("__debug__":Str))=false:=by decide
theorem zeD:(("NoDeed":Str) == ("__debug__":Str))=false:=by decide
theorem zax:(("NoFraction":Str) == ("__debug__":Str))=false:=by decide
theorem z9j:(("NoShares":Str) == ("__debug__":Str))=false:=by decide
theorem zeC:(("NoText":Str) == ("__debug__":Str))=false:=by decide
theorem zeB:(("NoWind":Str) == ("__debug__":Str))=false:=by decide
theorem zaZ:(("SailError":Str) == ("__debug__":Str))=false:=by decide
theorem zaw:(("ValueError":Str) == ("__debug__":Str))=false:=by decide
theorem z9i:(("_law_add":Str) == ("__debug__":Str))=false:=by decide
theorem zbX:(("_law_bad":Str) == ("__debug__":Str))=false:=by decide
theorem z96:(("_law_cell_at":Str) == ("__debug__":Str))=false:=by decide
theorem z7e:(("_law_course":Str) == ("__debug__":Str))=false:=by decide
theorem z0j:(("_law_draw":Str) == ("__debug__":Str))=false:=by decide
theorem zbW:(("_law_end":Str) == ("__debug__":Str))=false:=by decide
theorem z2R:(("_law_free_vector":Str) == ("__debug__":Str))=false:=by decide
theorem z6B:(("_law_free_watches":Str) == ("__debug__":Str))=false:=by decide
theorem z2Q:(("_law_lowest":Str) == ("__debug__":Str))=false:=by decide
theorem z9U:(("_law_moment":Str) == ("__debug__":Str))=false:=by decide
theorem zav:(("_law_parts":Str) == ("__debug__":Str))=false:=by decide
theorem z95:(("_law_refused":Str) == ("__debug__":Str))=false:=by decide
theorem z32:(("_law_same":Str) == ("__debug__":Str))=false:=by decide
theorem zau:(("_law_short":Str) == ("__debug__":Str))=false:=by decide
theorem z6c:(("_law_spoilt_shares":Str) == ("__debug__":Str))=false:=by decide
theorem z9h:(("_law_sum":Str) == ("__debug__":Str))=false:=by decide
theorem z7d:(("_law_vector":Str) == ("__debug__":Str))=false:=by decide
theorem z94:(("_law_watches":Str) == ("__debug__":Str))=false:=by decide
theorem zgl:(("abs":Str) == ("__debug__":Str))=false:=by decide
theorem zdj:(("added":Str) == ("__debug__":Str))=false:=by decide
theorem zjW:(("all":Str) == ("__debug__":Str))=false:=by decide
theorem z5X:(("are_shares":Str) == ("__debug__":Str))=false:=by decide
theorem zdi:(("bool":Str) == ("__debug__":Str))=false:=by decide
theorem z0T:(("common_divisor":Str) == ("__debug__":Str))=false:=by decide
theorem zjV:(("int":Str) == ("__debug__":Str))=false:=by decide
theorem zaY:(("is_before":Str) == ("__debug__":Str))=false:=by decide
theorem zaX:(("is_course":Str) == ("__debug__":Str))=false:=by decide
theorem zbV:(("is_share":Str) == ("__debug__":Str))=false:=by decide
theorem z7A:(("is_short_course":Str) == ("__debug__":Str))=false:=by decide
theorem z3z:(("len":Str) == ("__debug__":Str))=false:=by decide
theorem z93:(("lowest_place":Str) == ("__debug__":Str))=false:=by decide
theorem zeA:(("min":Str) == ("__debug__":Str))=false:=by decide
theorem z5h:(("place_added":Str) == ("__debug__":Str))=false:=by decide
theorem z7c:(("place_times":Str) == ("__debug__":Str))=false:=by decide
theorem zat:(("shares_end":Str) == ("__debug__":Str))=false:=by decide
theorem z4g:(("shares_sum":Str) == ("__debug__":Str))=false:=by decide
theorem z5g:(("short_end":Str) == ("__debug__":Str))=false:=by decide
theorem z6p:(("short_moment":Str) == ("__debug__":Str))=false:=by decide
theorem ziB:(("str":Str) == ("__debug__":Str))=false:=by decide
theorem zjU:(("sum":Str) == ("__debug__":Str))=false:=by decide
theorem z43:(("tuple":Str) == ("__debug__":Str))=false:=by decide
theorem zaF:bootBuiltins "ValueError"=some (.type "ValueError"):=by rfl
theorem zal:("ValueError":Str)≠"__name__":=by decide
theorem zgp:bootBuiltins "abs"=some (.builtin "abs"):=by rfl
theorem zge:("abs":Str)≠"__name__":=by decide
theorem zk3:bootBuiltins "all"=some (.builtin "all"):=by rfl
theorem zjM:("all":Str)≠"__name__":=by decide
theorem zdu:bootBuiltins "bool"=some (.type "bool"):=by rfl
theorem zcX:("bool":Str)≠"__name__":=by decide
theorem zk2:bootBuiltins "int"=some (.type "int"):=by rfl
theorem zjL:("int":Str)≠"__name__":=by decide
theorem z3B:bootBuiltins "len"=some (.builtin "len"):=by rfl
theorem z3q:("len":Str)≠"__name__":=by decide
theorem zeL:bootBuiltins "min"=some (.builtin "min"):=by rfl
theorem zej:("min":Str)≠"__name__":=by decide
theorem ziI:bootBuiltins "str"=some (.type "str"):=by rfl
theorem zig:("str":Str)≠"__name__":=by decide
theorem zk1:bootBuiltins "sum"=some (.builtin "sum"):=by rfl
theorem zjK:("sum":Str)≠"__name__":=by decide
theorem z44:bootBuiltins "tuple"=some (.type "tuple"):=by rfl
theorem z3H:("tuple":Str)≠"__name__":=by decide
structure Txt (K:W.Frag)(mg:Str->Option Value)(cSailError cNoFraction cNoText cNoShares cNoCourse cNoWind cNoDeed:Addr):Prop where
 triv:True
 n_ValueError:mg "ValueError"=none
 n_abs:mg "abs"=none
 n_all:mg "all"=none
 n_bool:mg "bool"=none
 n_int:mg "int"=none
 n_isinstance:mg "isinstance"=none
 n_len:mg "len"=none
 n_min:mg "min"=none
 n_range:mg "range"=none
 n_reversed:mg "reversed"=none
 n_str:mg "str"=none
 n_sum:mg "sum"=none
 n_tuple:mg "tuple"=none
 n_zip:mg "zip"=none
 x_SailError:Exc K mg "SailError" cSailError
 x_NoFraction:Exc K mg "NoFraction" cNoFraction
 x_NoText:Exc K mg "NoText" cNoText
 x_NoShares:Exc K mg "NoShares" cNoShares
 x_NoCourse:Exc K mg "NoCourse" cNoCourse
 x_NoWind:Exc K mg "NoWind" cNoWind
 x_NoDeed:Exc K mg "NoDeed" cNoDeed
 m_NoCourse_SailError:PySem.W.exmOne K (.ref cNoCourse) (.ref cSailError)=some true
 m_NoShares_SailError:PySem.W.exmOne K (.ref cNoShares) (.ref cSailError)=some true
 l_NoCourse:z2P K cNoCourse=true
 l_NoShares:z2P K cNoShares=true
 i_NoCourse_ValueError:PySem.W.kitOne K (.ref cNoCourse) (.type "ValueError")=some true
 i_NoShares_ValueError:PySem.W.kitOne K (.ref cNoShares) (.type "ValueError")=some true
 i_NoCourse_NoCourse:PySem.W.kitOne K (.ref cNoCourse) (.ref cNoCourse)=some true
 i_NoShares_NoCourse:PySem.W.kitOne K (.ref cNoShares) (.ref cNoCourse)=some false
 i_NoCourse_t_NoDeed_NoFraction_NoShares_NoText_NoWind:PySem.W.kitAny K (.ref cNoCourse) [.ref cNoDeed,.ref cNoFraction,.ref cNoShares,.ref cNoText,.ref cNoWind]=some false
 i_NoShares_t_NoDeed_NoFraction_NoShares_NoText_NoWind:PySem.W.kitAny K (.ref cNoShares) [.ref cNoDeed,.ref cNoFraction,.ref cNoShares,.ref cNoText,.ref cNoWind]=some true
noncomputable abbrev z2d:Stmt:=top 28
theorem z8L:z0z ["script","k"] ["script","k"] (z01 z2d):=⟨rfl,rfl,rfl,by decide +kernel,rfl,by decide +kernel,by decide +kernel⟩
theorem z5N:Nm (z01 z2d) "script":=⟨.inl rfl,by decide,by decide⟩
theorem z5M:Nm (z01 z2d) "k":=⟨.inl rfl,by decide,by decide⟩
theorem z7v:GlS (z01 z2d) "len":=rfl
theorem z8R {P:Program}{w:World}{K:W.Frag}{mg:Str->Option Value}{base:Heap}{f:Addr}{fd:FuncData}{cSailError cNoFraction cNoText cNoShares cNoCourse cNoWind cNoDeed:Addr}(T:Txt K mg cSailError cNoFraction cNoText cNoShares cNoCourse cNoWind cNoDeed)(F:Fun K "_law_cell_at" "_law_cell_at" z2d f fd):FnOk P w K mg base (CXe P w) 1 f fd ["script","k"] (spP K mg z1n):=by
 refine fnN F z8L rfl rfl (fun cdv A outer s H E hr => ?_)
 have hu:=hr.units
 exact(z04 (z20 (z0W (zbO hu) lk2 (qx_v (vg 1 z5M)) (z2f z1Z lkN (glg z7v) T.n_len z3B (z00 (qx_v (vg 0 z5N)) z02) z3q z3z) (z0H _)) (z0a (z0k (z0e (qx_v (vg 0 z5N)) (qx_v (vg 1 z5M)) (fun _ _=>rfl)))) z0Y)
   (z0a (z0k z03)))
noncomputable abbrev z1d:Stmt:=top 31
theorem z48:z0z ["cell","far","wide"] ["cell","far"] (z01 z1d):=⟨rfl,rfl,rfl,by decide +kernel,rfl,by decide +kernel,by decide +kernel⟩
theorem z3S:Nm (z01 z1d) "cell":=⟨.inl rfl,by decide,by decide⟩
theorem z2s:Nm (z01 z1d) "far":=⟨.inl rfl,by decide,by decide⟩
theorem z1K:Nm (z01 z1d) "wide":=⟨.inl rfl,by decide,by decide⟩
theorem z6L {P:Program}{w:World}{K:W.Frag}{mg:Str->Option Value}{base:Heap}{f:Addr}{fd:FuncData}{cSailError cNoFraction cNoText cNoShares cNoCourse cNoWind cNoDeed:Addr}(T:Txt K mg cSailError cNoFraction cNoText cNoShares cNoCourse cNoWind cNoDeed)(F:Fun K "_law_free_vector" "_law_free_vector" z1d f fd):FnOk P w K mg base (CXe P w) 1 f fd ["cell","far"] (spP K mg z0y):=by
 refine fnN F z48 rfl rfl (fun cdv A outer s H E hr => ?_)
 have hu:=hr.units
 exact(z04 (z08 (ag 2 z48.nd z1K (z06 z0r lk2 (z06 z0O lk2 z03 (qx_v (vg 1 z2s))) z03)))
   (z0a (z0k (z0l (z00 (z06 z5H lk2 (z06 z5l lk2 (qx_v (vg 0 z3S)) (qx_v (vg 2 z1K))) (qx_v (vg 1 z2s))) (z00 (z06 z5H lk2 (z06 z5l lk2 (z06 z1T lk2 (qx_v (vg 0 z3S)) (qx_v (vg 2 z1K))) (qx_v (vg 2 z1K))) (qx_v (vg 1 z2s))) z02))))))
noncomputable abbrev z0c:Stmt:=top 32
theorem z0G:z0z ["script","far","watches","at","size","first","wind"] ["script"] (z01 z0c):=⟨rfl,rfl,rfl,by decide +kernel,rfl,by decide +kernel,by decide +kernel⟩
theorem z17:Nm (z01 z0c) "script":=⟨.inl rfl,by decide,by decide⟩
theorem z1z:Nm (z01 z0c) "far":=⟨.inr rfl,by decide,by decide⟩
theorem z1y:Nm (z01 z0c) "watches":=⟨.inl rfl,by decide,by decide⟩
theorem z0B:Nm (z01 z0c) "at":=⟨.inl rfl,by decide,by decide⟩
theorem z2j:Nm (z01 z0c) "size":=⟨.inl rfl,by decide,by decide⟩
theorem z2i:Nm (z01 z0c) "first":=⟨.inl rfl,by decide,by decide⟩
theorem z2h:Nm (z01 z0c) "wind":=⟨.inl rfl,by decide,by decide⟩
theorem z1j:GlS (z01 z0c) "_law_free_vector":=rfl
theorem z2U:GlS (z01 z0c) "len":=rfl
theorem z2T:GlS (z01 z0c) "min":=rfl
theorem z2y:GlS (z01 z0c) "tuple":=rfl
theorem z6s {P:Program}{w:World}{K:W.Frag}{mg:Str->Option Value}{base:Heap}{f:Addr}{fd:FuncData}{cSailError cNoFraction cNoText cNoShares cNoCourse cNoWind cNoDeed:Addr}(T:Txt K mg cSailError cNoFraction cNoText cNoShares cNoCourse cNoWind cNoDeed)(F:Fun K "_law_free_watches" "_law_free_watches" z0c f fd)(c__law_free_vector:Cal P w K mg base (CXe P w) 1 "_law_free_vector" ["cell","far"] (spP K mg z0y)):FnOk P w K mg base (CXe P w) 2 f fd ["script"] (spP K mg z0M):=by
 refine fnN F z0G rfl rfl (fun cdv A outer s H E hr => ?_)
 have hu:=hr.units
 exact(z04 (z08 (ag 1 z0G.nd z1z (z0e (QF.qx (z4a (z00 z03 (z00 z03 (z00 (z06 zcO lk2 z03 z03) z02))))) (z06 z5l lk2 (z06 z1T lk2 (z0e (qx_v (vg 0 z17)) z03 (fun _ _=>rfl)) z03) z03) (fun _ _=>rfl))))
   (z04 (z9c (ag 2 z0G.nd z1y (z4a z02)))
   (z04 (z08 (ag 3 z0G.nd z0B z03))
   (z04 (z7T PassesOwn.never (QW.pt (zaP (z0W (zbO hu) lk2 (qx_v (vg 3 z0B)) (z2f (z9V rfl) lkN (glg z2T) T.n_min zeL (z00 (z2f z1Z lkN (glg z2U) T.n_len z3B (z00 (qx_v (vg 0 z17)) z02) z3q z3z) (z00 z03 z02)) zej zeA) (z0H _)) (z9v (z0W (zbO hu) lk2 (z2f z1Z lkN (glg z2U) T.n_len z3B (z00 (qx_v (vg 2 z1y)) z02) z3q z3z) z03 (z0H _))))) (z04 (z08 (ag 4 z0G.nd z2j (z06 z0r lk2 z03 (z06 z5l lk2 (z0e (qx_v (vg 0 z17)) (qx_v (vg 3 z0B)) (fun _ _=>rfl)) z03))))
   (z04 (z08 (ag 5 z0G.nd z2i (z06 z1T lk2 (z0e (qx_v (vg 0 z17)) (qx_v (vg 3 z0B)) (fun _ _=>rfl)) z03)))
   (z04 (z9c (ag 6 z0G.nd z2h (z4a (z00 (z0o c__law_free_vector (hr.mono (by decide)) z0b (z00 (qx_v (vg 5 z2i)) (z00 (qx_v (vg 1 z1z)) z02)) (glg z1j) z2R) z02))))
   (z04 (zh4 (vg 6 z2h) (z6r (tg:=(.nm 0)) (ct:=none) rfl (qi_x (z82 (qx_v (vg 0 z17)) (z2X (z06 z0r lk2 (qx_v (vg 3 z0B)) z03)) (z2X (z2f (z9V rfl) lkN (glg z2T) T.n_min zeL (z00 (z06 z0r lk2 (qx_v (vg 3 z0B)) (qx_v (vg 4 z2j))) (z00 z03 z02)) zej zeA)))) rfl (z7R.ok (N':=["cell","far"]) (xn:=["script","far","watches","at","size","first","wind"]) (nt:=1) (js:=[1]) (osc:=z01 z0c) rfl rfl (by decide +kernel)) rfl (fun C s2 H2 fp=>(z84 (i:=0) (show List.Nodup (["cell","far"]:List Str) from by decide) rfl rfl)) trivial (fun C s2 H2 fp=>(z0o c__law_free_vector (hr.mono (by decide)) z0b (z00 (qx_v (qv 0)) (z00 (qx_v (qv 1)) z02)) (by rfl) z2R))))
   (z04 (zcs (vg 2 z1y) (z00 (z0l (z00 (z6E z3A lkN (glg z2y) T.n_tuple z44 (z00 (qx_v (vg 6 z2h)) z02) z3H z43) (z00 (z0o c__law_free_vector (hr.mono (by decide)) z0b (z00 (z06 z1T lk2 (qx_v (vg 5 z2i)) (z06 zcO lk2 (z06 z0r lk2 (z06 z0O lk2 z03 (qx_v (vg 1 z1z))) z03) z03)) (z00 (qx_v (vg 1 z1z)) z02)) (glg z1j) z2R) z02))) z02))
   (z0a (z08 (ag 3 z0G.nd z0B (z06 z0r lk2 (qx_v (vg 3 z0B)) (qx_v (vg 4 z2j))))))))))))
   (z0a (z0k (z6E z3A lkN (glg z2y) T.n_tuple z44 (z00 (qx_v (vg 2 z1y)) z02) z3H z43)))))))
noncomputable abbrev z2x:Stmt:=top 29
theorem z4J:z0z ["cell","k","many","prime","mixed"] ["cell","k","many"] (z01 z2x):=⟨rfl,rfl,rfl,by decide +kernel,rfl,by decide +kernel,by decide +kernel⟩
theorem zao:Nm (z01 z2x) "cell":=⟨.inl rfl,by decide,by decide⟩
theorem z7H:Nm (z01 z2x) "k":=⟨.inl rfl,by decide,by decide⟩
theorem zan:Nm (z01 z2x) "many":=⟨.inl rfl,by decide,by decide⟩
theorem z3e:Nm (z01 z2x) "prime":=⟨.inl rfl,by decide,by decide⟩
theorem z3d:Nm (z01 z2x) "mixed":=⟨.inl rfl,by decide,by decide⟩
theorem zaR {P:Program}{w:World}{K:W.Frag}{mg:Str->Option Value}{base:Heap}{f:Addr}{fd:FuncData}{cSailError cNoFraction cNoText cNoShares cNoCourse cNoWind cNoDeed:Addr}(T:Txt K mg cSailError cNoFraction cNoText cNoShares cNoCourse cNoWind cNoDeed)(F:Fun K "_law_draw" "_law_draw" z2x f fd):FnOk P w K mg base (CXe P w) 1 f fd ["cell","k","many"] (spP K mg z05):=by
 refine fnN F z4J rfl rfl (fun cdv A outer s H E hr => ?_)
 have hu:=hr.units
 exact(z04 (z08 (ag 3 z4J.nd z3e z03))
   (z04 (z08 (ag 4 z4J.nd z3d (z06 z5l lk2 (z06 z0O lk2 (z06 z0r lk2 (z06 z5l lk2 (qx_v (vg 0 zao)) (qx_v (vg 3 z3e))) (z06 z0O lk2 (z06 z0r lk2 (qx_v (vg 1 z7H)) z03) z03)) z03) (qx_v (vg 3 z3e)))))
   (z04 (z08 (ag 4 z4J.nd z3d (z06 z5l lk2 (z06 z0O lk2 (qx_v (vg 4 z3d)) (qx_v (vg 4 z3d))) (qx_v (vg 3 z3e)))))
   (z0a (z0k (z06 z5l lk2 (z06 z1T lk2 (z06 z5l lk2 (z06 z0O lk2 (z06 z0r lk2 (qx_v (vg 4 z3d)) (qx_v (vg 1 z7H))) z03) (qx_v (vg 3 z3e))) z03) (qx_v (vg 2 zan))))))))
noncomputable abbrev z1F:Stmt:=top 30
theorem z6D:z0z ["cell","far","line","times"] ["cell","far","line"] (z01 z1F):=⟨rfl,rfl,rfl,by decide +kernel,rfl,by decide +kernel,by decide +kernel⟩
theorem z4o:Nm (z01 z1F) "cell":=⟨.inl rfl,by decide,by decide⟩
theorem z36:Nm (z01 z1F) "far":=⟨.inl rfl,by decide,by decide⟩
theorem z4n:Nm (z01 z1F) "line":=⟨.inl rfl,by decide,by decide⟩
theorem z4m:Nm (z01 z1F) "times":=⟨.inl rfl,by decide,by decide⟩
theorem z1U:GlS (z01 z1F) "_law_draw":=rfl
theorem z9B {P:Program}{w:World}{K:W.Frag}{mg:Str->Option Value}{base:Heap}{f:Addr}{fd:FuncData}{cSailError cNoFraction cNoText cNoShares cNoCourse cNoWind cNoDeed:Addr}(T:Txt K mg cSailError cNoFraction cNoText cNoShares cNoCourse cNoWind cNoDeed)(F:Fun K "_law_vector" "_law_vector" z1F f fd)(c__law_draw:Cal P w K mg base (CXe P w) 1 "_law_draw" ["cell","k","many"] (spP K mg z05)):FnOk P w K mg base (CXe P w) 2 f fd ["cell","far","line"] (spP K mg z15):=by
 refine fnN F z6D rfl rfl (fun cdv A outer s H E hr => ?_)
 have hu:=hr.units
 exact(z04 (z20 (z0W zec lk2 (qx_v (vg 2 z4n)) z9d (z0H _)) (z04 (z08 (ag 3 z6D.nd z4m (z06 z5H lk2 (z0o c__law_draw (hr.mono (by decide)) z0b (z00 (qx_v (vg 0 z4o)) (z00 z03 (z00 z03 z02))) (glg z1U) z0j) z03)))
   (z0a (z0k (z0l (z00 (z06 z0O lk2 (z0e (qx_v (vg 2 z4n)) z03 (fun _ _=>rfl)) (qx_v (vg 3 z4m))) (z00 (z06 z0O lk2 (z0e (qx_v (vg 2 z4n)) z03 (fun _ _=>rfl)) (qx_v (vg 3 z4m))) z02)))))) z0Y)
   (z0a (z0k (z0l (z00 (z06 z5H lk2 (z0o c__law_draw (hr.mono (by decide)) z0b (z00 (qx_v (vg 0 z4o)) (z00 z03 (z00 (z06 z0r lk2 (z06 z0O lk2 z03 (qx_v (vg 1 z36))) z03) z02))) (glg z1U) z0j) (qx_v (vg 1 z36))) (z00 (z06 z5H lk2 (z0o c__law_draw (hr.mono (by decide)) z0b (z00 (qx_v (vg 0 z4o)) (z00 z03 (z00 (z06 z0r lk2 (z06 z0O lk2 z03 (qx_v (vg 1 z36))) z03) z02))) (glg z1U) z0j) (qx_v (vg 1 z36))) z02))))))
noncomputable abbrev z0g:Stmt:=top 33
theorem z0A:z0z ["script","base","far","line","most","watches","at","size","wind","stream"] ["script"] (z01 z0g):=⟨rfl,rfl,rfl,by decide +kernel,rfl,by decide +kernel,by decide +kernel⟩
theorem z1g:Nm (z01 z0g) "script":=⟨.inl rfl,by decide,by decide⟩
theorem z1f:Nm (z01 z0g) "base":=⟨.inl rfl,by decide,by decide⟩
theorem z5K:Nm (z01 z0g) "far":=⟨.inr rfl,by decide,by decide⟩
theorem z3R:Nm (z01 z0g) "line":=⟨.inr rfl,by decide,by decide⟩
theorem z5J:Nm (z01 z0g) "most":=⟨.inl rfl,by decide,by decide⟩
theorem z2J:Nm (z01 z0g) "watches":=⟨.inl rfl,by decide,by decide⟩
theorem z0P:Nm (z01 z0g) "at":=⟨.inl rfl,by decide,by decide⟩
theorem z3Q:Nm (z01 z0g) "size":=⟨.inl rfl,by decide,by decide⟩
theorem z8e:Nm (z01 z0g) "wind":=⟨.inl rfl,by decide,by decide⟩
theorem z3P:Nm (z01 z0g) "stream":=⟨.inl rfl,by decide,by decide⟩
theorem z46:GlS (z01 z0g) "_law_cell_at":=rfl
theorem z0x:GlS (z01 z0g) "_law_draw":=rfl
theorem z30:GlS (z01 z0g) "_law_free_watches":=rfl
theorem z4v:GlS (z01 z0g) "_law_vector":=rfl
theorem z4F:GlS (z01 z0g) "len":=rfl
theorem z4E:GlS (z01 z0g) "min":=rfl
theorem z3W:GlS (z01 z0g) "tuple":=rfl
theorem z8P {P:Program}{w:World}{K:W.Frag}{mg:Str->Option Value}{base:Heap}{f:Addr}{fd:FuncData}{cSailError cNoFraction cNoText cNoShares cNoCourse cNoWind cNoDeed:Addr}(T:Txt K mg cSailError cNoFraction cNoText cNoShares cNoCourse cNoWind cNoDeed)(F:Fun K "_law_watches" "_law_watches" z0g f fd)(c__law_cell_at:Cal P w K mg base (CXe P w) 1 "_law_cell_at" ["script","k"] (spP K mg z1n))(c__law_draw:Cal P w K mg base (CXe P w) 1 "_law_draw" ["cell","k","many"] (spP K mg z05))(c__law_vector:Cal P w K mg base (CXe P w) 2 "_law_vector" ["cell","far","line"] (spP K mg z15))(c__law_free_watches:Cal P w K mg base (CXe P w) 2 "_law_free_watches" ["script"] (spP K mg z0M)):FnOk P w K mg base (CXe P w) 3 f fd ["script"] (spP K mg z1k):=by
 refine fnN F z0A rfl rfl (fun cdv A outer s H E hr => ?_)
 have hu:=hr.units
 exact(z04 (z08 (ag 1 z0A.nd z1f (z0o c__law_cell_at (hr.mono (by decide)) z0b (z00 (qx_v (vg 0 z1g)) (z00 z03 z02)) (glg z46) z96)))
   (z04 (z20 (z0W (z3G hu) lk2 (z06 z5l lk2 (qx_v (vg 1 z1f)) z03) z03 (z0H _)) (z0a (z0k (z0o c__law_free_watches (hr.mono (by decide)) z0b (z00 (qx_v (vg 0 z1g)) z02) (glg z30) z6B))) z0Y)
   (z04 (z08 (ag 2 z0A.nd z5K (z0e (QF.qx (z4a (z00 z03 (z00 z03 (z00 z03 (z00 (z06 zcO lk2 z03 z03) z02)))))) (z0o c__law_draw (hr.mono (by decide)) z0b (z00 (qx_v (vg 1 z1f)) (z00 z03 (z00 z03 z02))) (glg z0x) z0j) (fun _ _=>rfl))))
   (z04 (z08 (ag 3 z0A.nd z3R z9d))
   (z04 (z20 (z0W (z3G hu) lk2 (z0o c__law_draw (hr.mono (by decide)) z0b (z00 (qx_v (vg 1 z1f)) (z00 z03 (z00 z03 z02))) (glg z0x) z0j) z03 (z0H _)) (z0a (z08 (ag 3 z0A.nd z3R (z0l (z00 (z06 z5H lk2 (z0o c__law_draw (hr.mono (by decide)) z0b (z00 (qx_v (vg 1 z1f)) (z00 z03 (z00 z03 z02))) (glg z0x) z0j) z03) (z00 (z06 z5H lk2 (z0o c__law_draw (hr.mono (by decide)) z0b (z00 (qx_v (vg 1 z1f)) (z00 z03 (z00 z03 z02))) (glg z0x) z0j) z03) z02)))))) z0Y)
   (z04 (z08 (ag 4 z0A.nd z5J (z0e (QF.qx (z4a (z00 z03 (z00 z03 (z00 z03 (z00 z03 z02)))))) (z0o c__law_draw (hr.mono (by decide)) z0b (z00 (qx_v (vg 1 z1f)) (z00 z03 (z00 z03 z02))) (glg z0x) z0j) (fun _ _=>rfl))))
   (z04 (z9c (ag 5 z0A.nd z2J (z4a z02)))
   (z04 (z08 (ag 6 z0A.nd z0P z03))
   (z04 (z7T PassesOwn.never (QW.pt (zaP (z0W (zbO hu) lk2 (qx_v (vg 6 z0P)) (z2f (z9V rfl) lkN (glg z4E) T.n_min zeL (z00 (z2f z1Z lkN (glg z4F) T.n_len z3B (z00 (qx_v (vg 0 z1g)) z02) z3q z3z) (z00 z03 z02)) zej zeA) (z0H _)) (z9v (z0W (zbO hu) lk2 (z2f z1Z lkN (glg z4F) T.n_len z3B (z00 (qx_v (vg 5 z2J)) z02) z3q z3z) z03 (z0H _))))) (z04 (z08 (ag 7 z0A.nd z3Q (z06 z0r lk2 z03 (z0o c__law_draw (hr.mono (by decide)) z0b (z00 (z0e (qx_v (vg 0 z1g)) (qx_v (vg 6 z0P)) (fun _ _=>rfl)) (z00 z03 (z00 (qx_v (vg 4 z5J)) z02))) (glg z0x) z0j))))
   (z04 (z9c (zcv (iy:=8) (tg:=(.nm 0)) (ct:=none) z0A.nd rfl rfl rfl (qi_x (z82 (qx_v (vg 0 z1g)) (z2X (qx_v (vg 6 z0P))) (z2X (z2f (z9V rfl) lkN (glg z4E) T.n_min zeL (z00 (z06 z0r lk2 (qx_v (vg 6 z0P)) (qx_v (vg 7 z3Q))) (z00 z03 z02)) zej zeA)))) rfl (z7R.ok (N':=["cell","far","line"]) (xn:=["script","base","far","line","most","watches","at","size","wind","stream"]) (nt:=1) (js:=[2,3]) (osc:=z01 z0g) rfl rfl (by decide +kernel)) rfl (fun C s2 H2 fp=>(z84 (i:=0) (show List.Nodup (["cell","far","line"]:List Str) from by decide) rfl rfl)) trivial (fun C s2 H2 fp=>(z0o c__law_vector (hr.mono (by decide)) z0b (z00 (qx_v (qv 0)) (z00 (qx_v (qv 1)) (z00 (qx_v (qv 2)) z02))) (by rfl) z7d))))
   (z04 (z08 (ag 9 z0A.nd z3P (z0l (z00 z03 (z00 z03 z02)))))
   (z04 (z20 (z0W (z3G hu) lk2 (z0o c__law_draw (hr.mono (by decide)) z0b (z00 (z0e (qx_v (vg 0 z1g)) (qx_v (vg 6 z0P)) (fun _ _=>rfl)) (z00 z03 (z00 z03 z02))) (glg z0x) z0j) z03 (z0H _)) (z0a (z08 (ag 9 z0A.nd z3P (z0o c__law_vector (hr.mono (by decide)) z0b (z00 (z06 z0r lk2 (z0e (qx_v (vg 0 z1g)) (qx_v (vg 6 z0P)) (fun _ _=>rfl)) z03) (z00 (qx_v (vg 2 z5K)) (z00 (qx_v (vg 3 z3R)) z02))) (glg z4v) z7d)))) z0Y)
   (z04 (zcs (vg 5 z2J) (z00 (z0l (z00 (z6E z3A lkN (glg z3W) T.n_tuple z44 (z00 (qx_v (vg 8 z8e)) z02) z3H z43) (z00 (qx_v (vg 9 z3P)) z02))) z02))
   (z0a (z08 (ag 6 z0A.nd z0P (z06 z0r lk2 (qx_v (vg 6 z0P)) (qx_v (vg 7 z3Q))))))))))))
   (z0a (z0k (z6E z3A lkN (glg z3W) T.n_tuple z44 (z00 (qx_v (vg 5 z2J)) z02) z3H z43))))))))))))
noncomputable abbrev z10:Stmt:=top 34
theorem z1G:z0z ["row","least","number","one","rest"] ["row"] (z01 z10):=⟨rfl,rfl,rfl,by decide +kernel,rfl,by decide +kernel,by decide +kernel⟩
theorem z6m:Nm (z01 z10) "row":=⟨.inl rfl,by decide,by decide⟩
theorem z4p:Nm (z01 z10) "least":=⟨.inr rfl,by decide,by decide⟩
theorem z6l:Nm (z01 z10) "number":=⟨.inl rfl,by decide,by decide⟩
theorem z2l:Nm (z01 z10) "one":=⟨.inl rfl,by decide,by decide⟩
theorem z6k:Nm (z01 z10) "rest":=⟨.inl rfl,by decide,by decide⟩
theorem z7N:GlS (z01 z10) "abs":=rfl
theorem z76:GlS (z01 z10) "tuple":=rfl
theorem z9D {P:Program}{w:World}{K:W.Frag}{mg:Str->Option Value}{base:Heap}{f:Addr}{fd:FuncData}{cSailError cNoFraction cNoText cNoShares cNoCourse cNoWind cNoDeed:Addr}(T:Txt K mg cSailError cNoFraction cNoText cNoShares cNoCourse cNoWind cNoDeed)(F:Fun K "_law_lowest" "_law_lowest" z10 f fd):FnOk P w K mg base (CXe P w) 1 f fd ["row"] (spP K mg z09):=by
 refine fnN F z1G rfl rfl (fun cdv A outer s H E hr => ?_)
 have hu:=hr.units
 exact(z04 (z08 (ag 1 z1G.nd z4p z03))
   (z04 (z5F (js:=[]) (g:=(.nm 2)) PassesOwn.never rfl (qi_x (qx_v (vg 0 z6m))) (ng 2 z1G.nd z6l) (z04 (z08 (ag 3 z1G.nd z2l (z2f zdn lkN (glg z7N) T.n_abs zgp (z00 (qx_v (vg 2 z6l)) z02) zge zgl)))
   (z0a (z7T PassesOwn.never (z0W (zcN hu) lk2 (qx_v (vg 3 z2l)) z03 (z0H _)) (z04 (z08 (ag 4 z1G.nd z6k (z06 z5l lk2 (qx_v (vg 1 z4p)) (qx_v (vg 3 z2l)))))
   (z04 (z08 (ag 1 z1G.nd z4p (qx_v (vg 3 z2l))))
   (z0a (z08 (ag 3 z1G.nd z2l (qx_v (vg 4 z6k)))))))))))
   (z0a (z0k (z6E z3A lkN (glg z76) T.n_tuple z44 (z00 (QF.qx (z6r (tg:=(.nm 0)) (ct:=none) rfl (qi_x (qx_v (vg 0 z6m))) rfl (z7R.ok (N':=["number","least"]) (xn:=["row","least","number","one","rest"]) (nt:=1) (js:=[1]) (osc:=z01 z10) rfl rfl (by decide +kernel)) rfl (fun C s2 H2 fp=>(z84 (i:=0) (show List.Nodup (["number","least"]:List Str) from by decide) rfl rfl)) trivial (fun C s2 H2 fp=>(z06 z1T lk2 (qx_v (qv 0)) (qx_v (qv 1)))))) z02) z3H z43)))))
noncomputable abbrev z0X:Stmt:=top 43
theorem z3c:z0z ["course","cell","first","bottom","part","last"] ["course","cell"] (z01 z0X):=⟨rfl,rfl,rfl,by decide +kernel,rfl,by decide +kernel,by decide +kernel⟩
theorem z6V:Nm (z01 z0X) "course":=⟨.inl rfl,by decide,by decide⟩
theorem z4Z:Nm (z01 z0X) "cell":=⟨.inl rfl,by decide,by decide⟩
theorem z2K:Nm (z01 z0X) "first":=⟨.inl rfl,by decide,by decide⟩
theorem z4Y:Nm (z01 z0X) "bottom":=⟨.inl rfl,by decide,by decide⟩
theorem z9J:Nm (z01 z0X) "part":=⟨.inr rfl,by decide,by decide⟩
theorem z6U:Nm (z01 z0X) "last":=⟨.inl rfl,by decide,by decide⟩
theorem z25:GlS (z01 z0X) "_law_draw":=rfl
theorem z8w:GlS (z01 z0X) "len":=rfl
theorem z7t:GlS (z01 z0X) "tuple":=rfl
theorem zag {P:Program}{w:World}{K:W.Frag}{mg:Str->Option Value}{base:Heap}{f:Addr}{fd:FuncData}{cSailError cNoFraction cNoText cNoShares cNoCourse cNoWind cNoDeed:Addr}(T:Txt K mg cSailError cNoFraction cNoText cNoShares cNoCourse cNoWind cNoDeed)(F:Fun K "_law_short" "_law_short" z0X f fd)(c__law_draw:Cal P w K mg base (CXe P w) 1 "_law_draw" ["cell","k","many"] (spP K mg z05))(c__law_lowest:Cal P w K mg base (CXe P w) 1 "_law_lowest" ["row"] (spP K mg z09)):FnOk P w K mg base (CXe P w) 2 f fd ["course","cell"] (spP K mg z1C):=by
 refine fnN F z3c rfl rfl (fun cdv A outer s H E hr => ?_)
 have hu:=hr.units
 exact(z04 (z08 (ag 2 z3c.nd z2K (z82 (qx_v (vg 0 z6V)) z4K (z2X (z0o c__law_draw (hr.mono (by decide)) z0b (z00 (qx_v (vg 1 z4Z)) (z00 z03 (z00 (z06 z0r lk2 (z2f z1Z lkN (glg z8w) T.n_len z3B (z00 (qx_v (vg 0 z6V)) z02) z3q z3z) z03) z02))) (glg z25) z0j)))))
   (z04 (z20 (z0W (z3G hu) lk2 (qx_v (vg 2 z2K)) (z0l z02) (z0H _)) (z0a (z0k (qx_v (vg 2 z2K)))) z0Y)
   (z04 (z08 (ag 3 z3c.nd z4Y (z06 z0r lk2 z03 (z0o c__law_draw (hr.mono (by decide)) z0b (z00 (qx_v (vg 1 z4Z)) (z00 z03 (z00 z03 z02))) (glg z25) z0j))))
   (z04 (z08 (ag 4 z3c.nd z9J (z0l (z00 (z06 z0r lk2 z03 (z0o c__law_draw (hr.mono (by decide)) z0b (z00 (qx_v (vg 1 z4Z)) (z00 z03 (z00 (qx_v (vg 3 z4Y)) z02))) (glg z25) z0j)) (z00 (qx_v (vg 3 z4Y)) z02)))))
   (z04 (z08 (ag 5 z3c.nd z6U (z6E z3A lkN (glg z7t) T.n_tuple z44 (z00 (QF.qx (z6r (tg:=(.tp [0,1])) (ct:=none) rfl (qi_x (z0e (qx_v (vg 2 z2K)) (zab z7F lk1 z03) (fun _ _=>rfl))) rfl (z7R.ok (N':=["j","share","part"]) (xn:=["course","cell","first","bottom","part","last"]) (nt:=2) (js:=[4]) (osc:=z01 z0X) rfl rfl (by decide +kernel)) rfl (fun C s2 H2 fp=>(z6H rfl (z1o (zcx (i:=0) (show List.Nodup (["j","share","part"]:List Str) from by decide) rfl rfl) (z1o (zcx (i:=1) (show List.Nodup (["j","share","part"]:List Str) from by decide) rfl rfl) z4L)))) trivial (fun C s2 H2 fp=>(z0l (z00 (qx_v (qv 0)) (z00 (z0o c__law_lowest (hr.mono (by decide)) z0b (z00 (QF.qx (z4a (z00 (z06 z0O lk2 (z0e (qx_v (qv 1)) z03 (fun _ _=>rfl)) (z0e (qx_v (qv 2)) z03 (fun _ _=>rfl))) (z00 (z06 z0O lk2 (z0e (qx_v (qv 1)) z03 (fun _ _=>rfl)) (z0e (qx_v (qv 2)) z03 (fun _ _=>rfl))) z02)))) z02) (by rfl) z2Q) z02)))))) z02) z3H z43)))
   (z0a (z0k (z06 z0r lk2 (z82 (qx_v (vg 2 z2K)) z4K (z2X (zab z7F lk1 z03))) (z0l (z00 (qx_v (vg 5 z6U)) z02))))))))))
noncomputable abbrev z2k:Stmt:=top 39
theorem z60:z0z ["place","vector","share","top","x","y"] ["place","vector","share"] (z01 z2k):=⟨rfl,rfl,rfl,by decide +kernel,rfl,by decide +kernel,by decide +kernel⟩
theorem z3U:Nm (z01 z2k) "place":=⟨.inl rfl,by decide,by decide⟩
theorem z8p:Nm (z01 z2k) "vector":=⟨.inl rfl,by decide,by decide⟩
theorem z58:Nm (z01 z2k) "share":=⟨.inl rfl,by decide,by decide⟩
theorem z6x:Nm (z01 z2k) "top":=⟨.inl rfl,by decide,by decide⟩
theorem z8o:Nm (z01 z2k) "x":=⟨.inl rfl,by decide,by decide⟩
theorem z8n:Nm (z01 z2k) "y":=⟨.inl rfl,by decide,by decide⟩
theorem z5S:GlS (z01 z2k) "_law_lowest":=rfl
theorem zbN {P:Program}{w:World}{K:W.Frag}{mg:Str->Option Value}{base:Heap}{f:Addr}{fd:FuncData}{cSailError cNoFraction cNoText cNoShares cNoCourse cNoWind cNoDeed:Addr}(T:Txt K mg cSailError cNoFraction cNoText cNoShares cNoCourse cNoWind cNoDeed)(F:Fun K "_law_add" "_law_add" z2k f fd)(c__law_lowest:Cal P w K mg base (CXe P w) 1 "_law_lowest" ["row"] (spP K mg z09)):FnOk P w K mg base (CXe P w) 2 f fd ["place","vector","share"] (spP K mg z1E):=by
 refine fnN F z60 rfl rfl (fun cdv A outer s H E hr => ?_)
 have hu:=hr.units
 exact(z04 (z08 (ag 3 z60.nd z6x (z0e (qx_v (vg 2 z58)) z03 (fun _ _=>rfl))))
   (z04 (z08 (ag 4 z60.nd z8o (z06 z0r lk2 (z06 z0O lk2 (z0e (qx_v (vg 0 z3U)) z03 (fun _ _=>rfl)) (z0e (qx_v (vg 2 z58)) z03 (fun _ _=>rfl))) (z06 z0O lk2 (z06 z0O lk2 (z0e (qx_v (vg 1 z8p)) z03 (fun _ _=>rfl)) (qx_v (vg 3 z6x))) (z0e (qx_v (vg 0 z3U)) z03 (fun _ _=>rfl))))))
   (z04 (z08 (ag 5 z60.nd z8n (z06 z0r lk2 (z06 z0O lk2 (z0e (qx_v (vg 0 z3U)) z03 (fun _ _=>rfl)) (z0e (qx_v (vg 2 z58)) z03 (fun _ _=>rfl))) (z06 z0O lk2 (z06 z0O lk2 (z0e (qx_v (vg 1 z8p)) z03 (fun _ _=>rfl)) (qx_v (vg 3 z6x))) (z0e (qx_v (vg 0 z3U)) z03 (fun _ _=>rfl))))))
   (z0a (z0k (z0o c__law_lowest (hr.mono (by decide)) z0b (z00 (QF.qx (z4a (z00 (qx_v (vg 4 z8o)) (z00 (qx_v (vg 5 z8n)) (z00 (z06 z0O lk2 (z0e (qx_v (vg 0 z3U)) z03 (fun _ _=>rfl)) (z0e (qx_v (vg 2 z58)) z03 (fun _ _=>rfl))) z02))))) z02) (glg z5S) z2Q))))))
noncomputable abbrev z4z:Stmt:=top 35
theorem zbE:z0z ["one","other"] ["one","other"] (z01 z4z):=⟨rfl,rfl,rfl,by decide +kernel,rfl,by decide +kernel,by decide +kernel⟩
theorem z6u:Nm (z01 z4z) "one":=⟨.inl rfl,by decide,by decide⟩
theorem z6t:Nm (z01 z4z) "other":=⟨.inl rfl,by decide,by decide⟩
theorem z5P:GlS (z01 z4z) "_law_lowest":=rfl
theorem zbK {P:Program}{w:World}{K:W.Frag}{mg:Str->Option Value}{base:Heap}{f:Addr}{fd:FuncData}{cSailError cNoFraction cNoText cNoShares cNoCourse cNoWind cNoDeed:Addr}(T:Txt K mg cSailError cNoFraction cNoText cNoShares cNoCourse cNoWind cNoDeed)(F:Fun K "_law_sum" "_law_sum" z4z f fd)(c__law_lowest:Cal P w K mg base (CXe P w) 1 "_law_lowest" ["row"] (spP K mg z09)):FnOk P w K mg base (CXe P w) 2 f fd ["one","other"] (spP K mg z1l):=by
 refine fnN F zbE rfl rfl (fun cdv A outer s H E hr => ?_)
 have hu:=hr.units
 exact(z0a (z0k (z0o c__law_lowest (hr.mono (by decide)) z0b (z00 (QF.qx (z4a (z00 (z06 z0r lk2 (z06 z0O lk2 (z0e (qx_v (vg 0 z6u)) z03 (fun _ _=>rfl)) (z0e (qx_v (vg 1 z6t)) z03 (fun _ _=>rfl))) (z06 z0O lk2 (z0e (qx_v (vg 1 z6t)) z03 (fun _ _=>rfl)) (z0e (qx_v (vg 0 z6u)) z03 (fun _ _=>rfl)))) (z00 (z06 z0O lk2 (z0e (qx_v (vg 0 z6u)) z03 (fun _ _=>rfl)) (z0e (qx_v (vg 1 z6t)) z03 (fun _ _=>rfl))) z02)))) z02) (glg z5P) z2Q)))
noncomputable abbrev s_law_end:Stmt:=top 40
theorem z2c:z0z ["watches","course","place","k","total","j","share"] ["watches","course"] (z01 s_law_end):=⟨rfl,rfl,rfl,by decide +kernel,rfl,by decide +kernel,by decide +kernel⟩
theorem z8h:Nm (z01 s_law_end) "watches":=⟨.inl rfl,by decide,by decide⟩
theorem z8g:Nm (z01 s_law_end) "course":=⟨.inl rfl,by decide,by decide⟩
theorem z2Z:Nm (z01 s_law_end) "place":=⟨.inl rfl,by decide,by decide⟩
theorem z56:Nm (z01 s_law_end) "k":=⟨.inl rfl,by decide,by decide⟩
theorem z55:Nm (z01 s_law_end) "total":=⟨.inl rfl,by decide,by decide⟩
theorem z8f:Nm (z01 s_law_end) "j":=⟨.inl rfl,by decide,by decide⟩
theorem z6v:Nm (z01 s_law_end) "share":=⟨.inl rfl,by decide,by decide⟩
theorem z4e:GlS (z01 s_law_end) "_law_add":=rfl
theorem z77:GlS (z01 s_law_end) "_law_sum":=rfl
theorem z9N:GlS (z01 s_law_end) "len":=rfl
theorem z8x:GlS (z01 s_law_end) "range":=rfl
theorem zbL {P:Program}{w:World}{K:W.Frag}{mg:Str->Option Value}{base:Heap}{f:Addr}{fd:FuncData}{cSailError cNoFraction cNoText cNoShares cNoCourse cNoWind cNoDeed:Addr}(T:Txt K mg cSailError cNoFraction cNoText cNoShares cNoCourse cNoWind cNoDeed)(F:Fun K "_law_end" "_law_end" s_law_end f fd)(c__law_sum:Cal P w K mg base (CXe P w) 2 "_law_sum" ["one","other"] (spP K mg z1l))(c__law_add:Cal P w K mg base (CXe P w) 2 "_law_add" ["place","vector","share"] (spP K mg z1E)):FnOk P w K mg base (CXe P w) 3 f fd ["watches","course"] (spP K mg z27):=by
 refine fnN F z2c rfl rfl (fun cdv A outer s H E hr => ?_)
 have hu:=hr.units
 exact(z04 (z08 (ag 2 z2c.nd z2Z (z0l (z00 z03 (z00 z03 (z00 z03 z02))))))
   (z04 (zbb (g:=(.nm 3)) PassesOwn.never rfl (glg z8x) T.n_range (z00 (z2f z1Z lkN (glg z9N) T.n_len z3B (z00 (qx_v (vg 1 z8g)) z02) z3q z3z) z02) (ng 3 z2c.nd z56) (z04 (z08 (ag 4 z2c.nd z55 (z0l (z00 z03 (z00 z03 z02)))))
   (z04 (z5F (js:=[]) (g:=(.tp [5,6])) PassesOwn.never rfl (qi_x (z0e (qx_v (vg 1 z8g)) (qx_v (vg 3 z56)) (fun _ _=>rfl))) (z6H rfl (z1o (ng 5 z2c.nd z8f) (z1o (ng 6 z2c.nd z6v) z4L))) (z04 (z08 (ag 2 z2c.nd z2Z (z0o c__law_add (hr.mono (by decide)) z0b (z00 (qx_v (vg 2 z2Z)) (z00 (z0e (z0e (z0e (qx_v (vg 0 z8h)) (qx_v (vg 3 z56)) (fun _ _=>rfl)) z03 (fun _ _=>rfl)) (qx_v (vg 5 z8f)) (fun _ _=>rfl)) (z00 (qx_v (vg 6 z6v)) z02))) (glg z4e) z9i)))
   (z0a (z08 (ag 4 z2c.nd z55 (z0o c__law_sum (hr.mono (by decide)) z0b (z00 (qx_v (vg 4 z55)) (z00 (qx_v (vg 6 z6v)) z02)) (glg z77) z9h))))))
   (z0a (z08 (ag 2 z2c.nd z2Z (z0o c__law_add (hr.mono (by decide)) z0b (z00 (qx_v (vg 2 z2Z)) (z00 (z0e (z0e (qx_v (vg 0 z8h)) (qx_v (vg 3 z56)) (fun _ _=>rfl)) z03 (fun _ _=>rfl)) (z00 (qx_v (vg 4 z55)) z02))) (glg z4e) z9i)))))))
   (z0a (z0k (qx_v (vg 2 z2Z))))))
noncomputable abbrev z14:Stmt:=top 36
theorem zaI:z0z ["found","due"] ["found","due"] (z01 z14):=⟨rfl,rfl,rfl,by decide +kernel,rfl,by decide +kernel,by decide +kernel⟩
theorem z1a:Nm (z01 z14) "found":=⟨.inr rfl,by decide,by decide⟩
theorem z1s:Nm (z01 z14) "due":=⟨.inr rfl,by decide,by decide⟩
theorem z90:GlS (z01 z14) "all":=rfl
theorem z3Y:GlS (z01 z14) "bool":=rfl
theorem z8Z:GlS (z01 z14) "int":=rfl
theorem z0w:GlS (z01 z14) "isinstance":=rfl
theorem z4x:GlS (z01 z14) "len":=rfl
theorem z7M:GlS (z01 z14) "range":=rfl
theorem z6o:GlS (z01 z14) "str":=rfl
theorem z5q:GlS (z01 z14) "tuple":=rfl
theorem z4P {P:Program}{w:World}{K:W.Frag}{mg:Str->Option Value}{base:Heap}{f:Addr}{fd:FuncData}{cSailError cNoFraction cNoText cNoShares cNoCourse cNoWind cNoDeed:Addr}{n k:Nat}(T:Txt K mg cSailError cNoFraction cNoText cNoShares cNoCourse cNoWind cNoDeed)(F:Fun K "_law_same" "_law_same" z14 f fd)(c__law_same:Cal P w K mg base (CXe P w) k "_law_same" ["found","due"] (spP K mg (z0m n)))(hk:0<=k):FnOk P w K mg base (CXe P w) (k+1) f fd ["found","due"] (spP K mg (z0m (n+1))):=by
 refine fnN F zaI rfl rfl (fun cdv A outer s H E hr => ?_)
 have hu:=hr.units
 exact(z04 (z20 (z2g (z7C (T:="tuple") (by decide) (glg z0w) T.n_isinstance (qx_v (vg 1 z1s)) (z4M (v :=.ty "tuple") (glg z5q) T.n_tuple z44 rfl z3H z43))) (z04 (z20 (QW.pt (z6G (z3h (z2g (z7C (T:="tuple") (by decide) (glg z0w) T.n_isinstance (qx_v (vg 0 z1a)) (z4M (v :=.ty "tuple") (glg z5q) T.n_tuple z44 rfl z3H z43)))) (z7n (z0W (zcM hu) lk2 (z2f z1Z lkN (glg z4x) T.n_len z3B (z00 (qx_v (vg 0 z1a)) z02) z3q z3z) (z2f z1Z lkN (glg z4x) T.n_len z3B (z00 (qx_v (vg 1 z1s)) z02) z3q z3z) (z0H _))))) (z0a (z0k z6F)) z0Y)
   (z0a (z0k (z2f (ziG rfl) lkN (glg z90) T.n_all zk3 (z00 (QF.qx (z6r (tg:=(.nm 0)) (ct:=none) rfl (z62 (glg z7M) T.n_range (z00 (z2f z1Z lkN (glg z4x) T.n_len z3B (z00 (qx_v (vg 1 z1s)) z02) z3q z3z) z02)) rfl (z7R.ok (N':=["k","found","due"]) (xn:=["found","due"]) (nt:=1) (js:=[0,1]) (osc:=z01 z14) rfl rfl (by decide +kernel)) rfl (fun C s2 H2 fp=>(z84 (i:=0) (show List.Nodup (["k","found","due"]:List Str) from by decide) rfl rfl)) trivial (fun C s2 H2 fp=>(z0o c__law_same (hr.mono (by omega)) z0b (z00 (z0e (qx_v (qv 1)) (qx_v (qv 0)) (fun _ _=>rfl)) (z00 (z0e (qx_v (qv 2)) (qx_v (qv 0)) (fun _ _=>rfl)) z02)) (by rfl) z32)))) z02) zjM zjW)))) z0Y)
   (z04 (z20 (z0W zg7 lk2 (qx_v (vg 1 z1s)) z9d (z0H _)) (z0a (z0k (z7D zg7 lk2 (qx_v (vg 0 z1a)) z9d (z0H _)))) z0Y)
   (z04 (z20 (z2g (z7C (T:="str") (by decide) (glg z0w) T.n_isinstance (qx_v (vg 1 z1s)) (z4M (v :=.ty "str") (glg z6o) T.n_str ziI rfl zig ziB))) (z0a (z0k (z83 (z7C (T:="str") (by decide) (glg z0w) T.n_isinstance (qx_v (vg 0 z1a)) (z4M (v :=.ty "str") (glg z6o) T.n_str ziI rfl zig ziB)) (zac (z7D (z3G hu) lk2 (qx_v (vg 0 z1a)) (qx_v (vg 1 z1s)) (z0H _)))))) z0Y)
   (z04 (z20 (z2g (z7C (T:="bool") (by decide) (glg z0w) T.n_isinstance (qx_v (vg 1 z1s)) (z4M (v :=.ty "bool") (glg z3Y) T.n_bool zdu rfl zcX zdi))) (z0a (z0k (z83 (z7C (T:="bool") (by decide) (glg z0w) T.n_isinstance (qx_v (vg 0 z1a)) (z4M (v :=.ty "bool") (glg z3Y) T.n_bool zdu rfl zcX zdi)) (zac (z7D (z3G hu) lk2 (qx_v (vg 0 z1a)) (qx_v (vg 1 z1s)) (z0H _)))))) z0Y)
   (z0a (z0k (z83 (z7C (T:="int") (by decide) (glg z0w) T.n_isinstance (qx_v (vg 0 z1a)) (z4M (v :=.ty "int") (glg z8Z) T.n_int zk2 rfl zjL zjV)) (z83 (zeZ (z7C (T:="bool") (by decide) (glg z0w) T.n_isinstance (qx_v (vg 0 z1a)) (z4M (v :=.ty "bool") (glg z3Y) T.n_bool zdu rfl zcX zdi))) (zac (z7D (z3G hu) lk2 (qx_v (vg 0 z1a)) (qx_v (vg 1 z1s)) (z0H _)))))))))))
noncomputable abbrev z0K:Stmt:=top 37
theorem z22:z0z ["cell","many","bottom","cut","one","two","three","rest","tops"] ["cell","many","bottom"] (z01 z0K):=⟨rfl,rfl,rfl,by decide +kernel,rfl,by decide +kernel,by decide +kernel⟩
theorem z2L:Nm (z01 z0K) "cell":=⟨.inl rfl,by decide,by decide⟩
theorem z3t:Nm (z01 z0K) "many":=⟨.inl rfl,by decide,by decide⟩
theorem z54:Nm (z01 z0K) "bottom":=⟨.inl rfl,by decide,by decide⟩
theorem z3s:Nm (z01 z0K) "cut":=⟨.inl rfl,by decide,by decide⟩
theorem z53:Nm (z01 z0K) "one":=⟨.inl rfl,by decide,by decide⟩
theorem z52:Nm (z01 z0K) "two":=⟨.inl rfl,by decide,by decide⟩
theorem z51:Nm (z01 z0K) "three":=⟨.inl rfl,by decide,by decide⟩
theorem z50:Nm (z01 z0K) "rest":=⟨.inl rfl,by decide,by decide⟩
theorem z1J:Nm (z01 z0K) "tops":=⟨.inl rfl,by decide,by decide⟩
theorem z11:GlS (z01 z0K) "_law_draw":=rfl
theorem z7u:GlS (z01 z0K) "range":=rfl
theorem zah {P:Program}{w:World}{K:W.Frag}{mg:Str->Option Value}{base:Heap}{f:Addr}{fd:FuncData}{cSailError cNoFraction cNoText cNoShares cNoCourse cNoWind cNoDeed:Addr}(T:Txt K mg cSailError cNoFraction cNoText cNoShares cNoCourse cNoWind cNoDeed)(F:Fun K "_law_parts" "_law_parts" z0K f fd)(c__law_draw:Cal P w K mg base (CXe P w) 1 "_law_draw" ["cell","k","many"] (spP K mg z05)):FnOk P w K mg base (CXe P w) 2 f fd ["cell","many","bottom"] (spP K mg z1D):=by
 refine fnN F z22 rfl rfl (fun cdv A outer s H E hr => ?_)
 have hu:=hr.units
 exact(z04 (z08 (ag 3 z22.nd z3s (z0o c__law_draw (hr.mono (by decide)) z0b (z00 (qx_v (vg 0 z2L)) (z00 z03 (z00 (z06 z0r lk2 (qx_v (vg 2 z54)) z03) z02))) (glg z11) z0j)))
   (z04 (z08 (ag 4 z22.nd z53 (z0o c__law_draw (hr.mono (by decide)) z0b (z00 (qx_v (vg 0 z2L)) (z00 z03 (z00 (qx_v (vg 1 z3t)) z02))) (glg z11) z0j)))
   (z04 (z08 (ag 5 z22.nd z52 (z0o c__law_draw (hr.mono (by decide)) z0b (z00 (qx_v (vg 0 z2L)) (z00 z03 (z00 (qx_v (vg 1 z3t)) z02))) (glg z11) z0j)))
   (z04 (z08 (ag 6 z22.nd z51 (z0o c__law_draw (hr.mono (by decide)) z0b (z00 (qx_v (vg 0 z2L)) (z00 z03 (z00 (qx_v (vg 1 z3t)) z02))) (glg z11) z0j)))
   (z04 (z08 (ag 7 z22.nd z50 (z0o c__law_draw (hr.mono (by decide)) z0b (z00 (qx_v (vg 0 z2L)) (z00 z03 (z00 (z06 z0r lk2 (z06 z5H lk2 (qx_v (vg 2 z54)) (qx_v (vg 3 z3s))) z03) z02))) (glg z11) z0j)))
   (z04 (z9c (zcv (iy:=8) (tg:=(.nm 0)) (ct:=none) z22.nd rfl rfl rfl (z62 (glg z7u) T.n_range (z00 (qx_v (vg 1 z3t)) z02)) rfl (z7R.ok (N':=["k"]) (xn:=["cell","many","bottom","cut","one","two","three","rest","tops"]) (nt:=1) (js:=[]) (osc:=z01 z0K) rfl rfl (by decide +kernel)) rfl (fun C s2 H2 fp=>(z84 (i:=0) (show List.Nodup (["k"]:List Str) from by decide) rfl rfl)) trivial (fun C s2 H2 fp=>z03)))
   (z04 (zcq (vg 8 z1J) (qx_v (vg 4 z53)) (z06 z0r lk2 (z0e (qx_v (vg 8 z1J)) (qx_v (vg 4 z53)) (fun _ _=>rfl)) (qx_v (vg 3 z3s))) (fun he hg=>zcw he hg))
   (z04 (zcq (vg 8 z1J) (qx_v (vg 5 z52)) (z06 z0r lk2 (z0e (qx_v (vg 8 z1J)) (qx_v (vg 5 z52)) (fun _ _=>rfl)) (qx_v (vg 7 z50))) (fun he hg=>zcw he hg))
   (z04 (zcq (vg 8 z1J) (qx_v (vg 6 z51)) (z06 z5H lk2 (z06 z5H lk2 (z06 z0r lk2 (z0e (qx_v (vg 8 z1J)) (qx_v (vg 6 z51)) (fun _ _=>rfl)) (qx_v (vg 2 z54))) (qx_v (vg 3 z3s))) (qx_v (vg 7 z50))) (fun he hg=>zcw he hg))
   (z0a (z0k (qx_v (vg 8 z1J)))))))))))))
noncomputable abbrev z0t:Stmt:=top 38
theorem z1H:z0z ["watches","cell","course","k","bottom","tops"] ["watches","cell"] (z01 z0t):=⟨rfl,rfl,rfl,by decide +kernel,rfl,by decide +kernel,by decide +kernel⟩
theorem z4s:Nm (z01 z0t) "watches":=⟨.inl rfl,by decide,by decide⟩
theorem z39:Nm (z01 z0t) "cell":=⟨.inr rfl,by decide,by decide⟩
theorem z4r:Nm (z01 z0t) "course":=⟨.inl rfl,by decide,by decide⟩
theorem z1R:Nm (z01 z0t) "k":=⟨.inr rfl,by decide,by decide⟩
theorem z4q:Nm (z01 z0t) "bottom":=⟨.inr rfl,by decide,by decide⟩
theorem z38:Nm (z01 z0t) "tops":=⟨.inr rfl,by decide,by decide⟩
theorem z1V:GlS (z01 z0t) "_law_draw":=rfl
theorem z5f:GlS (z01 z0t) "_law_parts":=rfl
theorem z2p:GlS (z01 z0t) "len":=rfl
theorem z2N:GlS (z01 z0t) "range":=rfl
theorem z7O:GlS (z01 z0t) "sum":=rfl
theorem z4f:GlS (z01 z0t) "tuple":=rfl
theorem z9E {P:Program}{w:World}{K:W.Frag}{mg:Str->Option Value}{base:Heap}{f:Addr}{fd:FuncData}{cSailError cNoFraction cNoText cNoShares cNoCourse cNoWind cNoDeed:Addr}(T:Txt K mg cSailError cNoFraction cNoText cNoShares cNoCourse cNoWind cNoDeed)(F:Fun K "_law_course" "_law_course" z0t f fd)(c__law_draw:Cal P w K mg base (CXe P w) 1 "_law_draw" ["cell","k","many"] (spP K mg z05))(c__law_lowest:Cal P w K mg base (CXe P w) 1 "_law_lowest" ["row"] (spP K mg z09))(c__law_parts:Cal P w K mg base (CXe P w) 2 "_law_parts" ["cell","many","bottom"] (spP K mg z1D)):FnOk P w K mg base (CXe P w) 3 f fd ["watches","cell"] (spP K mg z0Q):=by
 refine fnN F z1H rfl rfl (fun cdv A outer s H E hr => ?_)
 have hu:=hr.units
 exact(z04 (z9c (ag 2 z1H.nd z4r (z4a z02)))
   (z04 (zbb (g:=(.nm 3)) PassesOwn.never rfl (glg z2N) T.n_range (z00 (z2f z1Z lkN (glg z2p) T.n_len z3B (z00 (qx_v (vg 0 z4s)) z02) z3q z3z) z02) (ng 3 z1H.nd z1R) (z04 (z08 (ag 4 z1H.nd z4q (z06 z0r lk2 z03 (z0o c__law_draw (hr.mono (by decide)) z0b (z00 (qx_v (vg 1 z39)) (z00 (z06 z0r lk2 z03 (qx_v (vg 3 z1R))) (z00 (z0e (QF.qx (z4a (z00 z03 (z00 z03 (z00 z03 z02))))) (z0o c__law_draw (hr.mono (by decide)) z0b (z00 (qx_v (vg 1 z39)) (z00 z03 (z00 z03 z02))) (glg z1V) z0j) (fun _ _=>rfl)) z02))) (glg z1V) z0j))))
   (z04 (zcr (js:=[]) (ag 5 z1H.nd z38 (z0o c__law_parts (hr.mono (by decide)) z0b (z00 (z06 z0r lk2 (qx_v (vg 1 z39)) (z06 z0O lk2 z03 (qx_v (vg 3 z1R)))) (z00 (z2f z1Z lkN (glg z2p) T.n_len z3B (z00 (z0e (z0e (qx_v (vg 0 z4s)) (qx_v (vg 3 z1R)) (fun _ _=>rfl)) z03 (fun _ _=>rfl)) z02) z3q z3z) (z00 (qx_v (vg 4 z4q)) z02))) (glg z5f) zav)))
   (z04 (z20 (z0W (z3G hu) lk2 (z0o c__law_draw (hr.mono (by decide)) z0b (z00 (z06 z0r lk2 (qx_v (vg 1 z39)) (qx_v (vg 3 z1R))) (z00 z03 (z00 z03 z02))) (glg z1V) z0j) z03 (z0H _)) (z04 (zcr (js:=[]) (ag 5 z1H.nd z38 (QF.qx (z6r (tg:=(.nm 0)) (ct:=none) rfl (z62 (glg z2N) T.n_range (z00 (z2f z1Z lkN (glg z2p) T.n_len z3B (z00 (z0e (z0e (qx_v (vg 0 z4s)) (qx_v (vg 3 z1R)) (fun _ _=>rfl)) z03 (fun _ _=>rfl)) z02) z3q z3z) z02)) rfl (z7R.ok (N':=["j","cell","k"]) (xn:=["watches","cell","course","k","bottom","tops"]) (nt:=1) (js:=[1,3]) (osc:=z01 z0t) rfl rfl (by decide +kernel)) rfl (fun C s2 H2 fp=>(z84 (i:=0) (show List.Nodup (["j","cell","k"]:List Str) from by decide) rfl rfl)) trivial (fun C s2 H2 fp=>(z06 z0r lk2 z03 (z0o c__law_draw (hr.mono (by decide)) z0b (z00 (z06 z0r lk2 (qx_v (qv 1)) (qx_v (qv 2))) (z00 (z06 z0r lk2 z03 (qx_v (qv 0))) (z00 z03 z02))) (by rfl) z0j)))))))
   (z0a (z08 (ag 4 z1H.nd z4q (z2f (ziE rfl) lkN (glg z7O) T.n_sum zk1 (z00 (qx_v (vg 5 z38)) z02) zjK zjU))))) z0Y)
   (z0a (zcs (vg 2 z4r) (z00 (z6E z3A lkN (glg z4f) T.n_tuple z44 (z00 (QF.qx (z6r (tg:=(.nm 0)) (ct:=(some _)) rfl (z62 (glg z2N) T.n_range (z00 (z2f z1Z lkN (glg z2p) T.n_len z3B (z00 (qx_v (vg 5 z38)) z02) z3q z3z) z02)) rfl (z7R.ok (N':=["j","bottom","tops"]) (xn:=["watches","cell","course","k","bottom","tops"]) (nt:=1) (js:=[4,5]) (osc:=z01 z0t) rfl rfl (by decide +kernel)) rfl (fun C s2 H2 fp=>(z84 (i:=0) (show List.Nodup (["j","bottom","tops"]:List Str) from by decide) rfl rfl)) (fun C s2 H2 fp=>(z0W (zcN hu) lk2 (z0e (qx_v (qv 2)) (qx_v (qv 0)) (fun _ _=>rfl)) z03 (z0H _))) (fun C s2 H2 fp=>(z0l (z00 (qx_v (qv 0)) (z00 (z0o c__law_lowest (hr.mono (by decide)) z0b (z00 (QF.qx (z4a (z00 (z0e (qx_v (qv 2)) (qx_v (qv 0)) (fun _ _=>rfl)) (z00 (qx_v (qv 1)) z02)))) z02) (by rfl) z2Q) z02)))))) z02) z3H z43) z02)))))))
   (z0a (z0k (z6E z3A lkN (glg z4f) T.n_tuple z44 (z00 (qx_v (vg 2 z4r)) z02) z3H z43)))))
noncomputable abbrev z0J:Stmt:=top 9
theorem z1c:z0z ["one","other","great","small","rest"] ["one","other"] (z01 z0J):=⟨rfl,rfl,rfl,by decide +kernel,rfl,by decide +kernel,by decide +kernel⟩
theorem z72:Nm (z01 z0J) "one":=⟨.inl rfl,by decide,by decide⟩
theorem z71:Nm (z01 z0J) "other":=⟨.inl rfl,by decide,by decide⟩
theorem z1Y:Nm (z01 z0J) "great":=⟨.inl rfl,by decide,by decide⟩
theorem z1t:Nm (z01 z0J) "small":=⟨.inl rfl,by decide,by decide⟩
theorem z4c:Nm (z01 z0J) "rest":=⟨.inl rfl,by decide,by decide⟩
theorem z3l:GlS (z01 z0J) "abs":=rfl
theorem z7p {P:Program}{w:World}{K:W.Frag}{mg:Str->Option Value}{base:Heap}{f:Addr}{fd:FuncData}{cSailError cNoFraction cNoText cNoShares cNoCourse cNoWind cNoDeed:Addr}(T:Txt K mg cSailError cNoFraction cNoText cNoShares cNoCourse cNoWind cNoDeed)(F:Fun K "common_divisor" "common_divisor" z0J f fd):FnOk P w K mg base (CXe P w) 1 f fd ["one","other"] (spP K mg z0i):=by
 refine fnN F z1c rfl rfl (fun cdv A outer s H E hr => ?_)
 have hu:=hr.units
 exact(z04 (z08 (ag 2 z1c.nd z1Y (z2f zdn lkN (glg z3l) T.n_abs zgp (z00 (qx_v (vg 0 z72)) z02) zge zgl)))
   (z04 (z08 (ag 3 z1c.nd z1t (z2f zdn lkN (glg z3l) T.n_abs zgp (z00 (qx_v (vg 1 z71)) z02) zge zgl)))
   (z04 (z7T PassesOwn.never (z0W (zcM hu) lk2 (qx_v (vg 3 z1t)) z03 (z0H _)) (z04 (z08 (ag 4 z1c.nd z4c (z06 z5l lk2 (qx_v (vg 2 z1Y)) (qx_v (vg 3 z1t)))))
   (z04 (z08 (ag 2 z1c.nd z1Y (qx_v (vg 3 z1t))))
   (z0a (z08 (ag 3 z1c.nd z1t (qx_v (vg 4 z4c))))))))
   (z0a (z0k (qx_v (vg 2 z1Y)))))))
noncomputable abbrev s_is_share:Stmt:=top 17
theorem zaJ:z0z ["share"] ["share"] (z01 s_is_share):=⟨rfl,rfl,rfl,by decide +kernel,rfl,by decide +kernel,by decide +kernel⟩
theorem z4b:Nm (z01 s_is_share) "share":=⟨.inl rfl,by decide,by decide⟩
theorem z4y:GlS (z01 s_is_share) "common_divisor":=rfl
theorem zaS {P:Program}{w:World}{K:W.Frag}{mg:Str->Option Value}{base:Heap}{f:Addr}{fd:FuncData}{cSailError cNoFraction cNoText cNoShares cNoCourse cNoWind cNoDeed:Addr}(T:Txt K mg cSailError cNoFraction cNoText cNoShares cNoCourse cNoWind cNoDeed)(F:Fun K "is_share" "is_share" s_is_share f fd)(c_common_divisor:Cal P w K mg base (CXe P w) 1 "common_divisor" ["one","other"] (spP K mg z0i)):FnOk P w K mg base (CXe P w) 2 f fd ["share"] (spP K mg z3E):=by
 refine fnN F zaJ rfl rfl (fun cdv A outer s H E hr => ?_)
 have hu:=hr.units
 exact(z0a (z0k (z83 (z7D (zcN hu) lk2 (z0e (qx_v (vg 0 z4b)) z03 (fun _ _=>rfl)) z03 (z0H _)) (z83 (z7D (zcN hu) lk2 (z0e (qx_v (vg 0 z4b)) z03 (fun _ _=>rfl)) z03 (z0H _)) (zac (z7D (z3G hu) lk2 (z0o c_common_divisor (hr.mono (by decide)) z0b (z00 (z0e (qx_v (vg 0 z4b)) z03 (fun _ _=>rfl)) (z00 (z0e (qx_v (vg 0 z4b)) z03 (fun _ _=>rfl)) z02)) (glg z4y) z0T) z03 (z0H _)))))))
noncomputable abbrev s_are_shares:Stmt:=top 18
theorem z2E:z0z ["wind","shares","ahead","heading","share"] ["wind","shares"] (z01 s_are_shares):=⟨rfl,rfl,rfl,by decide +kernel,rfl,by decide +kernel,by decide +kernel⟩
theorem z8Y:Nm (z01 s_are_shares) "wind":=⟨.inl rfl,by decide,by decide⟩
theorem z8X:Nm (z01 s_are_shares) "shares":=⟨.inl rfl,by decide,by decide⟩
theorem z4t:Nm (z01 s_are_shares) "ahead":=⟨.inl rfl,by decide,by decide⟩
theorem z3a:Nm (z01 s_are_shares) "heading":=⟨.inl rfl,by decide,by decide⟩
theorem z6n:Nm (z01 s_are_shares) "share":=⟨.inl rfl,by decide,by decide⟩
theorem z5U:GlS (z01 s_are_shares) "is_share":=rfl
theorem z7Q:GlS (z01 s_are_shares) "len":=rfl
theorem z9F {P:Program}{w:World}{K:W.Frag}{mg:Str->Option Value}{base:Heap}{f:Addr}{fd:FuncData}{cSailError cNoFraction cNoText cNoShares cNoCourse cNoWind cNoDeed:Addr}(T:Txt K mg cSailError cNoFraction cNoText cNoShares cNoCourse cNoWind cNoDeed)(F:Fun K "are_shares" "are_shares" s_are_shares f fd)(c_is_share:Cal P w K mg base (CXe P w) 2 "is_share" ["share"] (spP K mg z3E)):FnOk P w K mg base (CXe P w) 3 f fd ["wind","shares"] (spP K mg z13):=by
 refine fnN F z2E rfl rfl (fun cdv A outer s H E hr => ?_)
 have hu:=hr.units
 exact(z04 (z08 (ag 2 z2E.nd z4t (zab z7F lk1 z03)))
   (z04 (z5F (js:=[]) (g:=(.tp [3,4])) PassesOwn.never rfl (qi_x (qx_v (vg 1 z8X))) (z6H rfl (z1o (ng 3 z2E.nd z3a) (z1o (ng 4 z2E.nd z6n) z4L))) (z04 (z20 (QW.pt (z6G (z0W (zjy hu) lk2 (qx_v (vg 3 z3a)) (qx_v (vg 2 z4t)) (z0H _)) (z6G (z0W zjz lk2 (qx_v (vg 3 z3a)) (z2f z1Z lkN (glg z7Q) T.n_len z3B (z00 (qx_v (vg 0 z8Y)) z02) z3q z3z) (z0H _)) (z7n (z3h (z2g (z0o c_is_share (hr.mono (by decide)) z0b (z00 (qx_v (vg 4 z6n)) z02) (glg z5U) zbV))))))) (z0a (z0k z6F)) z0Y)
   (z0a (z08 (ag 2 z2E.nd z4t (qx_v (vg 3 z3a)))))))
   (z0a (z0k z6F))))
noncomputable abbrev s_added:Stmt:=top 10
theorem z61:z0z ["one","other","shared","one_times","other_times","top","rest"] ["one","other"] (z01 s_added):=⟨rfl,rfl,rfl,by decide +kernel,rfl,by decide +kernel,by decide +kernel⟩
theorem z8t:Nm (z01 s_added) "one":=⟨.inl rfl,by decide,by decide⟩
theorem z74:Nm (z01 s_added) "other":=⟨.inl rfl,by decide,by decide⟩
theorem z73:Nm (z01 s_added) "shared":=⟨.inl rfl,by decide,by decide⟩
theorem zap:Nm (z01 s_added) "one_times":=⟨.inl rfl,by decide,by decide⟩
theorem z8s:Nm (z01 s_added) "other_times":=⟨.inl rfl,by decide,by decide⟩
theorem z8r:Nm (z01 s_added) "top":=⟨.inl rfl,by decide,by decide⟩
theorem z8q:Nm (z01 s_added) "rest":=⟨.inl rfl,by decide,by decide⟩
theorem z2V:GlS (z01 s_added) "common_divisor":=rfl
theorem zea {P:Program}{w:World}{K:W.Frag}{mg:Str->Option Value}{base:Heap}{f:Addr}{fd:FuncData}{cSailError cNoFraction cNoText cNoShares cNoCourse cNoWind cNoDeed:Addr}(T:Txt K mg cSailError cNoFraction cNoText cNoShares cNoCourse cNoWind cNoDeed)(F:Fun K "added" "added" s_added f fd)(c_common_divisor:Cal P w K mg base (CXe P w) 1 "common_divisor" ["one","other"] (spP K mg z0i)):FnOk P w K mg base (CXe P w) 2 f fd ["one","other"] (spP K mg z6A):=by
 refine fnN F z61 rfl rfl (fun cdv A outer s H E hr => ?_)
 have hu:=hr.units
 exact(z04 (z08 (ag 2 z61.nd z73 (z0o c_common_divisor (hr.mono (by decide)) z0b (z00 (z0e (qx_v (vg 0 z8t)) z03 (fun _ _=>rfl)) (z00 (z0e (qx_v (vg 1 z74)) z03 (fun _ _=>rfl)) z02)) (glg z2V) z0T)))
   (z04 (z08 (ag 3 z61.nd zap (z06 z1T lk2 (z0e (qx_v (vg 1 z74)) z03 (fun _ _=>rfl)) (qx_v (vg 2 z73)))))
   (z04 (z08 (ag 4 z61.nd z8s (z06 z1T lk2 (z0e (qx_v (vg 0 z8t)) z03 (fun _ _=>rfl)) (qx_v (vg 2 z73)))))
   (z04 (z08 (ag 5 z61.nd z8r (z06 z0r lk2 (z06 z0O lk2 (z0e (qx_v (vg 0 z8t)) z03 (fun _ _=>rfl)) (qx_v (vg 3 zap))) (z06 z0O lk2 (z0e (qx_v (vg 1 z74)) z03 (fun _ _=>rfl)) (qx_v (vg 4 z8s))))))
   (z04 (z08 (ag 6 z61.nd z8q (z0o c_common_divisor (hr.mono (by decide)) z0b (z00 (qx_v (vg 2 z73)) (z00 (qx_v (vg 5 z8r)) z02)) (glg z2V) z0T)))
   (z0a (z0k (z0l (z00 (z06 z1T lk2 (qx_v (vg 5 z8r)) (qx_v (vg 6 z8q))) (z00 (z06 z0O lk2 (qx_v (vg 4 z8s)) (z06 z1T lk2 (z0e (qx_v (vg 1 z74)) z03 (fun _ _=>rfl)) (qx_v (vg 6 z8q)))) z02))))))))))
noncomputable abbrev s_shares_sum:Stmt:=top 19
theorem z2C:z0z ["shares","total","heading","share"] ["shares"] (z01 s_shares_sum):=⟨rfl,rfl,rfl,by decide +kernel,rfl,by decide +kernel,by decide +kernel⟩
theorem z8U:Nm (z01 s_shares_sum) "shares":=⟨.inl rfl,by decide,by decide⟩
theorem z34:Nm (z01 s_shares_sum) "total":=⟨.inl rfl,by decide,by decide⟩
theorem z8T:Nm (z01 s_shares_sum) "heading":=⟨.inl rfl,by decide,by decide⟩
theorem z6d:Nm (z01 s_shares_sum) "share":=⟨.inl rfl,by decide,by decide⟩
theorem z75:GlS (z01 s_shares_sum) "added":=rfl
theorem z9z {P:Program}{w:World}{K:W.Frag}{mg:Str->Option Value}{base:Heap}{f:Addr}{fd:FuncData}{cSailError cNoFraction cNoText cNoShares cNoCourse cNoWind cNoDeed:Addr}(T:Txt K mg cSailError cNoFraction cNoText cNoShares cNoCourse cNoWind cNoDeed)(F:Fun K "shares_sum" "shares_sum" s_shares_sum f fd)(c_added:Cal P w K mg base (CXe P w) 2 "added" ["one","other"] (spP K mg z6A)):FnOk P w K mg base (CXe P w) 3 f fd ["shares"] (spP K mg z0C):=by
 refine fnN F z2C rfl rfl (fun cdv A outer s H E hr => ?_)
 have hu:=hr.units
 exact(z04 (z08 (ag 1 z2C.nd z34 (z0l (z00 z03 (z00 z03 z02)))))
   (z04 (z5F (js:=[]) (g:=(.tp [2,3])) PassesOwn.never rfl (qi_x (qx_v (vg 0 z8U))) (z6H rfl (z1o (ng 2 z2C.nd z8T) (z1o (ng 3 z2C.nd z6d) z4L))) (z0a (z08 (ag 1 z2C.nd z34 (z0o c_added (hr.mono (by decide)) z0b (z00 (qx_v (vg 1 z34)) (z00 (qx_v (vg 3 z6d)) z02)) (glg z75) zdj)))))
   (z0a (z0k (qx_v (vg 1 z34))))))
noncomputable abbrev s_is_course:Stmt:=top 22
theorem z5C:z0z ["watches","course","watch","shares"] ["watches","course"] (z01 s_is_course):=⟨rfl,rfl,rfl,by decide +kernel,rfl,by decide +kernel,by decide +kernel⟩
theorem z6Y:Nm (z01 s_is_course) "watches":=⟨.inl rfl,by decide,by decide⟩
theorem z6X:Nm (z01 s_is_course) "course":=⟨.inl rfl,by decide,by decide⟩
theorem z6W:Nm (z01 s_is_course) "watch":=⟨.inl rfl,by decide,by decide⟩
theorem z5a:Nm (z01 s_is_course) "shares":=⟨.inl rfl,by decide,by decide⟩
theorem z5x:GlS (z01 s_is_course) "are_shares":=rfl
theorem z5T:GlS (z01 s_is_course) "len":=rfl
theorem z5w:GlS (z01 s_is_course) "shares_sum":=rfl
theorem z8z:GlS (z01 s_is_course) "zip":=rfl
theorem zai {P:Program}{w:World}{K:W.Frag}{mg:Str->Option Value}{base:Heap}{f:Addr}{fd:FuncData}{cSailError cNoFraction cNoText cNoShares cNoCourse cNoWind cNoDeed:Addr}(T:Txt K mg cSailError cNoFraction cNoText cNoShares cNoCourse cNoWind cNoDeed)(F:Fun K "is_course" "is_course" s_is_course f fd)(c_are_shares:Cal P w K mg base (CXe P w) 3 "are_shares" ["wind","shares"] (spP K mg z13))(c_shares_sum:Cal P w K mg base (CXe P w) 3 "shares_sum" ["shares"] (spP K mg z0C)):FnOk P w K mg base (CXe P w) 4 f fd ["watches","course"] (spP K mg z42):=by
 refine fnN F z5C rfl rfl (fun cdv A outer s H E hr => ?_)
 have hu:=hr.units
 exact(z04 (z20 (z0W (zcM hu) lk2 (z2f z1Z lkN (glg z5T) T.n_len z3B (z00 (qx_v (vg 1 z6X)) z02) z3q z3z) (z2f z1Z lkN (glg z5T) T.n_len z3B (z00 (qx_v (vg 0 z6Y)) z02) z3q z3z) (z0H _)) (z0a (z0k z6F)) z0Y)
   (z04 (z5F (js:=[]) (g:=(.tp [2,3])) PassesOwn.never rfl (zbc (glg z8z) T.n_zip (z00 (qx_v (vg 0 z6Y)) (z00 (qx_v (vg 1 z6X)) z02))) (z6H rfl (z1o (ng 2 z5C.nd z6W) (z1o (ng 3 z5C.nd z5a) z4L))) (z0a (z20 (QW.pt (z6G (z3h (z2g (z0o c_are_shares (hr.mono (by decide)) z0b (z00 (z0e (qx_v (vg 2 z6W)) z03 (fun _ _=>rfl)) (z00 (qx_v (vg 3 z5a)) z02)) (glg z5x) z5X))) (z7n (z0W (zcM hu) lk2 (z0o c_shares_sum (hr.mono (by decide)) z0b (z00 (qx_v (vg 3 z5a)) z02) (glg z5w) z4g) (z0l (z00 z03 (z00 z03 z02))) (z0H _))))) (z0a (z0k z6F)) z0Y)))
   (z0a (z0k z6F))))
noncomputable abbrev s_is_before:Stmt:=top 11
theorem za5:z0z ["one","other"] ["one","other"] (z01 s_is_before):=⟨rfl,rfl,rfl,by decide +kernel,rfl,by decide +kernel,by decide +kernel⟩
theorem z70:Nm (z01 s_is_before) "one":=⟨.inl rfl,by decide,by decide⟩
theorem z6Z:Nm (z01 s_is_before) "other":=⟨.inl rfl,by decide,by decide⟩
theorem zaj {P:Program}{w:World}{K:W.Frag}{mg:Str->Option Value}{base:Heap}{f:Addr}{fd:FuncData}{cSailError cNoFraction cNoText cNoShares cNoCourse cNoWind cNoDeed:Addr}(T:Txt K mg cSailError cNoFraction cNoText cNoShares cNoCourse cNoWind cNoDeed)(F:Fun K "is_before" "is_before" s_is_before f fd):FnOk P w K mg base (CXe P w) 1 f fd ["one","other"] (spP K mg z31):=by
 refine fnN F za5 rfl rfl (fun cdv A outer s H E hr => ?_)
 have hu:=hr.units
 exact(z0a (z0k (z7D (zbO hu) lk2 (z06 z0O lk2 (z0e (qx_v (vg 0 z70)) z03 (fun _ _=>rfl)) (z0e (qx_v (vg 1 z6Z)) z03 (fun _ _=>rfl))) (z06 z0O lk2 (z0e (qx_v (vg 1 z6Z)) z03 (fun _ _=>rfl)) (z0e (qx_v (vg 0 z70)) z03 (fun _ _=>rfl))) (z0H _))))
noncomputable abbrev z0n:Stmt:=top 25
theorem z2D:z0z ["watches","course","last","shares"] ["watches","course"] (z01 z0n):=⟨rfl,rfl,rfl,by decide +kernel,rfl,by decide +kernel,by decide +kernel⟩
theorem z2u:Nm (z01 z0n) "watches":=⟨.inl rfl,by decide,by decide⟩
theorem z1i:Nm (z01 z0n) "course":=⟨.inl rfl,by decide,by decide⟩
theorem z1h:Nm (z01 z0n) "last":=⟨.inl rfl,by decide,by decide⟩
theorem z1L:Nm (z01 z0n) "shares":=⟨.inl rfl,by decide,by decide⟩
theorem z3y:GlS (z01 z0n) "are_shares":=rfl
theorem z40:GlS (z01 z0n) "is_before":=rfl
theorem z3Z:GlS (z01 z0n) "is_course":=rfl
theorem z12:GlS (z01 z0n) "len":=rfl
theorem z3x:GlS (z01 z0n) "shares_sum":=rfl
theorem z6M {P:Program}{w:World}{K:W.Frag}{mg:Str->Option Value}{base:Heap}{f:Addr}{fd:FuncData}{cSailError cNoFraction cNoText cNoShares cNoCourse cNoWind cNoDeed:Addr}(T:Txt K mg cSailError cNoFraction cNoText cNoShares cNoCourse cNoWind cNoDeed)(F:Fun K "is_short_course" "is_short_course" z0n f fd)(c_is_before:Cal P w K mg base (CXe P w) 1 "is_before" ["one","other"] (spP K mg z31))(c_are_shares:Cal P w K mg base (CXe P w) 3 "are_shares" ["wind","shares"] (spP K mg z13))(c_shares_sum:Cal P w K mg base (CXe P w) 3 "shares_sum" ["shares"] (spP K mg z0C))(c_is_course:Cal P w K mg base (CXe P w) 4 "is_course" ["watches","course"] (spP K mg z42)):FnOk P w K mg base (CXe P w) 5 f fd ["watches","course"] (spP K mg z0N):=by
 refine fnN F z2D rfl rfl (fun cdv A outer s H E hr => ?_)
 have hu:=hr.units
 exact(z04 (z20 (z0W (z3G hu) lk2 (z2f z1Z lkN (glg z12) T.n_len z3B (z00 (qx_v (vg 1 z1i)) z02) z3q z3z) z03 (z0H _)) (z0a (z0k z6F)) z0Y)
   (z04 (z20 (z0W (zcN hu) lk2 (z2f z1Z lkN (glg z12) T.n_len z3B (z00 (qx_v (vg 1 z1i)) z02) z3q z3z) (z2f z1Z lkN (glg z12) T.n_len z3B (z00 (qx_v (vg 0 z2u)) z02) z3q z3z) (z0H _)) (z0a (z0k z6F)) z0Y)
   (z04 (z08 (ag 2 z2D.nd z1h (z06 z5H lk2 (z2f z1Z lkN (glg z12) T.n_len z3B (z00 (qx_v (vg 1 z1i)) z02) z3q z3z) z03)))
   (z04 (z08 (ag 3 z2D.nd z1L (z0e (qx_v (vg 1 z1i)) (qx_v (vg 2 z1h)) (fun _ _=>rfl))))
   (z04 (z20 (QW.pt (z6G (z0W (z3G hu) lk2 (z2f z1Z lkN (glg z12) T.n_len z3B (z00 (qx_v (vg 3 z1L)) z02) z3q z3z) z03 (z0H _)) (z6G (z3h (z2g (z0o c_are_shares (hr.mono (by decide)) z0b (z00 (z0e (z0e (qx_v (vg 0 z2u)) (qx_v (vg 2 z1h)) (fun _ _=>rfl)) z03 (fun _ _=>rfl)) (z00 (qx_v (vg 3 z1L)) z02)) (glg z3y) z5X))) (z7n (z2g (z0o c_is_before (hr.mono (by decide)) z0b (z00 (z0l (z00 z03 (z00 z03 z02))) (z00 (z0o c_shares_sum (hr.mono (by decide)) z0b (z00 (qx_v (vg 3 z1L)) z02) (glg z3x) z4g) z02)) (glg z40) zaY)))))) (z0a (z0k z6F)) z0Y)
   (z0a (z0k (z0o c_is_course (hr.mono (by decide)) z0b (z00 (z82 (qx_v (vg 0 z2u)) z4K (z2X (qx_v (vg 2 z1h)))) (z00 (z82 (qx_v (vg 1 z1i)) z4K (z2X (qx_v (vg 2 z1h)))) z02)) (glg z3Z) zaX))))))))
noncomputable abbrev s_lowest_place:Stmt:=top 13
theorem z5B:z0z ["x","y","bottom","divisor"] ["x","y","bottom"] (z01 s_lowest_place):=⟨rfl,rfl,rfl,by decide +kernel,rfl,by decide +kernel,by decide +kernel⟩
theorem z5p:Nm (z01 s_lowest_place) "x":=⟨.inl rfl,by decide,by decide⟩
theorem z5o:Nm (z01 s_lowest_place) "y":=⟨.inl rfl,by decide,by decide⟩
theorem z5n:Nm (z01 s_lowest_place) "bottom":=⟨.inl rfl,by decide,by decide⟩
theorem z2o:Nm (z01 s_lowest_place) "divisor":=⟨.inl rfl,by decide,by decide⟩
theorem z1P:GlS (z01 s_lowest_place) "common_divisor":=rfl
theorem z89 {P:Program}{w:World}{K:W.Frag}{mg:Str->Option Value}{base:Heap}{f:Addr}{fd:FuncData}{cSailError cNoFraction cNoText cNoShares cNoCourse cNoWind cNoDeed:Addr}(T:Txt K mg cSailError cNoFraction cNoText cNoShares cNoCourse cNoWind cNoDeed)(F:Fun K "lowest_place" "lowest_place" s_lowest_place f fd)(c_common_divisor:Cal P w K mg base (CXe P w) 1 "common_divisor" ["one","other"] (spP K mg z0i)):FnOk P w K mg base (CXe P w) 2 f fd ["x","y","bottom"] (spP K mg z2m):=by
 refine fnN F z5B rfl rfl (fun cdv A outer s H E hr => ?_)
 have hu:=hr.units
 exact(z04 (z08 (ag 3 z5B.nd z2o (z0o c_common_divisor (hr.mono (by decide)) z0b (z00 (z0o c_common_divisor (hr.mono (by decide)) z0b (z00 (qx_v (vg 2 z5n)) (z00 (qx_v (vg 0 z5p)) z02)) (glg z1P) z0T) (z00 (qx_v (vg 1 z5o)) z02)) (glg z1P) z0T)))
   (z0a (z0k (z0l (z00 (z06 z1T lk2 (qx_v (vg 0 z5p)) (qx_v (vg 3 z2o))) (z00 (z06 z1T lk2 (qx_v (vg 1 z5o)) (qx_v (vg 3 z2o))) (z00 (z06 z1T lk2 (qx_v (vg 2 z5n)) (qx_v (vg 3 z2o))) z02)))))))
noncomputable abbrev s_place_times:Stmt:=top 15
theorem z8K:z0z ["place","fraction"] ["place","fraction"] (z01 s_place_times):=⟨rfl,rfl,rfl,by decide +kernel,rfl,by decide +kernel,by decide +kernel⟩
theorem z3L:Nm (z01 s_place_times) "place":=⟨.inl rfl,by decide,by decide⟩
theorem z3K:Nm (z01 s_place_times) "fraction":=⟨.inl rfl,by decide,by decide⟩
theorem z45:GlS (z01 s_place_times) "lowest_place":=rfl
theorem z8N {P:Program}{w:World}{K:W.Frag}{mg:Str->Option Value}{base:Heap}{f:Addr}{fd:FuncData}{cSailError cNoFraction cNoText cNoShares cNoCourse cNoWind cNoDeed:Addr}(T:Txt K mg cSailError cNoFraction cNoText cNoShares cNoCourse cNoWind cNoDeed)(F:Fun K "place_times" "place_times" s_place_times f fd)(c_lowest_place:Cal P w K mg base (CXe P w) 2 "lowest_place" ["x","y","bottom"] (spP K mg z2m)):FnOk P w K mg base (CXe P w) 3 f fd ["place","fraction"] (spP K mg z1N):=by
 refine fnN F z8K rfl rfl (fun cdv A outer s H E hr => ?_)
 have hu:=hr.units
 exact(z0a (z0k (z0o c_lowest_place (hr.mono (by decide)) z0b (z00 (z06 z0O lk2 (z0e (qx_v (vg 0 z3L)) z03 (fun _ _=>rfl)) (z0e (qx_v (vg 1 z3K)) z03 (fun _ _=>rfl))) (z00 (z06 z0O lk2 (z0e (qx_v (vg 0 z3L)) z03 (fun _ _=>rfl)) (z0e (qx_v (vg 1 z3K)) z03 (fun _ _=>rfl))) (z00 (z06 z0O lk2 (z0e (qx_v (vg 0 z3L)) z03 (fun _ _=>rfl)) (z0e (qx_v (vg 1 z3K)) z03 (fun _ _=>rfl))) z02))) (glg z45) z93)))
noncomputable abbrev s_place_added:Stmt:=top 14
theorem z1w:z0z ["one","other","shared","one_times","other_times","x","y","rest"] ["one","other"] (z01 s_place_added):=⟨rfl,rfl,rfl,by decide +kernel,rfl,by decide +kernel,by decide +kernel⟩
theorem z2I:Nm (z01 s_place_added) "one":=⟨.inl rfl,by decide,by decide⟩
theorem z23:Nm (z01 s_place_added) "other":=⟨.inl rfl,by decide,by decide⟩
theorem z2H:Nm (z01 s_place_added) "shared":=⟨.inl rfl,by decide,by decide⟩
theorem z3O:Nm (z01 s_place_added) "one_times":=⟨.inl rfl,by decide,by decide⟩
theorem z2G:Nm (z01 s_place_added) "other_times":=⟨.inl rfl,by decide,by decide⟩
theorem z3N:Nm (z01 s_place_added) "x":=⟨.inl rfl,by decide,by decide⟩
theorem z3M:Nm (z01 s_place_added) "y":=⟨.inl rfl,by decide,by decide⟩
theorem z2F:Nm (z01 s_place_added) "rest":=⟨.inl rfl,by decide,by decide⟩
theorem z18:GlS (z01 s_place_added) "common_divisor":=rfl
theorem z8O {P:Program}{w:World}{K:W.Frag}{mg:Str->Option Value}{base:Heap}{f:Addr}{fd:FuncData}{cSailError cNoFraction cNoText cNoShares cNoCourse cNoWind cNoDeed:Addr}(T:Txt K mg cSailError cNoFraction cNoText cNoShares cNoCourse cNoWind cNoDeed)(F:Fun K "place_added" "place_added" s_place_added f fd)(c_common_divisor:Cal P w K mg base (CXe P w) 1 "common_divisor" ["one","other"] (spP K mg z0i)):FnOk P w K mg base (CXe P w) 2 f fd ["one","other"] (spP K mg z1u):=by
 refine fnN F z1w rfl rfl (fun cdv A outer s H E hr => ?_)
 have hu:=hr.units
 exact(z04 (z08 (ag 2 z1w.nd z2H (z0o c_common_divisor (hr.mono (by decide)) z0b (z00 (z0e (qx_v (vg 0 z2I)) z03 (fun _ _=>rfl)) (z00 (z0e (qx_v (vg 1 z23)) z03 (fun _ _=>rfl)) z02)) (glg z18) z0T)))
   (z04 (z08 (ag 3 z1w.nd z3O (z06 z1T lk2 (z0e (qx_v (vg 1 z23)) z03 (fun _ _=>rfl)) (qx_v (vg 2 z2H)))))
   (z04 (z08 (ag 4 z1w.nd z2G (z06 z1T lk2 (z0e (qx_v (vg 0 z2I)) z03 (fun _ _=>rfl)) (qx_v (vg 2 z2H)))))
   (z04 (z08 (ag 5 z1w.nd z3N (z06 z0r lk2 (z06 z0O lk2 (z0e (qx_v (vg 0 z2I)) z03 (fun _ _=>rfl)) (qx_v (vg 3 z3O))) (z06 z0O lk2 (z0e (qx_v (vg 1 z23)) z03 (fun _ _=>rfl)) (qx_v (vg 4 z2G))))))
   (z04 (z08 (ag 6 z1w.nd z3M (z06 z0r lk2 (z06 z0O lk2 (z0e (qx_v (vg 0 z2I)) z03 (fun _ _=>rfl)) (qx_v (vg 3 z3O))) (z06 z0O lk2 (z0e (qx_v (vg 1 z23)) z03 (fun _ _=>rfl)) (qx_v (vg 4 z2G))))))
   (z04 (z08 (ag 7 z1w.nd z2F (z0o c_common_divisor (hr.mono (by decide)) z0b (z00 (z0o c_common_divisor (hr.mono (by decide)) z0b (z00 (qx_v (vg 2 z2H)) (z00 (qx_v (vg 5 z3N)) z02)) (glg z18) z0T) (z00 (qx_v (vg 6 z3M)) z02)) (glg z18) z0T)))
   (z0a (z0k (z0l (z00 (z06 z1T lk2 (qx_v (vg 5 z3N)) (qx_v (vg 7 z2F))) (z00 (z06 z1T lk2 (qx_v (vg 6 z3M)) (qx_v (vg 7 z2F))) (z00 (z06 z0O lk2 (qx_v (vg 4 z2G)) (z06 z1T lk2 (z0e (qx_v (vg 1 z23)) z03 (fun _ _=>rfl)) (qx_v (vg 7 z2F)))) z02))))))))))))
noncomputable abbrev s_shares_end:Stmt:=top 20
theorem z2a:z0z ["wind","shares","end","heading","share","vector"] ["wind","shares"] (z01 s_shares_end):=⟨rfl,rfl,rfl,by decide +kernel,rfl,by decide +kernel,by decide +kernel⟩
theorem z6h:Nm (z01 s_shares_end) "wind":=⟨.inl rfl,by decide,by decide⟩
theorem z6g:Nm (z01 s_shares_end) "shares":=⟨.inl rfl,by decide,by decide⟩
theorem z35:Nm (z01 s_shares_end) "end":=⟨.inl rfl,by decide,by decide⟩
theorem z6f:Nm (z01 s_shares_end) "heading":=⟨.inl rfl,by decide,by decide⟩
theorem z6e:Nm (z01 s_shares_end) "share":=⟨.inl rfl,by decide,by decide⟩
theorem z4l:Nm (z01 s_shares_end) "vector":=⟨.inl rfl,by decide,by decide⟩
theorem z5O:GlS (z01 s_shares_end) "NoShares":=rfl
theorem z5c:GlS (z01 s_shares_end) "are_shares":=rfl
theorem z4D:GlS (z01 s_shares_end) "place_added":=rfl
theorem z4C:GlS (z01 s_shares_end) "place_times":=rfl
theorem z9A {P:Program}{w:World}{K:W.Frag}{mg:Str->Option Value}{base:Heap}{f:Addr}{fd:FuncData}{cSailError cNoFraction cNoText cNoShares cNoCourse cNoWind cNoDeed:Addr}(T:Txt K mg cSailError cNoFraction cNoText cNoShares cNoCourse cNoWind cNoDeed)(F:Fun K "shares_end" "shares_end" s_shares_end f fd)(c_place_added:Cal P w K mg base (CXe P w) 2 "place_added" ["one","other"] (spP K mg z1u))(c_place_times:Cal P w K mg base (CXe P w) 3 "place_times" ["place","fraction"] (spP K mg z1N))(c_are_shares:Cal P w K mg base (CXe P w) 3 "are_shares" ["wind","shares"] (spP K mg z13)):FnOk P w K mg base (CXe P w) 4 f fd ["wind","shares"] (spP K mg z3f):=by
 refine fnE F z2a rfl rfl (fun cdv A outer s H E hr => ?_)
 have hu:=hr.units
 exact(z04 (z20 (z3h (z2g (z0o c_are_shares (hr.mono (by decide)) zaQ (z00 (qx_v (vg 0 z6h)) (z00 (qx_v (vg 1 z6g)) z02)) (glg z5c) z5X))) (z0a (zba T.x_NoShares (glg z5O) z9j)) z0Y)
   (z04 (z08 (ag 2 z2a.nd z35 (z0l (z00 z03 (z00 z03 (z00 z03 z02))))))
   (z04 (zaO (z5F (js:=[]) (g:=(.tp [3,4])) PassesOwn.never rfl (qi_x (qx_v (vg 1 z6g))) (z6H rfl (z1o (ng 3 z2a.nd z6f) (z1o (ng 4 z2a.nd z6e) z4L))) (z04 (z08 (ag 5 z2a.nd z4l (z0e (qx_v (vg 0 z6h)) (qx_v (vg 3 z6f)) (fun _ _=>rfl))))
   (z0a (z08 (ag 2 z2a.nd z35 (z0o c_place_added (hr.mono (by decide)) z0b (z00 (qx_v (vg 2 z35)) (z00 (z0o c_place_times (hr.mono (by decide)) z0b (z00 (z0l (z00 (z0e (qx_v (vg 5 z4l)) z03 (fun _ _=>rfl)) (z00 (z0e (qx_v (vg 5 z4l)) z03 (fun _ _=>rfl)) (z00 z03 z02)))) (z00 (qx_v (vg 4 z6e)) z02)) (glg z4C) z7c) z02)) (glg z4D) z5h)))))))
   (z0a (z0k (qx_v (vg 2 z35)))))))
noncomputable abbrev s_short_end:Stmt:=top 26
theorem z21:z0z ["watches","course","end","watch","shares","stream","carried"] ["watches","course"] (z01 s_short_end):=⟨rfl,rfl,rfl,by decide +kernel,rfl,by decide +kernel,by decide +kernel⟩
theorem z6T:Nm (z01 s_short_end) "watches":=⟨.inl rfl,by decide,by decide⟩
theorem z6S:Nm (z01 s_short_end) "course":=⟨.inl rfl,by decide,by decide⟩
theorem z3r:Nm (z01 s_short_end) "end":=⟨.inl rfl,by decide,by decide⟩
theorem z4X:Nm (z01 s_short_end) "watch":=⟨.inl rfl,by decide,by decide⟩
theorem z4W:Nm (z01 s_short_end) "shares":=⟨.inl rfl,by decide,by decide⟩
theorem z4V:Nm (z01 s_short_end) "stream":=⟨.inl rfl,by decide,by decide⟩
theorem z6R:Nm (z01 s_short_end) "carried":=⟨.inl rfl,by decide,by decide⟩
theorem z68:GlS (z01 s_short_end) "NoCourse":=rfl
theorem z3V:GlS (z01 s_short_end) "is_short_course":=rfl
theorem z2M:GlS (z01 s_short_end) "place_added":=rfl
theorem z5b:GlS (z01 s_short_end) "place_times":=rfl
theorem z5t:GlS (z01 s_short_end) "shares_end":=rfl
theorem z5s:GlS (z01 s_short_end) "shares_sum":=rfl
theorem z8v:GlS (z01 s_short_end) "zip":=rfl
theorem zaf {P:Program}{w:World}{K:W.Frag}{mg:Str->Option Value}{base:Heap}{f:Addr}{fd:FuncData}{cSailError cNoFraction cNoText cNoShares cNoCourse cNoWind cNoDeed:Addr}(T:Txt K mg cSailError cNoFraction cNoText cNoShares cNoCourse cNoWind cNoDeed)(F:Fun K "short_end" "short_end" s_short_end f fd)(c_place_added:Cal P w K mg base (CXe P w) 2 "place_added" ["one","other"] (spP K mg z1u))(c_place_times:Cal P w K mg base (CXe P w) 3 "place_times" ["place","fraction"] (spP K mg z1N))(c_shares_sum:Cal P w K mg base (CXe P w) 3 "shares_sum" ["shares"] (spP K mg z0C))(c_shares_end:Cal P w K mg base (CXe P w) 4 "shares_end" ["wind","shares"] (spP K mg z3f))(c_is_short_course:Cal P w K mg base (CXe P w) 5 "is_short_course" ["watches","course"] (spP K mg z0N)):FnOk P w K mg base (CXe P w) 6 f fd ["watches","course"] (spP K mg z1x):=by
 refine fnE F z21 rfl rfl (fun cdv A outer s H E hr => ?_)
 have hu:=hr.units
 exact(z04 (z20 (z3h (z2g (z0o c_is_short_course (hr.mono (by decide)) zaQ (z00 (qx_v (vg 0 z6T)) (z00 (qx_v (vg 1 z6S)) z02)) (glg z3V) z7A))) (z0a (zba T.x_NoCourse (glg z68) z9k)) z0Y)
   (z04 (z08 (ag 2 z21.nd z3r (z0l (z00 z03 (z00 z03 (z00 z03 z02))))))
   (z04 (zaO (z5F (js:=[]) (g:=(.tp [3,4])) PassesOwn.never rfl (zbc (glg z8v) T.n_zip (z00 (qx_v (vg 0 z6T)) (z00 (qx_v (vg 1 z6S)) z02))) (z6H rfl (z1o (ng 3 z21.nd z4X) (z1o (ng 4 z21.nd z4W) z4L))) (z04 (z08 (ag 5 z21.nd z4V (z0e (qx_v (vg 3 z4X)) z03 (fun _ _=>rfl))))
   (z04 (z08 (ag 6 z21.nd z6R (z0o c_place_times (hr.mono (by decide)) z0b (z00 (z0l (z00 (z0e (qx_v (vg 5 z4V)) z03 (fun _ _=>rfl)) (z00 (z0e (qx_v (vg 5 z4V)) z03 (fun _ _=>rfl)) (z00 z03 z02)))) (z00 (z0o c_shares_sum (hr.mono (by decide)) z0b (z00 (qx_v (vg 4 z4W)) z02) (glg z5s) z4g) z02)) (glg z5b) z7c)))
   (z0a (z08 (ag 2 z21.nd z3r (z0o c_place_added (hr.mono (by decide)) z0b (z00 (qx_v (vg 2 z3r)) (z00 (z0o c_place_added (hr.mono (by decide)) z0b (z00 (z0o c_shares_end (hr.mono (by decide)) z0b (z00 (z0e (qx_v (vg 3 z4X)) z03 (fun _ _=>rfl)) (z00 (qx_v (vg 4 z4W)) z02)) (glg z5t) zat) (z00 (qx_v (vg 6 z6R)) z02)) (glg z2M) z5h) z02)) (glg z2M) z5h))))))))
   (z0a (z0k (qx_v (vg 2 z3r)))))))
noncomputable abbrev z19:Stmt:=top 24
theorem z2B:z0z ["course","moment","shares"] ["course"] (z01 z19):=⟨rfl,rfl,rfl,by decide +kernel,rfl,by decide +kernel,by decide +kernel⟩
theorem z7L:Nm (z01 z19) "course":=⟨.inl rfl,by decide,by decide⟩
theorem z2n:Nm (z01 z19) "moment":=⟨.inl rfl,by decide,by decide⟩
theorem z5m:Nm (z01 z19) "shares":=⟨.inl rfl,by decide,by decide⟩
theorem z67:GlS (z01 z19) "added":=rfl
theorem z4u:GlS (z01 z19) "shares_sum":=rfl
theorem z88 {P:Program}{w:World}{K:W.Frag}{mg:Str->Option Value}{base:Heap}{f:Addr}{fd:FuncData}{cSailError cNoFraction cNoText cNoShares cNoCourse cNoWind cNoDeed:Addr}(T:Txt K mg cSailError cNoFraction cNoText cNoShares cNoCourse cNoWind cNoDeed)(F:Fun K "short_moment" "short_moment" z19 f fd)(c_added:Cal P w K mg base (CXe P w) 2 "added" ["one","other"] (spP K mg z6A))(c_shares_sum:Cal P w K mg base (CXe P w) 3 "shares_sum" ["shares"] (spP K mg z0C)):FnOk P w K mg base (CXe P w) 4 f fd ["course"] (spP K mg z1S):=by
 refine fnN F z2B rfl rfl (fun cdv A outer s H E hr => ?_)
 have hu:=hr.units
 exact(z04 (z08 (ag 1 z2B.nd z2n (z0l (z00 z03 (z00 z03 z02)))))
   (z04 (z5F (js:=[]) (g:=(.nm 2)) PassesOwn.never rfl (qi_x (qx_v (vg 0 z7L))) (ng 2 z2B.nd z5m) (z0a (z08 (ag 1 z2B.nd z2n (z0o c_added (hr.mono (by decide)) z0b (z00 (qx_v (vg 1 z2n)) (z00 (z0o c_shares_sum (hr.mono (by decide)) z0b (z00 (qx_v (vg 2 z5m)) z02) (glg z4u) z4g) z02)) (glg z67) zdj)))))
   (z0a (z0k (qx_v (vg 1 z2n))))))
noncomputable abbrev z1q:Stmt:=top 44
theorem z2b:z0z ["course","total","shares","j","share"] ["course"] (z01 z1q):=⟨rfl,rfl,rfl,by decide +kernel,rfl,by decide +kernel,by decide +kernel⟩
theorem z8W:Nm (z01 z1q) "course":=⟨.inl rfl,by decide,by decide⟩
theorem z37:Nm (z01 z1q) "total":=⟨.inl rfl,by decide,by decide⟩
theorem z6j:Nm (z01 z1q) "shares":=⟨.inl rfl,by decide,by decide⟩
theorem z8V:Nm (z01 z1q) "j":=⟨.inl rfl,by decide,by decide⟩
theorem z6i:Nm (z01 z1q) "share":=⟨.inl rfl,by decide,by decide⟩
theorem z5Q:GlS (z01 z1q) "_law_sum":=rfl
theorem z9C {P:Program}{w:World}{K:W.Frag}{mg:Str->Option Value}{base:Heap}{f:Addr}{fd:FuncData}{cSailError cNoFraction cNoText cNoShares cNoCourse cNoWind cNoDeed:Addr}(T:Txt K mg cSailError cNoFraction cNoText cNoShares cNoCourse cNoWind cNoDeed)(F:Fun K "_law_moment" "_law_moment" z1q f fd)(c__law_sum:Cal P w K mg base (CXe P w) 2 "_law_sum" ["one","other"] (spP K mg z1l)):FnOk P w K mg base (CXe P w) 3 f fd ["course"] (spP K mg z1v):=by
 refine fnN F z2b rfl rfl (fun cdv A outer s H E hr => ?_)
 have hu:=hr.units
 exact(z04 (z08 (ag 1 z2b.nd z37 (z0l (z00 z03 (z00 z03 z02)))))
   (z04 (z5F (js:=[]) (g:=(.nm 2)) PassesOwn.never rfl (qi_x (qx_v (vg 0 z8W))) (ng 2 z2b.nd z6j) (z0a (z5F (js:=[]) (g:=(.tp [3,4])) PassesOwn.never rfl (qi_x (qx_v (vg 2 z6j))) (z6H rfl (z1o (ng 3 z2b.nd z8V) (z1o (ng 4 z2b.nd z6i) z4L))) (z0a (z08 (ag 1 z2b.nd z37 (z0o c__law_sum (hr.mono (by decide)) z0b (z00 (qx_v (vg 1 z37)) (z00 (qx_v (vg 4 z6i)) z02)) (glg z5Q) z9h)))))))
   (z0a (z0k (qx_v (vg 1 z37))))))
noncomputable abbrev z0D:Stmt:=top 46
theorem z33:z0z ["watches","course","caught","e"] ["watches","course"] (z01 z0D):=⟨rfl,rfl,rfl,by decide +kernel,rfl,by decide +kernel,by decide +kernel⟩
theorem z1A:Nm (z01 z0D) "caught":=⟨.inl rfl,by decide,by decide⟩
theorem z5v:GlS (z01 z0D) "NoCourse":=rfl
theorem z6b:GlS (z01 z0D) "NoDeed":=rfl
theorem z4H:GlS (z01 z0D) "NoFraction":=rfl
theorem z5u:GlS (z01 z0D) "NoShares":=rfl
theorem z6a:GlS (z01 z0D) "NoText":=rfl
theorem z69:GlS (z01 z0D) "NoWind":=rfl
theorem z5e:GlS (z01 z0D) "SailError":=rfl
theorem z4G:GlS (z01 z0D) "ValueError":=rfl
theorem z1B:GlS (z01 z0D) "isinstance":=rfl
theorem z5d:GlS (z01 z0D) "short_end":=rfl
theorem z8Q {P:Program}{w:World}{K:W.Frag}{mg:Str->Option Value}{base:Heap}{f:Addr}{fd:FuncData}{cSailError cNoFraction cNoText cNoShares cNoCourse cNoWind cNoDeed:Addr}(T:Txt K mg cSailError cNoFraction cNoText cNoShares cNoCourse cNoWind cNoDeed)(F:Fun K "_law_refused" "_law_refused" z0D f fd)(c_short_end:Cal P w K mg base (CXe P w) 6 "short_end" ["watches","course"] (spP K mg z1x)):FnOk P w K mg base (CXe P w) 7 f fd ["watches","course"] (spP K mg z1m):=by
 refine fnN F z33 rfl rfl (fun cdv A outer s H E hr => ?_)
 have hu:=hr.units
 exact(z04 (z08 (ag 2 z33.nd z1A z9d))
   (z04 (zh3 (xs:=["NoCourse","NoShares"]) ⟨rfl,rfl⟩ c_short_end (hr.mono (by decide)) (fun pins xe=>(z00 (qx_v (qv 0)) (z00 (qx_v (qv 1)) z02))) (glg z5d) z5g z33.nd rfl rfl T.x_SailError (glg z5e) zaZ (z2z T.x_NoCourse.nm T.m_NoCourse_SailError (z2z T.x_NoShares.nm T.m_NoShares_SailError z7W)) (fun ea=>(z0a (zfB (i:=2) z33.nd rfl z1A.loc (qx_v (qv 3))))))
   (z04 (z20 (QW.pt (z6G (z0W zg7 lk2 (qx_v (vg 2 z1A)) z9d (z0H _)) (z6G (z3h (z2g (zfE (xs:=["NoCourse","NoShares"]) (f:=(fun x=>(x == "NoCourse"))) (glg z1B) T.n_isinstance (qx_v (vg 2 z1A)) (glg z5v) T.x_NoCourse z9k (z2z T.x_NoCourse.nm T.l_NoCourse (z2z T.x_NoShares.nm T.l_NoShares z7W)) (z2z T.x_NoCourse.nm T.i_NoCourse_NoCourse (z2z T.x_NoShares.nm T.i_NoShares_NoCourse z7W))))) (z7n (z3h (z2g (zfC (T:="ValueError") (xs:=["NoCourse","NoShares"]) (f:=(fun _=>true)) (glg z1B) T.n_isinstance (qx_v (vg 2 z1A)) (z4M (v :=.ty "ValueError") (glg z4G) T.n_ValueError zaF rfl zal zaw) (z2z T.x_NoCourse.nm T.l_NoCourse (z2z T.x_NoShares.nm T.l_NoShares z7W)) (z2z T.x_NoCourse.nm T.i_NoCourse_ValueError (z2z T.x_NoShares.nm T.i_NoShares_ValueError z7W))))))))) (z0a (z0k z6F)) z0Y)
   (z0a (z0k (zeZ (zfD (cs:=[cNoDeed,cNoFraction,cNoShares,cNoText,cNoWind]) (xs:=["NoCourse","NoShares"]) (f:=(fun x=>(x == "NoShares"))) (glg z1B) T.n_isinstance (qx_v (vg 2 z1A)) (z6I (glg z6b) T.x_NoDeed zeD (z6I (glg z4H) T.x_NoFraction zax (z6I (glg z5u) T.x_NoShares z9j (z6I (glg z6a) T.x_NoText zeC (z6I (glg z69) T.x_NoWind zeB zfO))))) (by show 5<=sizeLine; decide) (z2z T.x_NoCourse.nm T.l_NoCourse (z2z T.x_NoShares.nm T.l_NoShares z7W)) (z2z T.x_NoCourse.nm T.i_NoCourse_t_NoDeed_NoFraction_NoShares_NoText_NoWind (z2z T.x_NoShares.nm T.i_NoShares_t_NoDeed_NoFraction_NoShares_NoText_NoWind z7W)))))))))
noncomputable abbrev z0h:Stmt:=top 41
theorem z16:z0z ["shares","way","many","heading","share","rest","half"] ["shares","way","many"] (z01 z0h):=⟨rfl,rfl,rfl,by decide +kernel,rfl,by decide +kernel,by decide +kernel⟩
theorem z0L:Nm (z01 z0h) "shares":=⟨.inl rfl,by decide,by decide⟩
theorem z0p:Nm (z01 z0h) "way":=⟨.inl rfl,by decide,by decide⟩
theorem z5L:Nm (z01 z0h) "many":=⟨.inl rfl,by decide,by decide⟩
theorem z0v:Nm (z01 z0h) "heading":=⟨.inl rfl,by decide,by decide⟩
theorem z0d:Nm (z01 z0h) "share":=⟨.inl rfl,by decide,by decide⟩
theorem z0u:Nm (z01 z0h) "rest":=⟨.inl rfl,by decide,by decide⟩
theorem z24:Nm (z01 z0h) "half":=⟨.inl rfl,by decide,by decide⟩
theorem z3v:GlS (z01 z0h) "reversed":=rfl
theorem z4w:GlS (z01 z0h) "tuple":=rfl
theorem z66 {P:Program}{w:World}{K:W.Frag}{mg:Str->Option Value}{base:Heap}{f:Addr}{fd:FuncData}{cSailError cNoFraction cNoText cNoShares cNoCourse cNoWind cNoDeed:Addr}(T:Txt K mg cSailError cNoFraction cNoText cNoShares cNoCourse cNoWind cNoDeed)(F:Fun K "_law_spoilt_shares" "_law_spoilt_shares" z0h f fd):FnOk P w K mg base (CXe P w) 1 f fd ["shares","way","many"] (spP K mg z0I):=by
 refine fnN F z16 rfl rfl (fun cdv A outer s H E hr => ?_)
 have hu:=hr.units
 exact(z04 (z08 (ag 3 z16.nd z0v (z0e (z0e (qx_v (vg 0 z0L)) z03 (fun _ _=>rfl)) z03 (fun _ _=>rfl))))
   (z04 (z08 (ag 4 z16.nd z0d (z0e (z0e (qx_v (vg 0 z0L)) z03 (fun _ _=>rfl)) z03 (fun _ _=>rfl))))
   (z04 (z08 (ag 5 z16.nd z0u (z82 (qx_v (vg 0 z0L)) (z2X z03) z4K)))
   (z04 (z20 (z0W (z3G hu) lk2 (qx_v (vg 1 z0p)) z03 (z0H _)) (z0a (z0k (z0l z02))) z0Y)
   (z04 (z20 (z0W (z3G hu) lk2 (qx_v (vg 1 z0p)) z03 (z0H _)) (z0a (z0k (z06 z0r lk2 (z82 (qx_v (vg 0 z0L)) z4K (z2X (zab z7F lk1 z03))) (z0l (z00 (z0l (z00 (qx_v (vg 2 z5L)) (z00 (z0e (z0e (qx_v (vg 0 z0L)) (zab z7F lk1 z03) (fun _ _=>rfl)) z03 (fun _ _=>rfl)) z02))) z02))))) z0Y)
   (z04 (z20 (z0W (z3G hu) lk2 (qx_v (vg 1 z0p)) z03 (z0H _)) (z0a (z0k (z06 z0r lk2 (z0l (z00 (z0l (z00 (zab z7F lk1 z03) (z00 (qx_v (vg 4 z0d)) z02))) z02)) (qx_v (vg 5 z0u))))) z0Y)
   (z04 (z20 (z0W (z3G hu) lk2 (qx_v (vg 1 z0p)) z03 (z0H _)) (z04 (z08 (ag 6 z16.nd z24 (z0l (z00 (z0e (qx_v (vg 4 z0d)) z03 (fun _ _=>rfl)) (z00 (z06 z0O lk2 z03 (z0e (qx_v (vg 4 z0d)) z03 (fun _ _=>rfl))) z02)))))
   (z0a (z0k (z06 z0r lk2 (z0l (z00 (z0l (z00 (qx_v (vg 3 z0v)) (z00 (qx_v (vg 6 z24)) z02))) (z00 (z0l (z00 (qx_v (vg 3 z0v)) (z00 (qx_v (vg 6 z24)) z02))) z02))) (qx_v (vg 5 z0u)))))) z0Y)
   (z04 (z20 (z0W (z3G hu) lk2 (qx_v (vg 1 z0p)) z03 (z0H _)) (z0a (z0k (z06 z0r lk2 (z7K rfl (glg z4w) T.n_tuple (glg z3v) T.n_reversed (z00 (qx_v (vg 0 z0L)) z02)) (z0l (z00 (z0l (z00 z03 (z00 (z0l (z00 z03 (z00 z03 z02))) z02))) z02))))) z0Y)
   (z04 (z20 (z0W (z3G hu) lk2 (qx_v (vg 1 z0p)) z03 (z0H _)) (z0a (z0k (z06 z0r lk2 (z0l (z00 (z0l (z00 (qx_v (vg 3 z0v)) (z00 (z0l (z00 z03 (z00 z03 z02))) z02))) z02)) (qx_v (vg 5 z0u))))) z0Y)
   (z04 (z20 (z0W (z3G hu) lk2 (qx_v (vg 1 z0p)) z03 (z0H _)) (z0a (z0k (z06 z0r lk2 (z0l (z00 (z0l (z00 (qx_v (vg 3 z0v)) (z00 (z0l (z00 (z06 z0O lk2 z03 (z0e (qx_v (vg 4 z0d)) z03 (fun _ _=>rfl))) (z00 (z06 z0O lk2 z03 (z0e (qx_v (vg 4 z0d)) z03 (fun _ _=>rfl))) z02))) z02))) z02)) (qx_v (vg 5 z0u))))) z0Y)
   (z04 (z20 (z0W (z3G hu) lk2 (qx_v (vg 1 z0p)) z03 (z0H _)) (z0a (z0k (z06 z0r lk2 (z0l (z00 (z0l (z00 (qx_v (vg 3 z0v)) (z00 (z0l (z00 (z0e (qx_v (vg 4 z0d)) z03 (fun _ _=>rfl)) (z00 z03 z02))) z02))) z02)) (qx_v (vg 5 z0u))))) z0Y)
   (z04 (z20 (z0W (z3G hu) lk2 (qx_v (vg 1 z0p)) z03 (z0H _)) (z0a (z0k (z06 z0r lk2 (z0l (z00 (z0l (z00 (qx_v (vg 3 z0v)) (z00 (z0l (z00 (zab z7F lk1 (z0e (qx_v (vg 4 z0d)) z03 (fun _ _=>rfl))) (z00 (z0e (qx_v (vg 4 z0d)) z03 (fun _ _=>rfl)) z02))) z02))) z02)) (qx_v (vg 5 z0u))))) z0Y)
   (z0a (z0k (z06 z0r lk2 (z0l (z00 (z0l (z00 (qx_v (vg 3 z0v)) (z00 (z0l (z00 (z06 z0r lk2 (z0e (qx_v (vg 4 z0d)) z03 (fun _ _=>rfl)) (z0e (qx_v (vg 4 z0d)) z03 (fun _ _=>rfl))) (z00 (z0e (qx_v (vg 4 z0d)) z03 (fun _ _=>rfl)) z02))) z02))) z02)) (qx_v (vg 5 z0u)))))))))))))))))
noncomputable abbrev z0V:Stmt:=top 45
theorem z2W:z0z ["watches","course","cell","way","whole","half","at","fault","other"] ["watches","course","cell"] (z01 z0V):=⟨rfl,rfl,rfl,by decide +kernel,rfl,by decide +kernel,by decide +kernel⟩
theorem z8m:Nm (z01 z0V) "watches":=⟨.inl rfl,by decide,by decide⟩
theorem z2t:Nm (z01 z0V) "course":=⟨.inl rfl,by decide,by decide⟩
theorem z57:Nm (z01 z0V) "cell":=⟨.inl rfl,by decide,by decide⟩
theorem z6w:Nm (z01 z0V) "way":=⟨.inl rfl,by decide,by decide⟩
theorem z8l:Nm (z01 z0V) "whole":=⟨.inl rfl,by decide,by decide⟩
theorem z8k:Nm (z01 z0V) "half":=⟨.inl rfl,by decide,by decide⟩
theorem z3T:Nm (z01 z0V) "at":=⟨.inl rfl,by decide,by decide⟩
theorem z8j:Nm (z01 z0V) "fault":=⟨.inl rfl,by decide,by decide⟩
theorem z8i:Nm (z01 z0V) "other":=⟨.inl rfl,by decide,by decide⟩
theorem z5R:GlS (z01 z0V) "_law_course":=rfl
theorem z2v:GlS (z01 z0V) "_law_draw":=rfl
theorem z3w:GlS (z01 z0V) "_law_spoilt_shares":=rfl
theorem z78:GlS (z01 z0V) "len":=rfl
theorem z8y:GlS (z01 z0V) "tuple":=rfl
theorem zbM {P:Program}{w:World}{K:W.Frag}{mg:Str->Option Value}{base:Heap}{f:Addr}{fd:FuncData}{cSailError cNoFraction cNoText cNoShares cNoCourse cNoWind cNoDeed:Addr}(T:Txt K mg cSailError cNoFraction cNoText cNoShares cNoCourse cNoWind cNoDeed)(F:Fun K "_law_bad" "_law_bad" z0V f fd)(c__law_draw:Cal P w K mg base (CXe P w) 1 "_law_draw" ["cell","k","many"] (spP K mg z05))(c__law_lowest:Cal P w K mg base (CXe P w) 1 "_law_lowest" ["row"] (spP K mg z09))(c__law_course:Cal P w K mg base (CXe P w) 3 "_law_course" ["watches","cell"] (spP K mg z0Q))(c__law_spoilt_shares:Cal P w K mg base (CXe P w) 1 "_law_spoilt_shares" ["shares","way","many"] (spP K mg z0I)):FnOk P w K mg base (CXe P w) 4 f fd ["watches","course","cell"] (spP K mg z28):=by
 refine fnN F z2W rfl rfl (fun cdv A outer s H E hr => ?_)
 have hu:=hr.units
 exact(z04 (z08 (ag 3 z2W.nd z6w (z0o c__law_draw (hr.mono (by decide)) z0b (z00 (qx_v (vg 2 z57)) (z00 z03 (z00 z03 z02))) (glg z2v) z0j)))
   (z04 (z20 (QW.pt (z6G (z0W (z3G hu) lk2 (qx_v (vg 3 z6w)) z03 (z0H _)) (z7n (z0W (z3G hu) lk2 (qx_v (vg 1 z2t)) (z0l z02) (z0H _))))) (z0a (z0k (z06 z0r lk2 (qx_v (vg 1 z2t)) (z0l (z00 (z0l z02) z02))))) z0Y)
   (z04 (z20 (z0W (z3G hu) lk2 (qx_v (vg 3 z6w)) z03 (z0H _)) (z04 (z08 (ag 4 z2W.nd z8l (z0o c__law_course (hr.mono (by decide)) z0b (z00 (qx_v (vg 0 z8m)) (z00 (qx_v (vg 2 z57)) z02)) (glg z5R) z7e)))
   (z04 (z08 (ag 5 z2W.nd z8k (z6E z3A lkN (glg z8y) T.n_tuple z44 (z00 (QF.qx (z6r (tg:=(.tp [0,1])) (ct:=none) rfl (qi_x (z0e (qx_v (vg 4 z8l)) z03 (fun _ _=>rfl))) rfl (z7R.ok (N':=["j","share"]) (xn:=["watches","course","cell","way","whole","half","at","fault","other"]) (nt:=2) (js:=[]) (osc:=z01 z0V) rfl rfl (by decide +kernel)) rfl (fun C s2 H2 fp=>(z6H rfl (z1o (zcx (i:=0) (show List.Nodup (["j","share"]:List Str) from by decide) rfl rfl) (z1o (zcx (i:=1) (show List.Nodup (["j","share"]:List Str) from by decide) rfl rfl) z4L)))) trivial (fun C s2 H2 fp=>(z0l (z00 (qx_v (qv 0)) (z00 (z0o c__law_lowest (hr.mono (by decide)) z0b (z00 (QF.qx (z4a (z00 (z0e (qx_v (qv 1)) z03 (fun _ _=>rfl)) (z00 (z06 z0O lk2 z03 (z0e (qx_v (qv 1)) z03 (fun _ _=>rfl))) z02)))) z02) (by rfl) z2Q) z02)))))) z02) z3H z43)))
   (z0a (z0k (z06 z0r lk2 (z0l (z00 (qx_v (vg 5 z8k)) z02)) (qx_v (vg 1 z2t))))))) z0Y)
   (z04 (z08 (ag 6 z2W.nd z3T (z0o c__law_draw (hr.mono (by decide)) z0b (z00 (qx_v (vg 2 z57)) (z00 z03 (z00 (z2f z1Z lkN (glg z78) T.n_len z3B (z00 (qx_v (vg 1 z2t)) z02) z3q z3z) z02))) (glg z2v) z0j)))
   (z04 (z08 (ag 7 z2W.nd z8j (z06 z0r lk2 z03 (z0o c__law_draw (hr.mono (by decide)) z0b (z00 (qx_v (vg 2 z57)) (z00 z03 (z00 z03 z02))) (glg z2v) z0j))))
   (z04 (z08 (ag 8 z2W.nd z8i (z0o c__law_spoilt_shares (hr.mono (by decide)) z0b (z00 (z0e (qx_v (vg 1 z2t)) (qx_v (vg 6 z3T)) (fun _ _=>rfl)) (z00 (qx_v (vg 7 z8j)) (z00 (z2f z1Z lkN (glg z78) T.n_len z3B (z00 (z0e (z0e (qx_v (vg 0 z8m)) (qx_v (vg 6 z3T)) (fun _ _=>rfl)) z03 (fun _ _=>rfl)) z02) z3q z3z) z02))) (glg z3w) z6c)))
   (z0a (z0k (z06 z0r lk2 (z06 z0r lk2 (z82 (qx_v (vg 1 z2t)) z4K (z2X (qx_v (vg 6 z3T)))) (z0l (z00 (qx_v (vg 8 z8i)) z02))) (z82 (qx_v (vg 1 z2t)) (z2X (z06 z0r lk2 (qx_v (vg 6 z3T)) z03)) z4K))))))))))
noncomputable abbrev z5r:Stmt:=top 47
theorem za4:z0z ["script","watches","cell","course","due"] ["script"] (z01 z5r):=⟨rfl,rfl,rfl,by decide +kernel,rfl,by decide +kernel,by decide +kernel⟩
theorem zd6:Nm (z01 z5r) "script":=⟨.inl rfl,by decide,by decide⟩
theorem z59:Nm (z01 z5r) "watches":=⟨.inl rfl,by decide,by decide⟩
theorem z9K:Nm (z01 z5r) "cell":=⟨.inl rfl,by decide,by decide⟩
theorem z6y:Nm (z01 z5r) "course":=⟨.inl rfl,by decide,by decide⟩
theorem zaU:Nm (z01 z5r) "due":=⟨.inl rfl,by decide,by decide⟩
theorem z92:GlS (z01 z5r) "_law_bad":=rfl
theorem z7x:GlS (z01 z5r) "_law_course":=rfl
theorem z91:GlS (z01 z5r) "_law_end":=rfl
theorem z7w:GlS (z01 z5r) "_law_moment":=rfl
theorem z7a:GlS (z01 z5r) "_law_refused":=rfl
theorem z26:GlS (z01 z5r) "_law_same":=rfl
theorem z7P:GlS (z01 z5r) "_law_short":=rfl
theorem z79:GlS (z01 z5r) "_law_watches":=rfl
theorem z3X:GlS (z01 z5r) "short_end":=rfl
theorem z4d:GlS (z01 z5r) "short_moment":=rfl
theorem zhS {P:Program}{w:World}{K:W.Frag}{mg:Str->Option Value}{base:Heap}{f:Addr}{fd:FuncData}{cSailError cNoFraction cNoText cNoShares cNoCourse cNoWind cNoDeed:Addr}(T:Txt K mg cSailError cNoFraction cNoText cNoShares cNoCourse cNoWind cNoDeed)(F:Fun K "law" "law" z5r f fd)(c_short_moment:Cal P w K mg base (CXe P w) 4 "short_moment" ["course"] (spP K mg z1S))(c_short_end:Cal P w K mg base (CXe P w) 6 "short_end" ["watches","course"] (spP K mg z1x))(c__law_watches:Cal P w K mg base (CXe P w) 3 "_law_watches" ["script"] (spP K mg z1k))(c__law_same:Cal P w K mg base (CXe P w) 4 "_law_same" ["found","due"] (spP K mg z0S))(c__law_course:Cal P w K mg base (CXe P w) 3 "_law_course" ["watches","cell"] (spP K mg z0Q))(c__law_end:Cal P w K mg base (CXe P w) 3 "_law_end" ["watches","course"] (spP K mg z27))(c__law_short:Cal P w K mg base (CXe P w) 2 "_law_short" ["course","cell"] (spP K mg z1C))(c__law_moment:Cal P w K mg base (CXe P w) 3 "_law_moment" ["course"] (spP K mg z1v))(c__law_bad:Cal P w K mg base (CXe P w) 4 "_law_bad" ["watches","course","cell"] (spP K mg z28))(c__law_refused:Cal P w K mg base (CXe P w) 7 "_law_refused" ["watches","course"] (spP K mg z1m)):FnOk P w K mg base (CXe P w) 8 f fd ["script"] (spP K mg z8E):=by
 refine fnE F za4 rfl rfl (fun cdv A outer s H E hr => ?_)
 have hu:=hr.units
 exact(z04 (z08 (ag 1 za4.nd z59 (z0o c__law_watches (hr.mono (by decide)) zaQ (z00 (qx_v (vg 0 zd6)) z02) (glg z79) z94)))
   (z04 (zaO (z5F (js:=[]) (g:=(.nm 2)) PassesOwn.never rfl (qi_x (z82 (z06 z0r lk2 (QF.qx (z4a (z00 z03 z02))) (qx_v (vg 0 zd6))) (z2X (zab z7F lk1 z03)) z4K)) (ng 2 za4.nd z9K) (z04 (z08 (ag 3 za4.nd z6y (z0o c__law_short (hr.mono (by decide)) z0b (z00 (z0o c__law_course (hr.mono (by decide)) z0b (z00 (qx_v (vg 1 z59)) (z00 (qx_v (vg 2 z9K)) z02)) (glg z7x) z7e) (z00 (qx_v (vg 2 z9K)) z02)) (glg z7P) zau)))
   (z04 (z08 (ag 4 za4.nd zaU (z0o c__law_end (hr.mono (by decide)) z0b (z00 (qx_v (vg 1 z59)) (z00 (qx_v (vg 3 z6y)) z02)) (glg z91) zbW)))
   (z04 (z20 (z3h (z2g (z0o c__law_same (hr.mono (by decide)) z0b (z00 (z0o c_short_end (hr.mono (by decide)) z0b (z00 (qx_v (vg 1 z59)) (z00 (qx_v (vg 3 z6y)) z02)) (glg z3X) z5g) (z00 (qx_v (vg 4 zaU)) z02)) (glg z26) z32))) (z0a (z0k z6F)) z0Y)
   (z04 (z20 (z3h (z2g (z0o c__law_same (hr.mono (by decide)) z0b (z00 (z0o c_short_moment (hr.mono (by decide)) z0b (z00 (qx_v (vg 3 z6y)) z02) (glg z4d) z6p) (z00 (z0o c__law_moment (hr.mono (by decide)) z0b (z00 (qx_v (vg 3 z6y)) z02) (glg z7w) z9U) z02)) (glg z26) z32))) (z0a (z0k z6F)) z0Y)
   (z04 (z20 (QW.pt (zaP (z0W (zcM hu) lk2 (qx_v (vg 1 z59)) (z0l z02) (z0H _)) (z9v (z3h (z2g (z0o c__law_refused (hr.mono (by decide)) z0b (z00 (qx_v (vg 1 z59)) (z00 (z0o c__law_bad (hr.mono (by decide)) z0b (z00 (qx_v (vg 1 z59)) (z00 (qx_v (vg 3 z6y)) (z00 (qx_v (vg 2 z9K)) z02))) (glg z92) zbX) z02)) (glg z7a) z95)))))) (z0a (z0k z6F)) z0Y)
   (z0a (z20 (z3h (z2g (z0o c__law_same (hr.mono (by decide)) z0b (z00 (z0o c_short_end (hr.mono (by decide)) z0b (z00 (qx_v (vg 1 z59)) (z00 (qx_v (vg 3 z6y)) z02)) (glg z3X) z5g) (z00 (qx_v (vg 4 zaU)) z02)) (glg z26) z32))) (z0a (z0k z6F)) z0Y)))))))))
   (z0a (z0k (z83 (z0o c__law_same (hr.mono (by decide)) zaQ (z00 (z0o c_short_end (hr.mono (by decide)) zaQ (z00 (qx_v (vg 1 z59)) (z00 (z0l z02) z02)) (glg z3X) z5g) (z00 (z0l (z00 z03 (z00 z03 (z00 z03 z02)))) z02)) (glg z26) z32) (zac (z0o c__law_same (hr.mono (by decide)) zaQ (z00 (z0o c_short_moment (hr.mono (by decide)) zaQ (z00 (z0l z02) z02) (glg z4d) z6p) (z00 (z0l (z00 z03 (z00 z03 z02))) z02)) (glg z26) z32)))))))
theorem ziL {l:PySem.W.OpenLaw}{w:World}{K:W.Frag}{h:Heap}{mg:Str->Option Value}{fa f0 f1 f2 f3 f4 f5 f6 f7 f8 f9 f10 f11 f12 f13 f14 f15 f16 f17 f18 f19 f20 f21 f22 f23 f24 f25 f26 f27 f28 f29 f30 f31 f32:Addr}(X:K.In h)(G:h.Ns mainGlobals mg)(hfa:mg "law"=some (.ref fa))
  (d0:Std K "_law_cell_at" z2d f0)
  (d1:Std K "_law_free_vector" z1d f1)
  (d2:Std K "_law_free_watches" z0c f2)
  (d3:Std K "_law_draw" z2x f3)
  (d4:Std K "_law_vector" z1F f4)
  (d5:Std K "_law_watches" z0g f5)
  (d6:Std K "_law_lowest" z10 f6)
  (d7:Std K "_law_short" z0X f7)
  (d8:Std K "_law_add" z2k f8)
  (d9:Std K "_law_sum" z4z f9)
  (d10:Std K "_law_end" s_law_end f10)
  (d11:Std K "_law_same" z14 f11)
  (d12:Std K "_law_parts" z0K f12)
  (d13:Std K "_law_course" z0t f13)
  (d14:Std K "common_divisor" z0J f14)
  (d15:Std K "is_share" s_is_share f15)
  (d16:Std K "are_shares" s_are_shares f16)
  (d17:Std K "added" s_added f17)
  (d18:Std K "shares_sum" s_shares_sum f18)
  (d19:Std K "is_course" s_is_course f19)
  (d20:Std K "is_before" s_is_before f20)
  (d21:Std K "is_short_course" z0n f21)
  (d22:Std K "lowest_place" s_lowest_place f22)
  (d23:Std K "place_times" s_place_times f23)
  (d24:Std K "place_added" s_place_added f24)
  (d25:Std K "shares_end" s_shares_end f25)
  (d26:Std K "short_end" s_short_end f26)
  (d27:Std K "short_moment" z19 f27)
  (d28:Std K "_law_moment" z1q f28)
  (d29:Std K "_law_refused" z0D f29)
  (d30:Std K "_law_spoilt_shares" z0h f30)
  (d31:Std K "_law_bad" z0V f31)
  (d32:Std K "law" z5r f32)
  (z_ValueError:PySem.W.nsIn K mainGlobals "ValueError"=some none)
  (z_abs:PySem.W.nsIn K mainGlobals "abs"=some none)
  (z_all:PySem.W.nsIn K mainGlobals "all"=some none)
  (z_bool:PySem.W.nsIn K mainGlobals "bool"=some none)
  (z_int:PySem.W.nsIn K mainGlobals "int"=some none)
  (z_isinstance:PySem.W.nsIn K mainGlobals "isinstance"=some none)
  (z_len:PySem.W.nsIn K mainGlobals "len"=some none)
  (z_min:PySem.W.nsIn K mainGlobals "min"=some none)
  (z_range:PySem.W.nsIn K mainGlobals "range"=some none)
  (z_reversed:PySem.W.nsIn K mainGlobals "reversed"=some none)
  (z_str:PySem.W.nsIn K mainGlobals "str"=some none)
  (z_sum:PySem.W.nsIn K mainGlobals "sum"=some none)
  (z_tuple:PySem.W.nsIn K mainGlobals "tuple"=some none)
  (z_zip:PySem.W.nsIn K mainGlobals "zip"=some none)
  {cSailError:Addr}(aa_SailError:PySem.W.nsIn K mainGlobals "SailError"=some (some (.ref cSailError))) (xx_SailError:PySem.W.excIn K cSailError [.type "ValueError",.type "Exception",.type "BaseException",.type "object"] "ValueError.__new__"=true)
  {cNoFraction:Addr}(aa_NoFraction:PySem.W.nsIn K mainGlobals "NoFraction"=some (some (.ref cNoFraction))) (xx_NoFraction:PySem.W.excIn K cNoFraction [.type "ValueError",.type "Exception",.type "BaseException",.type "object"] "ValueError.__new__"=true)
  {cNoText:Addr}(aa_NoText:PySem.W.nsIn K mainGlobals "NoText"=some (some (.ref cNoText))) (xx_NoText:PySem.W.excIn K cNoText [.type "ValueError",.type "Exception",.type "BaseException",.type "object"] "ValueError.__new__"=true)
  {cNoShares:Addr}(aa_NoShares:PySem.W.nsIn K mainGlobals "NoShares"=some (some (.ref cNoShares))) (xx_NoShares:PySem.W.excIn K cNoShares [.type "ValueError",.type "Exception",.type "BaseException",.type "object"] "ValueError.__new__"=true)
  {cNoCourse:Addr}(aa_NoCourse:PySem.W.nsIn K mainGlobals "NoCourse"=some (some (.ref cNoCourse))) (xx_NoCourse:PySem.W.excIn K cNoCourse [.type "ValueError",.type "Exception",.type "BaseException",.type "object"] "ValueError.__new__"=true)
  {cNoWind:Addr}(aa_NoWind:PySem.W.nsIn K mainGlobals "NoWind"=some (some (.ref cNoWind))) (xx_NoWind:PySem.W.excIn K cNoWind [.type "ValueError",.type "Exception",.type "BaseException",.type "object"] "ValueError.__new__"=true)
  {cNoDeed:Addr}(aa_NoDeed:PySem.W.nsIn K mainGlobals "NoDeed"=some (some (.ref cNoDeed))) (xx_NoDeed:PySem.W.excIn K cNoDeed [.type "ValueError",.type "Exception",.type "BaseException",.type "object"] "ValueError.__new__"=true)
  (ff_m_NoCourse_SailError:PySem.W.exmOne K (.ref cNoCourse) (.ref cSailError)=some true)
  (ff_m_NoShares_SailError:PySem.W.exmOne K (.ref cNoShares) (.ref cSailError)=some true)
  (ff_l_NoCourse:z2P K cNoCourse=true)
  (ff_l_NoShares:z2P K cNoShares=true)
  (ff_i_NoCourse_ValueError:PySem.W.kitOne K (.ref cNoCourse) (.type "ValueError")=some true)
  (ff_i_NoShares_ValueError:PySem.W.kitOne K (.ref cNoShares) (.type "ValueError")=some true)
  (ff_i_NoCourse_NoCourse:PySem.W.kitOne K (.ref cNoCourse) (.ref cNoCourse)=some true)
  (ff_i_NoShares_NoCourse:PySem.W.kitOne K (.ref cNoShares) (.ref cNoCourse)=some false)
  (ff_i_NoCourse_t_NoDeed_NoFraction_NoShares_NoText_NoWind:PySem.W.kitAny K (.ref cNoCourse) [.ref cNoDeed,.ref cNoFraction,.ref cNoShares,.ref cNoText,.ref cNoWind]=some false)
  (ff_i_NoShares_t_NoDeed_NoFraction_NoShares_NoText_NoWind:PySem.W.kitAny K (.ref cNoShares) [.ref cNoDeed,.ref cNoFraction,.ref cNoShares,.ref cNoText,.ref cNoWind]=some true)
  : ∃ fd:FuncData,(∀ (s:Shared) (v:Value),BindsTo s fd ⟨[v],[]⟩ [("script",v)])/\∀ base:Heap,K.In base->base.Ns mainGlobals mg->FnOk l.prog w K mg base (CXe l.prog w) 8 fa fd ["script"] (spL K):=by
 have T:Txt K mg cSailError cNoFraction cNoText cNoShares cNoCourse cNoWind cNoDeed:=⟨trivial,PySem.W.mg_none_of X G z_ValueError,PySem.W.mg_none_of X G z_abs,PySem.W.mg_none_of X G z_all,PySem.W.mg_none_of X G z_bool,PySem.W.mg_none_of X G z_int,PySem.W.mg_none_of X G z_isinstance,PySem.W.mg_none_of X G z_len,PySem.W.mg_none_of X G z_min,PySem.W.mg_none_of X G z_range,PySem.W.mg_none_of X G z_reversed,PySem.W.mg_none_of X G z_str,PySem.W.mg_none_of X G z_sum,PySem.W.mg_none_of X G z_tuple,PySem.W.mg_none_of X G z_zip,⟨PySem.W.mg_of X G aa_SailError,_,_,_,PySem.F.excBase_ValueError,xx_SailError⟩,⟨PySem.W.mg_of X G aa_NoFraction,_,_,_,PySem.F.excBase_ValueError,xx_NoFraction⟩,⟨PySem.W.mg_of X G aa_NoText,_,_,_,PySem.F.excBase_ValueError,xx_NoText⟩,⟨PySem.W.mg_of X G aa_NoShares,_,_,_,PySem.F.excBase_ValueError,xx_NoShares⟩,⟨PySem.W.mg_of X G aa_NoCourse,_,_,_,PySem.F.excBase_ValueError,xx_NoCourse⟩,⟨PySem.W.mg_of X G aa_NoWind,_,_,_,PySem.F.excBase_ValueError,xx_NoWind⟩,⟨PySem.W.mg_of X G aa_NoDeed,_,_,_,PySem.F.excBase_ValueError,xx_NoDeed⟩,ff_m_NoCourse_SailError,ff_m_NoShares_SailError,ff_l_NoCourse,ff_l_NoShares,ff_i_NoCourse_ValueError,ff_i_NoShares_ValueError,ff_i_NoCourse_NoCourse,ff_i_NoShares_NoCourse,ff_i_NoCourse_t_NoDeed_NoFraction_NoShares_NoText_NoWind,ff_i_NoShares_t_NoDeed_NoFraction_NoShares_NoText_NoWind⟩
 refine zgB X G d32 hfa (fun _ _ _ _ _ _ s v =>.of_eq rfl) fun base kb nb fd F => ?_
 have C_law_cell_at:Cal l.prog w K mg base (CXe l.prog w) 1 "_law_cell_at" ["script","k"] (spP K mg z1n):=z0Z X G d0 (fun _ _ _ _ _ _ us hl=>match us,hl with | [_,_],_=>rfl) fun _ F=>z8R T F
 have C_law_free_vector:Cal l.prog w K mg base (CXe l.prog w) 1 "_law_free_vector" ["cell","far"] (spP K mg z0y):=z0Z X G d1 (fun _ _ _ _ _ _ us hl=>match us,hl with | [_,_],_=>rfl) fun _ F=>z6L T F
 have C_law_free_watches:Cal l.prog w K mg base (CXe l.prog w) 2 "_law_free_watches" ["script"] (spP K mg z0M):=z0Z X G d2 (fun _ _ _ _ _ _ us hl=>match us,hl with | [_],_=>rfl) fun _ F=>z6s T F C_law_free_vector
 have C_law_draw:Cal l.prog w K mg base (CXe l.prog w) 1 "_law_draw" ["cell","k","many"] (spP K mg z05):=z0Z X G d3 (fun _ _ _ _ _ _ us hl=>match us,hl with | [_,_,_],_=>rfl) fun _ F=>zaR T F
 have C_law_vector:Cal l.prog w K mg base (CXe l.prog w) 2 "_law_vector" ["cell","far","line"] (spP K mg z15):=z0Z X G d4 (fun _ _ _ _ _ _ us hl=>match us,hl with | [_,_,_],_=>rfl) fun _ F=>z9B T F C_law_draw
 have C_law_watches:Cal l.prog w K mg base (CXe l.prog w) 3 "_law_watches" ["script"] (spP K mg z1k):=z0Z X G d5 (fun _ _ _ _ _ _ us hl=>match us,hl with | [_],_=>rfl) fun _ F=>z8P T F C_law_cell_at C_law_draw C_law_vector C_law_free_watches
 have C_law_lowest:Cal l.prog w K mg base (CXe l.prog w) 1 "_law_lowest" ["row"] (spP K mg z09):=z0Z X G d6 (fun _ _ _ _ _ _ us hl=>match us,hl with | [_],_=>rfl) fun _ F=>z9D T F
 have C_law_short:Cal l.prog w K mg base (CXe l.prog w) 2 "_law_short" ["course","cell"] (spP K mg z1C):=z0Z X G d7 (fun _ _ _ _ _ _ us hl=>match us,hl with | [_,_],_=>rfl) fun _ F=>zag T F C_law_draw C_law_lowest
 have C_law_add:Cal l.prog w K mg base (CXe l.prog w) 2 "_law_add" ["place","vector","share"] (spP K mg z1E):=z0Z X G d8 (fun _ _ _ _ _ _ us hl=>match us,hl with | [_,_,_],_=>rfl) fun _ F=>zbN T F C_law_lowest
 have C_law_sum:Cal l.prog w K mg base (CXe l.prog w) 2 "_law_sum" ["one","other"] (spP K mg z1l):=z0Z X G d9 (fun _ _ _ _ _ _ us hl=>match us,hl with | [_,_],_=>rfl) fun _ F=>zbK T F C_law_lowest
 have C_law_end:Cal l.prog w K mg base (CXe l.prog w) 3 "_law_end" ["watches","course"] (spP K mg z27):=z0Z X G d10 (fun _ _ _ _ _ _ us hl=>match us,hl with | [_,_],_=>rfl) fun _ F=>zbL T F C_law_sum C_law_add
 have C_law_same:Cal l.prog w K mg base (CXe l.prog w) 0 "_law_same" ["found","due"] (spP K mg (z0m 0)):=z0Z X G d11 (fun _ _ _ _ _ _ us hl=>match us,hl with | [_,_],_=>rfl) fun _ _=>ziv
 have C_law_same:Cal l.prog w K mg base (CXe l.prog w) 1 "_law_same" ["found","due"] (spP K mg (z0m 1)):=z0Z X G d11 (fun _ _ _ _ _ _ us hl=>match us,hl with | [_,_],_=>rfl) fun _ F=>z4P T F  C_law_same (by decide)
 have C_law_same:Cal l.prog w K mg base (CXe l.prog w) 2 "_law_same" ["found","due"] (spP K mg (z0m 2)):=z0Z X G d11 (fun _ _ _ _ _ _ us hl=>match us,hl with | [_,_],_=>rfl) fun _ F=>z4P T F  C_law_same (by decide)
 have C_law_same:Cal l.prog w K mg base (CXe l.prog w) 3 "_law_same" ["found","due"] (spP K mg (z0m 3)):=z0Z X G d11 (fun _ _ _ _ _ _ us hl=>match us,hl with | [_,_],_=>rfl) fun _ F=>z4P T F  C_law_same (by decide)
 have C_law_same:Cal l.prog w K mg base (CXe l.prog w) 4 "_law_same" ["found","due"] (spP K mg (z0m 4)):=z0Z X G d11 (fun _ _ _ _ _ _ us hl=>match us,hl with | [_,_],_=>rfl) fun _ F=>z4P T F  C_law_same (by decide)
 have C_law_parts:Cal l.prog w K mg base (CXe l.prog w) 2 "_law_parts" ["cell","many","bottom"] (spP K mg z1D):=z0Z X G d12 (fun _ _ _ _ _ _ us hl=>match us,hl with | [_,_,_],_=>rfl) fun _ F=>zah T F C_law_draw
 have C_law_course:Cal l.prog w K mg base (CXe l.prog w) 3 "_law_course" ["watches","cell"] (spP K mg z0Q):=z0Z X G d13 (fun _ _ _ _ _ _ us hl=>match us,hl with | [_,_],_=>rfl) fun _ F=>z9E T F C_law_draw C_law_lowest C_law_parts
 have C_common_divisor:Cal l.prog w K mg base (CXe l.prog w) 1 "common_divisor" ["one","other"] (spP K mg z0i):=z0Z X G d14 (fun _ _ _ _ _ _ us hl=>match us,hl with | [_,_],_=>rfl) fun _ F=>z7p T F
 have C_is_share:Cal l.prog w K mg base (CXe l.prog w) 2 "is_share" ["share"] (spP K mg z3E):=z0Z X G d15 (fun _ _ _ _ _ _ us hl=>match us,hl with | [_],_=>rfl) fun _ F=>zaS T F C_common_divisor
 have C_are_shares:Cal l.prog w K mg base (CXe l.prog w) 3 "are_shares" ["wind","shares"] (spP K mg z13):=z0Z X G d16 (fun _ _ _ _ _ _ us hl=>match us,hl with | [_,_],_=>rfl) fun _ F=>z9F T F C_is_share
 have C_added:Cal l.prog w K mg base (CXe l.prog w) 2 "added" ["one","other"] (spP K mg z6A):=z0Z X G d17 (fun _ _ _ _ _ _ us hl=>match us,hl with | [_,_],_=>rfl) fun _ F=>zea T F C_common_divisor
 have C_shares_sum:Cal l.prog w K mg base (CXe l.prog w) 3 "shares_sum" ["shares"] (spP K mg z0C):=z0Z X G d18 (fun _ _ _ _ _ _ us hl=>match us,hl with | [_],_=>rfl) fun _ F=>z9z T F C_added
 have C_is_course:Cal l.prog w K mg base (CXe l.prog w) 4 "is_course" ["watches","course"] (spP K mg z42):=z0Z X G d19 (fun _ _ _ _ _ _ us hl=>match us,hl with | [_,_],_=>rfl) fun _ F=>zai T F C_are_shares C_shares_sum
 have C_is_before:Cal l.prog w K mg base (CXe l.prog w) 1 "is_before" ["one","other"] (spP K mg z31):=z0Z X G d20 (fun _ _ _ _ _ _ us hl=>match us,hl with | [_,_],_=>rfl) fun _ F=>zaj T F
 have C_is_short_course:Cal l.prog w K mg base (CXe l.prog w) 5 "is_short_course" ["watches","course"] (spP K mg z0N):=z0Z X G d21 (fun _ _ _ _ _ _ us hl=>match us,hl with | [_,_],_=>rfl) fun _ F=>z6M T F C_is_before C_are_shares C_shares_sum C_is_course
 have C_lowest_place:Cal l.prog w K mg base (CXe l.prog w) 2 "lowest_place" ["x","y","bottom"] (spP K mg z2m):=z0Z X G d22 (fun _ _ _ _ _ _ us hl=>match us,hl with | [_,_,_],_=>rfl) fun _ F=>z89 T F C_common_divisor
 have C_place_times:Cal l.prog w K mg base (CXe l.prog w) 3 "place_times" ["place","fraction"] (spP K mg z1N):=z0Z X G d23 (fun _ _ _ _ _ _ us hl=>match us,hl with | [_,_],_=>rfl) fun _ F=>z8N T F C_lowest_place
 have C_place_added:Cal l.prog w K mg base (CXe l.prog w) 2 "place_added" ["one","other"] (spP K mg z1u):=z0Z X G d24 (fun _ _ _ _ _ _ us hl=>match us,hl with | [_,_],_=>rfl) fun _ F=>z8O T F C_common_divisor
 have C_shares_end:Cal l.prog w K mg base (CXe l.prog w) 4 "shares_end" ["wind","shares"] (spP K mg z3f):=z0Z X G d25 (fun _ _ _ _ _ _ us hl=>match us,hl with | [_,_],_=>rfl) fun _ F=>z9A T F C_place_added C_place_times C_are_shares
 have C_short_end:Cal l.prog w K mg base (CXe l.prog w) 6 "short_end" ["watches","course"] (spP K mg z1x):=z0Z X G d26 (fun _ _ _ _ _ _ us hl=>match us,hl with | [_,_],_=>rfl) fun _ F=>zaf T F C_place_added C_place_times C_shares_sum C_shares_end C_is_short_course
 have C_short_moment:Cal l.prog w K mg base (CXe l.prog w) 4 "short_moment" ["course"] (spP K mg z1S):=z0Z X G d27 (fun _ _ _ _ _ _ us hl=>match us,hl with | [_],_=>rfl) fun _ F=>z88 T F C_added C_shares_sum
 have C_law_moment:Cal l.prog w K mg base (CXe l.prog w) 3 "_law_moment" ["course"] (spP K mg z1v):=z0Z X G d28 (fun _ _ _ _ _ _ us hl=>match us,hl with | [_],_=>rfl) fun _ F=>z9C T F C_law_sum
 have C_law_refused:Cal l.prog w K mg base (CXe l.prog w) 7 "_law_refused" ["watches","course"] (spP K mg z1m):=z0Z X G d29 (fun _ _ _ _ _ _ us hl=>match us,hl with | [_,_],_=>rfl) fun _ F=>z8Q T F C_short_end
 have C_law_spoilt_shares:Cal l.prog w K mg base (CXe l.prog w) 1 "_law_spoilt_shares" ["shares","way","many"] (spP K mg z0I):=z0Z X G d30 (fun _ _ _ _ _ _ us hl=>match us,hl with | [_,_,_],_=>rfl) fun _ F=>z66 T F
 have C_law_bad:Cal l.prog w K mg base (CXe l.prog w) 4 "_law_bad" ["watches","course","cell"] (spP K mg z28):=z0Z X G d31 (fun _ _ _ _ _ _ us hl=>match us,hl with | [_,_,_],_=>rfl) fun _ F=>zbM T F C_law_draw C_law_lowest C_law_course C_law_spoilt_shares
 exact zih zgf (zhS T F C_short_moment C_short_end C_law_watches C_law_same C_law_course C_law_end C_law_short C_law_moment C_law_bad C_law_refused)
theorem walk {l:PySem.W.OpenLaw}{q:Program}{loose:List Str}{XP:(Str->Option Value)->Heap->Prop}{YP:World->Heap->Prop}{d:DefRec}{K:Params->W.Frag}(hn:l.most=some 63)(hdf:d.params.defaults=[])
  (hY:∀ (w:World) (h:Heap),YP w h->(K w.params).In h)
  (F:∀ (w:World) (mg:Str->Option Value) (fa:Addr) (h:Heap),(K w.params).In h->h.Ns mainGlobals mg->mg d.name=some (.ref fa)->
   ∃ fd:FuncData,(∀ (s:Shared) (u:Value),BindsTo s fd ⟨[u],[]⟩ [("script",u)])/\∀ base:Heap,(K w.params).In base->base.Ns mainGlobals mg->FnOk l.prog w (K w.params) mg base (CXe l.prog w) 8 fa fd ["script"] (spL (K w.params))):
  PySem.W.WalkO q loose XP YP l.row.toRowW d [] (fun f vs=>PySem.call f vs):=
 L2.zfg (n:=63) (k:=8) (x:="script") (CX:=fun w=>(CXe l.prog w)) (sp:=fun w=>spL (K w.params)) hn (by decide) hdf ⟨rfl,by decide,by decide⟩ hY F (fun _ _ a ns hl _ hS=>⟨a,ns,rfl,hS,hl,fun _=>rfl⟩) fun _ _ _ _ _ ⟨_,_,_,_,_,_,_,_,_,z⟩=>z
end My
open PySem PySem.W PyProof.Rows
local macro_rules | `(tactic| walk_at "ks") => `(tactic| (refine' Pu.Std.mk ?a ?l ?c ?k; (case a=>k_is); (case l=>k_is); (case c=>k_is); (case k=>k_is)))
set_option maxRecDepth 100000 in
set_option maxHeartbeats 0 in
theorem PySem.Challenge.cw_closehaul_k28_short_courses_holds : PySem.Challenge.rw_closehaul_k28_short_courses.Holds := by
 w_on; o_law; k_head; (case hw=>w_witness2)
 k_fill
 refine My.walk (l:=PySem.Challenge.rw_closehaul_k28_short_courses) rfl rfl (fun w h Y=>PySem.W.kIn_of Y) ?F
 case F=>
  intro w mg fa h KX G hmg
  refine' My.ziL KX G hmg ?d0 ?d1 ?d2 ?d3 ?d4 ?d5 ?d6 ?d7 ?d8 ?d9 ?d10 ?d11 ?d12 ?d13 ?d14 ?d15 ?d16 ?d17 ?d18 ?d19 ?d20 ?d21 ?d22 ?d23 ?d24 ?d25 ?d26 ?d27 ?d28 ?d29 ?d30 ?d31 ?d32 ?z_ValueError ?z_abs ?z_all ?z_bool ?z_int ?z_isinstance ?z_len ?z_min ?z_range ?z_reversed ?z_str ?z_sum ?z_tuple ?z_zip ?aa_SailError ?xx_SailError ?aa_NoFraction ?xx_NoFraction ?aa_NoText ?xx_NoText ?aa_NoShares ?xx_NoShares ?aa_NoCourse ?xx_NoCourse ?aa_NoWind ?xx_NoWind ?aa_NoDeed ?xx_NoDeed ?ff_m_NoCourse_SailError ?ff_m_NoShares_SailError ?ff_l_NoCourse ?ff_l_NoShares ?ff_i_NoCourse_ValueError ?ff_i_NoShares_ValueError ?ff_i_NoCourse_NoCourse ?ff_i_NoShares_NoCourse ?ff_i_NoCourse_t_NoDeed_NoFraction_NoShares_NoText_NoWind ?ff_i_NoShares_t_NoDeed_NoFraction_NoShares_NoText_NoWind
  (case d0=>walk_at "ks")
  (case d1=>walk_at "ks")
  (case d2=>walk_at "ks")
  (case d3=>walk_at "ks")
  (case d4=>walk_at "ks")
  (case d5=>walk_at "ks")
  (case d6=>walk_at "ks")
  (case d7=>walk_at "ks")
  (case d8=>walk_at "ks")
  (case d9=>walk_at "ks")
  (case d10=>walk_at "ks")
  (case d11=>walk_at "ks")
  (case d12=>walk_at "ks")
  (case d13=>walk_at "ks")
  (case d14=>walk_at "ks")
  (case d15=>walk_at "ks")
  (case d16=>walk_at "ks")
  (case d17=>walk_at "ks")
  (case d18=>walk_at "ks")
  (case d19=>walk_at "ks")
  (case d20=>walk_at "ks")
  (case d21=>walk_at "ks")
  (case d22=>walk_at "ks")
  (case d23=>walk_at "ks")
  (case d24=>walk_at "ks")
  (case d25=>walk_at "ks")
  (case d26=>walk_at "ks")
  (case d27=>walk_at "ks")
  (case d28=>walk_at "ks")
  (case d29=>walk_at "ks")
  (case d30=>walk_at "ks")
  (case d31=>walk_at "ks")
  (case d32=>walk_at "ks")
  (case z_ValueError=>k_is)
  (case z_abs=>k_is)
  (case z_all=>k_is)
  (case z_bool=>k_is)
  (case z_int=>k_is)
  (case z_isinstance=>k_is)
  (case z_len=>k_is)
  (case z_min=>k_is)
  (case z_range=>k_is)
  (case z_reversed=>k_is)
  (case z_str=>k_is)
  (case z_sum=>k_is)
  (case z_tuple=>k_is)
  (case z_zip=>k_is)
  (case aa_SailError=>k_is)
  (case xx_SailError=>k_exc)
  (case aa_NoFraction=>k_is)
  (case xx_NoFraction=>k_exc)
  (case aa_NoText=>k_is)
  (case xx_NoText=>k_exc)
  (case aa_NoShares=>k_is)
  (case xx_NoShares=>k_exc)
  (case aa_NoCourse=>k_is)
  (case xx_NoCourse=>k_exc)
  (case aa_NoWind=>k_is)
  (case xx_NoWind=>k_exc)
  (case aa_NoDeed=>k_is)
  (case xx_NoDeed=>k_exc)
  (case ff_m_NoCourse_SailError=>kernel_rfl)
  (case ff_m_NoShares_SailError=>kernel_rfl)
  (case ff_l_NoCourse=>kernel_rfl)
  (case ff_l_NoShares=>kernel_rfl)
  (case ff_i_NoCourse_ValueError=>kernel_rfl)
  (case ff_i_NoShares_ValueError=>kernel_rfl)
  (case ff_i_NoCourse_NoCourse=>kernel_rfl)
  (case ff_i_NoShares_NoCourse=>kernel_rfl)
  (case ff_i_NoCourse_t_NoDeed_NoFraction_NoShares_NoText_NoWind=>kernel_rfl)
  (case ff_i_NoShares_t_NoDeed_NoFraction_NoShares_NoText_NoWind=>kernel_rfl)
