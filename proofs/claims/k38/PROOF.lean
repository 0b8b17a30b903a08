import PyProof.Rows.All
import Wide.All
import OpenK.AllK
import Wide.FinOn
import Lean
import PyProof.EqAt
import PyProof.EqKinds
import PyProof.TupleCall
import PyProof.Rows.SortRuns
import KE.KRevIter
import PyProof.SetRoads
import PyProof.ListNew
import PyProof.Rows.ListMulPlace
import PyProof.ZipIter
import PyProof.Rows.ZipGen
import PyProof.Rows.SumGenD
import PySem.Challenge.RW_closehaul_k38_whole_areas_cut
namespace PySem.W.Fast
def tw7034290163682028617:=0
def tw3881963869986811927:=0
def tw9845202697191295076:=0
def tw15499577050808699106:=0
def tw194013278446926584:=0
def tw3197300443000619518:=0
def tw16163843592899423986:=0
def tw3606037561894013422:=0
def tw8637088417404841312:=0
def tw2233944732606220756:=0
def tw3274025459823909963:=0
def tw2111886311680958731:=0
def tw17502557780273779580:=0
def tw9257107387065186893:=0
def tw10869226315336847607:=0
def tw1773502514511084681:=0
def tw1839482820415983514:=0
def tw8622278854524649391:=0
def tw5355488452993201424:=0
def tw10310630536037333114:=0
def tw15036984597267699488:=0
def tw6596148674011082119:=0
def tw8583465563235527761:=0
def tw13510470741953456673:=0
def tw5578563153850862946:=0
def tw15246249263019290282:=0
def tw5997804434142182612:=0
def tw1708889644003812052:=0
def tw4260727569700138928:=0
def tw2975790660033849708:=0
def tw4270696256829566405:=0
def tw10778651728069514904:=0
def tw10003546366527960642:=0
def tw2870439448284690650:=0
def tw1060550712913055957:=0
def tw12012089981364762089:=0
def tw14258497516626156166:=0
def tw2665099219729134772:=0
def tw18408353312959483926:=0
def tw16098163320935826288:=0
def tw13524328742546074548:=0
def tw1565187022342544069:=0
def tw7741626002448004096:=0
def tw13849150500696182449:=0
def tw15282600107619258478:=0
def tw6543327640062212869:=0
def tw17193424771057816279:=0
def tw15227596872494919935:=0
def tw11357400108677480895:=0
def tw7259499764220036634:=0
def tw8582334810352558198:=0
def tw17253469426439234324:=0
def tw5460266844479853472:=0
def tw6007392444705371195:=0
def tw5038627963865420317:=0
def tw2638004453199953747:=0
def tw14231246177702602697:=0
def tw8801866230088408701:=0
def tw2126746298670621674:=0
def tw16417758780798306224:=0
def tw14494770150702796180:=0
def tw8157836410798644127:=0
def tw13703500581447615664:=0
def tw8835961652343872205:=0
def tw4320479450288073215:=0
def tw16097135351889881871:=0
def tw4109273008039531985:=0
def tw11309518828644125148:=0
def tw7023707240333630116:=0
def tw3798014582717719021:=0
def tw18104515441215257430:=0
def tw1289973598888310428:=0
def tw2004979883714809310:=0
def tw5666778930658979009:=0
def tw6116604533714706008:=0
def tw602455566707467875:=0
def tw10492977656455699158:=0
def tw14516198304874694809:=0
def tw6287087725236248110:=0
def tw3457661190286193099:=0
def tw12999142353188234965:=0
def tw4839940414320347077:=0
def tw9991332199352598099:=0
def tw13716421972906369617:=0
def tw1689682024360317164:=0
def tw3101493730692202994:=0
def tw13191689679037452797:=0
def tw18435014131146023347:=0
def tw17032202856479069565:=0
def tw2937650549730404110:=0
def tw1169665640245470740:=0
def tw14071806641888834619:=0
def tw3365143685746615648:=0
def tw14866464034120463182:=0
def tw5980349601270958784:=0
def tw4854333566431077443:=0
def tw4475910069199306873:=0
def tw10062515547405472451:=0
def tw2582260853186130097:=0
def tw925779826769710364:=0
def tw7369361733123354277:=0
def tw7068528313179870919:=0
def tw10884174789317117696:=0
def tw7911179521190381341:=0
def tw16098462300717477324:=0
def tw2787572824525715572:=0
def tw7606596528775660506:=0
def tw5065407419416024591:=0
def tw3636830975325434790:=0
def tw8461903332593418343:=0
def tw4987925031573526125:=0
def tw2535463834683271543:=0
def tw265420273354440446:=0
def tw7797328775420942714:=0
def tw7434328619378443431:=0
def tw1402938223185016283:=0
def tw8211040181586202200:=0
def tw7853166450751241783:=0
def tw5187060421592221204:=0
def tw1648964272941525547:=0
def tw7302658454984325768:=0
def tw1617095767974233140:=0
def tw7475108392223931169:=0
def tw14578612520575204970:=0
def tw7190269479432749827:=0
def tw1649219145276275791:=0
def tw13034840655745031914:=0
def tw18360736108877768241:=0
def tw901013872172519725:=0
def tw7577709599239473714:=0
def tw5560322330319920002:=0
def tw9324775172226322837:=0
def tw8878671936287288060:=0
def tw5546437706986853341:=0
def tw4775153484052125101:=0
def tw286981533260718301:=0
def tw2370134345288507630:=0
def tw15301413854733104703:=0
def tw15429472620752602322:=0
def tw1087338158677082028:=0
def tw5730080575198828638:=0
def tw523617700027563207:=0
def tw15047157329594039990:=0
def tw271172053806499989:=0
def tw18336290202963037446:=0
def tw2793516955540824763:=0
def tw9384353706718304206:=0
def tw5499898162588475775:=0
def tw6272123105194916534:=0
def tw320311189551597592:=0
def tw12378590473086617930:=0
def tw15494007020150706927:=0
def tw11725267643728442573:=0
def tw3515671981528469565:=0
def tw1555194805497510996:=0
def tw16041501821530349810:=0
def tw13309718650246290187:=0
def tw13212311606492759219:=0
def tw17040864833699210340:=0
def tw15437821155648088099:=0
def tw11500477365477818113:=0
def tw3361385920361332703:=0
def tw746351313933717398:=0
def tw4958992311128259975:=0
def tw17078081186505011626:=0
def tw14875805345013772917:=0
def tw10313241069320657571:=0
def tw11574294863878769888:=0
def tw7757415069583318601:=0
def tw12267825947249115411:=0
def tw5788908084717218048:=0
def tw6468667913943781878:=0
def tw17210952849981488679:=0
def tw9690561434475068537:=0
def tw9663707836448837052:=0
def tw9637112764168619641:=0
def tw9360228162064958042:=0
def tw9136756553108449538:=0
def tw9132220025008875393:=0
def tw8910079669455817897:=0
def tw8908261905376581642:=0
def tw8665426188142442234:=0
def tw8645977527240917102:=0
def tw8625820610230800447:=0
def tw8550356873504547201:=0
def tw8365589149236073818:=0
def tw8273634645781963162:=0
def tw8040959358201444322:=0
def tw7559991920803800908:=0
def tw7397716589537009611:=0
def tw6847771670908301732:=0
def tw6303911811303849952:=0
def tw6228258084337368121:=0
def tw6014698726368958501:=0
def tw5803261727653549394:=0
def tw5610125939806345212:=0
def tw5393596577563937197:=0
def tw5372247563711981388:=0
def tw5285566921252873408:=0
def tw5165791183458640258:=0
def tw5118767993999555476:=0
def tw4187226165461706805:=0
def tw4045485393708526613:=0
def tw3646904788029758210:=0
def tw3279001359043692167:=0
def tw3150588769932907097:=0
def tw3115692886004268419:=0
def tw3066239433253121515:=0
def tw2541849887986205108:=0
def tw2389227864044686155:=0
def tw18373774370116273991:=0
def tw18182666887024246284:=0
def tw18065736071138300290:=0
def tw18064579120043578799:=0
def tw17943406316680127691:=0
def tw17911271198237637786:=0
def tw17790066388882970561:=0
def tw17024765997889041150:=0
def tw16843783120101689845:=0
def tw16395447932568672735:=0
def tw16331025734766573335:=0
def tw16124183059606908326:=0
def tw1591411331215716121:=0
def tw15858174184036515698:=0
def tw15781715938890107985:=0
def tw14876414805685884076:=0
def tw14851942176197967512:=0
def tw14838922491734431770:=0
def tw14782154846618266745:=0
def tw1471618304233774357:=0
def tw14641282836084766495:=0
def tw1441801090426901727:=0
def tw14295482340903469846:=0
def tw13825800475096539114:=0
def tw13342100698380236585:=0
def tw1326698771229922697:=0
def tw12962628076804799014:=0
def tw1269112689633436596:=0
def tw12438132463422845912:=0
def tw12313997255016203531:=0
def tw12156512918522446838:=0
def tw11794210260814617289:=0
def tw11628770538267216416:=0
def tw11336125065598058016:=0
def tw10788167122578505019:=0
def tw10595106447458695161:=0
def tw10097608453034894321:=0
end PySem.W.Fast
noncomputable section
set_option Elab.async false
set_option linter.all false
set_option maxRecDepth 100000
namespace L2
open PySem PySem.Spec PyProof.Rows
abbrev Key:=Sum Int Str
def zjj:Key->Value->Bool
 | .inl k,v=>Value.isInt k v
 | .inr x,v=>Value.isStrOf x v
def keyH (w:World):Key->Int
 | .inl k=>hashInt k
 | .inr x=>hashStr w x
def z1C:∀{k:Key}{v:Value},zjj k v=true->(∃i t,k=Sum.inl i/\v=Value.int i t)\/(∃x t,k=Sum.inr x/\v=Value.str x t)
 | .inl i,v,h=>by
  obtain⟨t,e⟩:=Value.isInt_shape (k:=i) (v:=v) h;exact .inl ⟨i,t,rfl,e⟩
 | .inr x,v,h=>by
  obtain⟨t,e⟩:=Value.isStrOf_shape (x:=x) (v:=v) h;exact .inr ⟨x,t,rfl,e⟩
def zji (a b:Int):decide ((Sum.inl a:Key)=Sum.inl b)=(a == b):=by
 by_cases e:a=b
 ·subst e; simp
 ·have h:¬ (Sum.inl a:Key)=Sum.inl b:=λq=>e (Sum.inl.inj q);rw[decide_eq_false h];exact(beq_eq_false_iff_ne.mpr e).symm
def zjf (a b:Str):decide ((Sum.inr a:Key)=Sum.inr b)=decide (a=b):=by
 by_cases e:a=b
 ·subst e; simp
 ·have h:¬ (Sum.inr a:Key)=Sum.inr b:=λq=>e (Sum.inr.inj q);rw[decide_eq_false h,decide_eq_false e]
def zjh (a:Int)(b:Str):decide ((Sum.inl a:Key)=Sum.inr b)=false:=decide_eq_false (λq=>nomatch q)
def zjg (a:Str)(b:Int):decide ((Sum.inr a:Key)=Sum.inl b)=false:=decide_eq_false (λq=>nomatch q)
def zdC (prog:Program)(w:World):PySem.KeyKind prog w Key where
 is:=zjj
 hash:=keyH w
 inj:=λv a b ha hb=>by
  rcases z1C ha with ⟨i,t,rfl,rfl⟩ | ⟨x,t,rfl,rfl⟩
  ·rcases z1C hb with ⟨j,u,rfl,e⟩ | ⟨y,u,rfl,e⟩
   ·injection e with e1 _; rw[e1]
   ·exact nomatch e
  ·rcases z1C hb with ⟨j,u,rfl,e⟩ | ⟨y,u,rfl,e⟩
   ·exact nomatch e
   ·injection e with e1 _; rw[e1]
 byValue:=λk v h=>by
  rcases z1C h with ⟨i,t,rfl,rfl⟩ | ⟨x,t,rfl,rfl⟩ <;> rfl
 pyHash:=λhv h=>by
  rcases z1C hv with ⟨i,t,rfl,rfl⟩ | ⟨x,t,rfl,rfl⟩
  ·exact wpAny_pyHash_int h
  ·exact wpAny_pyHash_str h
 eqBool:=λhu hv h=>by
  rcases z1C hu with ⟨i,t,rfl,rfl⟩ | ⟨x,t,rfl,rfl⟩
  ·rcases z1C hv with ⟨j,u,rfl,rfl⟩ | ⟨y,u,rfl,rfl⟩
   ·rw[zji] at h; exact wpAny_eqBool_int h
   ·rw[zjh] at h; exact SeqAt.EqAt.int_str i t y u _ _ _ _ h
  ·rcases z1C hv with ⟨j,u,rfl,rfl⟩ | ⟨y,u,rfl,rfl⟩
   ·rw[zjg] at h; exact SeqAt.EqAt.str_int x t j u _ _ _ _ h
   ·rw[zjf] at h; exact wpAny_eqBool_str h
 «strs»:=λk x t v h=>by
  rcases z1C h with ⟨i,u,rfl,e⟩ | ⟨y,u,rfl,e⟩
  ·exact nomatch e
  ·injection e with e1 _
   subst e1
   cases v <;> rfl
inductive V where
 | non | bl (b:Bool) | int (i:Int) | str (x:Str) | byt (b:Array UInt8) | flt (b:UInt64) | ref (a:Addr) | ty (n:String)
 deriving DecidableEq
def RelV:V->Value->Prop
 | .non,u=>u=Value.none
 | .bl b,u=>u=Value.bool b
 | .int i,u=>∃t,u=Value.int i t
 | .str x,u=>∃t,u=Value.str x t
 | .byt b,u=>∃t,u=Value.bytes b t
 | .flt b,u=>∃t,u=Value.float b t
 | .ref a,u=>u=Value.ref a
 | .ty n,u=>u=Value.type n
abbrev Vals:List V->List Value->Prop:=Paired RelV
def Vals.length {xs:List V}{us:List Value}(r:Vals xs us):xs.length=us.length:=Paired.length r
def Vals.get:∀{xs:List V}{us:List Value}{i:Nat}{x:V},Vals xs us->xs[i]? = some x->∃u,us[i]? = some u/\RelV x u
 | _,_,_,_,.nil,e=>by simp at e
 | _,_,0,_,.cons r _,e=>by simp at e; subst e; exact⟨_,rfl,r⟩
 | _,_,i+1,x,.cons _ t,e=>by
  obtain⟨u,h1,h2⟩:=Vals.get (i:=i) (x:=x) t (by simpa using e);exact⟨u,by simpa using h1,h2⟩
def Vals.append:∀{xs ys:List V}{us ws:List Value},Vals xs us->Vals ys ws->Vals (xs++ys) (us++ws)
 | _,_,_,_,.nil,s=>s
 | _,_,_,_,.cons r t,s =>.cons r (Vals.append t s)
def Vals.take:∀{xs:List V}{us:List Value}(n:Nat),Vals xs us->Vals (xs.take n) (us.take n)
 | _,_,0,_ =>.nil
 | _,_,_+1,.nil =>.nil
 | _,_,n+1,.cons r t =>.cons r (Vals.take n t)
def Vals.drop:∀{xs:List V}{us:List Value}(n:Nat),Vals xs us->Vals (xs.drop n) (us.drop n)
 | _,_,0,r=>r
 | _,_,_+1,.nil =>.nil
 | _,_,n+1,.cons _ t=>Vals.drop n t
def RelO:Option V->Option Value->Prop
 | some v,some u=>RelV v u
 | none,none=>True
 | _,_=>False
def KV {κ:Type}:List (κ × V)->List (κ × Value)->Prop:=Paired λ(p:κ × V) (q:κ × Value)=>p.1=q.1/\RelV p.2 q.2
def kV:Key->V
 | .inl i =>.int i
 | .inr x =>.str x
inductive HO where
 | lst (xs:List V)
 | tup (xs:List V)
 | dK (kvs:List (Key × V)) | dT (kvs:List (List Key × V))
 | set (S:Int->Bool) (n:Nat)
 | ins (C dx:Addr) (fs:List (Str × V))
 | own (x:Addr)
 | xd (fs:List (Str × V))
 | met (f x:Addr)
 | rng (lo hi:Int)
 | frz (o:Obj) (u:HO)
 | tbl (ps:Array Value)
 | ext (φ:Heap->Prop)
abbrev Hp:=Addr->Option HO
def upd (H:Hp)(a:Addr)(o:HO):Hp:=λb=>if b=a then some o else H b
def z0t {H:Hp}{a:Addr}{o:HO}:upd H a o a=some o:=by unfold upd; rw[if_pos rfl]
def z0f {H:Hp}{a b:Addr}{o:HO}(h:b≠a):upd H a o b=H b:=by unfold upd; rw[if_neg h]
def z0v {H:Hp}{a b:Addr}{o:HO}(h:H a=some o)(h':H b=none):a≠b:=by
 intro e; subst e; rw[h] at h'; cases h'
def NoD (h:Heap)(a:Addr):Prop:=∃o,h.get? a=some o/\o.dict=none
def zkY (H:Hp)(h:Heap)(a:Addr)(ps:Array Value):Prop:=h.get? a=some { cls :=.none,data :=.fields #[] }\/
 ∃(l c:Value) (q:Str) (t:Tok) (c':Addr) (o:Obj) (vs:Array Value) (u:Tok),ps[0]? = some l/\ps[1]? = some c/\ps[2]? = some (.str q t)/\h.get? a=some { cls :=.none,data :=.fields #[l,c,.ref c'] }/\H c'=some (.frz o (.own c'))/\o.data = .fields vs/\vs[1]? = some (.str q u)
section
variable (P:Program)(w:World)
def z2o (H:Hp)(h:Heap)(a:Addr):HO->Prop
 | .lst xs=>xs.length<=sizeLine/\∃(its:List Value) (n:Nat),Vals xs its/\h.get? a=some { cls :=.type "list",data :=.seq its.toArray n }
 | .tup xs=>xs.length<=sizeLine/\∃its:List Value,Vals xs its/\IsTup h a its.toArray/\NoD h a
 | .dK kvs=>kvs.length<=sizeLine/\(a == sysModules)=false/\∃vs,KV kvs vs/\h.DictOf (zdC P w) a vs
 | .dT kvs=>kvs.length<=sizeLine/\(a == sysModules)=false/\∃xs:List (List Key × Addr × Value),
   Paired (λ(p:List Key × V) (q:List Key × Addr × Value)=>p.1=q.1/\H q.2.1=some (.tup (p.1.map kV))/\RelV p.2 q.2.2) kvs xs/\
   ∃o es ep,h.get? a=some o/\o.ExactDict/\o.data = .dict es ep/\es.toList=xs.map (entryOfKey (tupleKind (zdC P w)))/\(xs.map (·.1)).Nodup
 | .set S n=>h.SetOf (intKind P w) a S n
 | .ins C dx fs=>H dx=some (.own a)/\fs.length<=1000/\dx≠a/\h.get? a=some (PySem.W.instObj C dx)/\
   ∃mA,h.Ns1 dx mA/\(∀f,RelO (fs.lookup f) (mA f))/\PySem.Within mA (fs.map (·.1))
 | .own _=>∃o,h.get? a=some o
 | .xd fs=>∃mA,h.Ns1 a mA/\∀f,RelO (fs.lookup f) (mA f)
 | .rng lo hi=>∃t u v,h.get? a=some { cls :=.type "range",data :=.fields #[.int lo t,.int hi u,.int 1 v] }
 | .frz o u=>h.get? a=some o/\z2o H h a u
 | .tbl ps=>zkY H h a ps
 | .met f x=>h.get? a=some (PySem.W.methodObj (.ref f) (.ref x))
 | .ext φ=>φ h/\(∃o,h.get? a=some o)/\∀h1 h2:Heap,φ h1->(∀o,h1.get? a=some o->h2.get? a=some o)->φ h2
def HOk (H:Hp)(h:Heap):Prop:=∀a o,H a=some o->z2o P w H h a o
end
section
variable {P:Program}{w:World}{H H':Hp}{h h':Heap}{a:Addr}{o:HO}
def z2o.lt (x:z2o P w H h a o):a<h.objs.size:=by
 cases o with
 | lst xs=>obtain⟨_,_,_,_,e⟩:=x; exact Heap.lt_size e
 | tup xs=>obtain⟨_,_,_,p,_⟩:=x; exact p.lt
 | dK kvs=>obtain⟨_,_,_,_,o,_,_,e,_⟩:=x; exact Heap.lt_size e
 | dT kvs=>obtain⟨_,_,_,_,o,_,_,e,_⟩:=x; exact Heap.lt_size e
 | set S n=>obtain⟨o,_,_,_,e,_⟩:=x; exact Heap.lt_size e
 | ins C dx fs=>obtain⟨_,_,_,e,_⟩:=x; exact Heap.lt_size e
 | own y=>obtain⟨_,e⟩:=x; exact Heap.lt_size e
 | xd fs=>obtain⟨_,⟨_,_,_,e,_⟩,_⟩:=x; exact Heap.lt_size e
 | rng lo hi=>obtain⟨_,_,_,e⟩:=x; exact Heap.lt_size e
 | frz ob u=>obtain⟨e,_⟩:=x; exact Heap.lt_size e
 | tbl ps=>rcases x with e | ⟨_,_,_,_,_,_,_,_,_,_,_,e,_⟩ <;> exact Heap.lt_size e
 | met f y=>exact Heap.lt_size (show h.get? a=some _ from x)
 | ext φ=>obtain⟨_,⟨_,e⟩,_⟩:=x; exact Heap.lt_size e
def Paired.mapP {α β:Type}{F G:α->β->Prop}:∀{l₁:List α} {l₂:List β},Paired F l₁ l₂->(∀a b,F a b->G a b)->Paired G l₁ l₂
 | _,_,.nil,_ =>.nil
 | _,_,.cons r t,f =>.cons (f _ _ r) (Paired.mapP t f)
def z2o.stay (x:z2o P w H h a o)(k:∀b u,(b=a\/H b=some (.own a))->h.get? b=some u->h'.get? b=some u)
  (ho:∀b,H b=some (.own a)->H' b=some (.own a)) (ht:∀b xs,H b=some (.tup xs)->H' b=some (.tup xs)) (hf:∀b o u,H b=some (.frz o u)->H' b=some (.frz o u):=by first | exact λ_ _ _ q=>q | exact λc _ _ q=>by rw[z0f (z0v q (by assumption))]; exact q):z2o P w H' h' a o:=by
 induction o with
 | lst xs=>obtain⟨z,its,n,r,e⟩:=x; exact⟨z,its,n,r,k _ _ (.inl rfl) e⟩
 | tup xs=>obtain⟨z,its,r,⟨ob,e,c⟩,od,ed,cd⟩:=x; exact⟨z,its,r,⟨ob,k _ _ (.inl rfl) e,c⟩,od,k _ _ (.inl rfl) ed,cd⟩
 | dK kvs=>obtain⟨z,y,vs,r,ob,es,ep,e,c⟩:=x; exact⟨z,y,vs,r,ob,es,ep,k _ _ (.inl rfl) e,c⟩
 | dT kvs=>
  obtain⟨z,y,xs,r,ob,es,ep,e,c⟩:=x;exact⟨z,y,xs,Paired.mapP r λp q z=>⟨z.1,ht _ _ z.2.1,z.2.2⟩,ob,es,ep,k _ _ (.inl rfl) e,c⟩
 | set S n=>obtain⟨ob,es,ep,t,e,c⟩:=x; exact⟨ob,es,ep,t,k _ _ (.inl rfl) e,c⟩
 | ins C dx fs=>
  obtain⟨d,z,ne,e,mA,⟨od,es,ep,e2,c⟩,r⟩:=x;exact⟨ho _ d,z,ne,k _ _ (.inl rfl) e,mA,⟨od,es,ep,k _ _ (.inr d) e2,c⟩,r⟩
 | own y=>obtain⟨ob,e⟩:=x; exact⟨ob,k _ _ (.inl rfl) e⟩
 | xd fs=>obtain⟨mA,⟨od,es,ep,e,c⟩,r⟩:=x; exact⟨mA,⟨od,es,ep,k _ _ (.inl rfl) e,c⟩,r⟩
 | rng lo hi=>obtain⟨t,u,v,e⟩:=x; exact⟨t,u,v,k _ _ (.inl rfl) e⟩
 | frz ob u ih=>obtain⟨e,q⟩:=x; exact⟨k _ _ (.inl rfl) e,ih q⟩
 | tbl ps=>
  rcases x with e | ⟨l,c,q,t,c',ob,vs,u,e1,e2,e3,e,ec,r⟩
  ·exact .inl (k a _ (.inl rfl) e)
  ·exact .inr ⟨l,c,q,t,c',ob,vs,u,e1,e2,e3,k a _ (.inl rfl) e,hf _ _ _ ec,r⟩
 | met f y=>
  have e:h.get? a=some (PySem.W.methodObj (.ref f) (.ref y)):=x;show h'.get? a=some (PySem.W.methodObj (.ref f) (.ref y));exact k a _ (.inl rfl) e
 | ext φ=>obtain⟨p,⟨o,e⟩,st⟩:=x; exact⟨st _ _ p λo q=>k _ _ (.inl rfl) q,⟨o,k _ _ (.inl rfl) e⟩,st⟩
def HOk.lt (x:HOk P w H h)(e:H a=some o):a<h.objs.size:=(x a o e).lt
def HOk.fresh (x:HOk P w H h)(e:h.objs.size<=a):H a=none:=by
 cases q:H a with
 | none=>rfl
 | some u=>exact absurd (Nat.lt_of_lt_of_le (x.lt q) e) (Nat.lt_irrefl _)
def HOk.kept (x:HOk P w H h)(k:∀b u,h.get? b=some u->h'.get? b=some u):HOk P w H h':=λa o e=>
 (x a o e).stay (λb u _ q=>k b u q) (λ_ q=>q) λ_ _ q=>q
def HOk.laid (x:HOk P w H h)(k:∀b u,h.get? b=some u->h'.get? b=some u)(hp:h.objs.size<=a)(new:z2o P w (upd H a o) h' a o):HOk P w (upd H a o) h':=λb u e=>by
 have hn:=x.fresh hp
 by_cases hb:b=a
 ·subst hb; rw[z0t] at e; cases e; exact new
 ·rw[z0f hb] at e;exact(x b u e).stay (λc v _ q=>k c v q) (λc q=>by rw[z0f (z0v q hn)]; exact q) λc xs q=>by rw[z0f (z0v q hn)]; exact q
end
def Rd (H:Hp)(a:Addr)(u:HO):Prop:=H a=some u\/∃o,H a=some (.frz o u)
def Rd.ok {P:Program}{w:World}{H:Hp}{h:Heap}{a:Addr}{u:HO}(r:Rd H a u)(x:HOk P w H h):z2o P w H h a u:=by
 rcases r with r | ⟨o,r⟩
 ·exact x a u r
 ·obtain⟨_,q⟩:=x a _ r;exact q
def Mut:Option HO->Prop
 | some (.lst _)=>True
 | some (.dK _)=>True
 | some (.dT _)=>True
 | some (.set _ _)=>True
 | some (.ins _ _ _)=>True
 | some (.ext _)=>True
 | _=>False
section
variable {P:Program}{w:World}{H:Hp}{h h':Heap}{x e:Addr}{o':HO}
def HOk.write (ok:HOk P w H h)(mu:Mut (H x))(he:e=x\/H e=some (.own x))(k:∀b u,b≠e->h.get? b=some u->h'.get? b=some u)(heo:∃u,h'.get? e=some u)
  (new:z2o P w (upd H x o') h' x o'):HOk P w (upd H x o') h':=λb u q=>by
 have nown:∀c y,H c=some (.own y)->c≠x:=λc y r z=>by subst z; rw[r] at mu; exact mu
 have ntup:∀c xs,H c=some (.tup xs)->c≠x:=λc xs r z=>by subst z; rw[r] at mu; exact mu
 by_cases hb:b=x
 ·subst hb; rw[z0t] at q; cases q; exact new
 ·rw[z0f hb] at q
  by_cases hbe:b=e
  ·have q':H b=some (.own x):=by
    rcases he with z | z
    ·exact absurd (hbe.trans z) hb
    ·rw[hbe]; exact z
   rw[q] at q'; cases q';obtain⟨v,hv⟩:=heo;exact⟨v,by rw[hbe]; exact hv⟩
  ·refine(ok b u q).stay (λc v hc r=>k c v ?_ r) (λc r=>by rw[z0f (nown c b r)]; exact r) (λc xs r=>by rw[z0f (ntup c xs r)]; exact r) λc o u r=>by rw[z0f (λz=>by subst z; rw[r] at mu; exact mu)]; exact r
   rcases hc with rfl | hc
   ·exact hbe
   ·rintro rfl
    rcases he with z | z
    ·exact nown c b hc z
    ·rw[hc] at z; cases z; exact hb rfl
end
structure Un (fs ex:List Addr)(H H':Hp)(h h':Heap):Prop where
 keep:∀b o,h.get? b=some o->H b=none->b ∉ fs->b ∉ ex->h'.get? b=some o
 slot:∀b o,h.get? b=some o->H b=none->b∈fs->b ∉ ex->∃sl,h'.get? b=some { o with slots:=sl }
 free:∀b o,h.get? b=some o->H b=none->b ∉ ex->H' b=none
 there:∀b o,h.get? b=some o->b ∉ ex->∃o',h'.get? b=some o'
 tups:∀b xs,H b=some (.tup xs)->H' b=some (.tup xs)
 frzs:∀b o u,H b=some (.frz o u)->H' b=some (.frz o u)
 tbls:∀b ps,H b=some (.tbl ps)->∃more,H' b=some (.tbl (ps++more))
section
variable {fs fs' ex ex':List Addr}{H H1 H2:Hp}{h h1 h2 h':Heap}{a x e:Addr}{o:HO}
def Un.any (u:Un fs ex H H1 h h1){b:Addr}{ob:Obj}(q:h.get? b=some ob)(n:H b=none)(hx:b ∉ ex):∃sl,h1.get? b=some { ob with slots:=sl }:=by
 by_cases hb:b∈fs
 ·exact u.slot b ob q n hb hx
 ·exact⟨ob.slots,u.keep b ob q n hb hx⟩
def Un.kept (k:∀b u,h.get? b=some u->h'.get? b=some u):Un fs ex H H h h':=
 ⟨λb ob q _ _ _=>k b ob q,λb ob q _ _ _=>⟨ob.slots,k b ob q⟩,λ_ _ _ n _=>n,λb ob q _=>⟨ob,k b ob q⟩,λ_ _ q=>q,λ_ _ _ q=>q,λ_ ps q=>⟨#[],by rw[q]; simp⟩⟩
def Un.refl:Un fs ex H H h h:=Un.kept λ_ _ q=>q
def Un.laid (k:∀b u,h.get? b=some u->h'.get? b=some u)(hp:h.objs.size<=a)(hn:H a=none):Un fs ex H (upd H a o) h h' where
 keep:=λb u q _ _ _=>k b u q
 slot:=λb u q _ _ _=>⟨u.slots,k b u q⟩
 free:=λb u q n _=>by rw[z0f (Nat.ne_of_lt (Nat.lt_of_lt_of_le (Heap.lt_size q) hp))]; exact n
 there:=λb u q _=>⟨u,k b u q⟩
 tups:=λb xs q=>by rw[z0f (z0v q hn)]; exact q
 frzs:=λb u xs q=>by rw[z0f (z0v q hn)]; exact q
 tbls:=λb ps q=>⟨#[],by rw[z0f (z0v q hn),q]; simp⟩
def Un.write (mu:Mut (H x))(he:e=x\/H e=some (.own x))(k:∀b u,b≠e->h.get? b=some u->h'.get? b=some u)(heo:∃u,h'.get? e=some u):Un fs ex H (upd H x o) h h':=by
 have hx:∀b,H b=none->b≠x:=λb n z=>by subst z; rw[n] at mu; exact mu
 have hb:∀b,H b=none->b≠e:=λb n z=>by
  subst z
  rcases he with r | r
  ·exact hx b n r
  ·rw[n] at r; cases r
 have hm:∀b u,H b=some u->¬ Mut (some u)->b≠x:=λb u q nm z=>by subst z; rw[q] at mu; exact nm mu
 refine⟨λb u q n _ _=>k b u (hb b n) q,λb u q n _ _=>⟨u.slots,k b u (hb b n) q⟩,λb u q n _=>by rw[z0f (hx b n)]; exact n,λb u q _ =>?_,
  λb xs q=>by rw[z0f (hm b _ q λz=>z)]; exact q,λb u xs q=>by rw[z0f (hm b _ q λz=>z)]; exact q,λb ps q=>⟨#[],by rw[z0f (hm b _ q λz=>z),q]; simp⟩⟩
 by_cases hbe:b=e
 ·subst hbe; exact heo
 ·exact⟨u,k b u hbe q⟩
end
def trk (h:Heap)(H:Hp):List Addr:=(List.range h.objs.size).filter λa=>(H a).isSome
def hidT (h:Heap)(H:Hp):Heap:=PySem.W.hideAll h (trk h H)
def zdP (h:Heap)(H:Hp):(hidT h H).objs.size=h.objs.size:=PySem.W.hideAll_size _ _
def z9d {h:Heap}{H:Hp}{b:Addr}{o:Obj}(e:h.get? b=some o)(n:H b=none):(hidT h H).get? b=some o:=
 PySem.W.hideAll_get _ e λhm=>by
  have q:(H b).isSome=true:=(List.mem_filter.mp hm).2;rw[n] at q; simp at q
def zgS {h:Heap}{H:Hp}{b:Addr}{o:Obj}(e:(hidT h H).get? b=some o):h.get? b=some o/\H b=none:=by
 have e':h.get? b=some o:=PySem.W.of_hideAll (trk h H) e;refine⟨e',?_⟩
 cases q:H b with
 | none=>rfl
 | some x=>
  have hm:b∈trk h H:=List.mem_filter.mpr ⟨List.mem_range.mpr (Heap.lt_size e'),by simp[q]⟩;have z:(hidT h H).get? b=none:=PySem.W.hideAll_none (trk h H) hm;rw[z] at e; cases e
def BmAt (mg:Str->Option Value)(h:Heap):Prop:=∃bm ob,mg "__builtins__"=some (.ref bm)/\bm≠builtinsNs/\h.get? bm=some ob/\ob.cls = .type "module"/\ob.dict=some builtinsNs/\ob.data = .plain
def zbK (fd:FuncData):Option Pos:=match fd.body with
 | .stmts b=>(match b.getLast? with
  | some (.Return (some (.Call _ _ [⟨_,.Lambda _ _ _ pos,_⟩] _)) _)=>some pos
  | _=>none)
 | _=>none
def zaM (K:W.Frag)(c:Addr):Option Addr:=match K.lookup c with
 | some ⟨.type "code",_,.fields vs,_⟩=>(match (vs[11]? : Option Value) with | some (.ref P)=>if (K.lookup P).isNone then some P else none | _=>none)
 | _=>none
def tsOf (K:W.Frag):List (Addr × Nat × Nat × Str):=K.filterMap λp=>match p.2.data with
 | .func fd=>(match zbK fd,fd.code with
  | some pos,.ref c=>(zaM K c).map λP=>(P,pos.line,pos.col,fd.qualname++".<locals>."++"<lambda>")
  | _,_=>none)
 | _=>none
def encT (t:Nat × Nat × Str):Array Value := #[rawInt t.1,rawInt t.2.1,.str t.2.2 0]
def Tbs (K:W.Frag)(H:Hp):Prop:=∀P t,(tsOf K).lookup P=some t->∃more,H P=some (.tbl (encT t++more))
structure Mod (K:W.Frag)(mg:Str->Option Value)(base:Heap):Prop where
 kin:K.In base
 glob:base.Ns mainGlobals mg
 blt:∃mb,base.Ns builtinsNs mb/\∀x:Str,x≠"__name__"->mb x=bootBuiltins x
 nolimit:base.NoLimit
 bm:BmAt mg base
structure Cx where
 prog:Program
 w:World
 K:W.Frag
 mg:Str->Option Value
 base:Heap
 A:Around
 N:List Str
 s₀:Shared
 H₀:Hp
 env:Env
 outer:List Env
 stack:List Env
 ex:List Addr
 fn:Str->Bool
 calm:Bool
 pn:List (Addr × Obj)
 xe:Value->Shared->Prop
def frs (l:List Env):List Addr:=l.filterMap (·.frame)
abbrev Cx.fs (X:Cx):List Addr:=frs X.outer
def Vis (sc:Scope)(x:Str):Prop:=sc.names.lookup x=some .local\/sc.names.lookup x=some .cell\/sc.names.lookup x=some .free
def Loc (sc:Scope)(x:Str):Prop:=sc.names.lookup x=some .local\/sc.names.lookup x=some .cell
def Look (env:Env)(h:Heap)(m:Str->Option Value)(x:Str)(u:Value):Prop:=
 (env.kindOf x=some .local/\m x=some u)\/((env.kindOf x=some .cell\/env.kindOf x=some .free)/\∃c,env.cells.lookup x=some c/\h.IsCell c (some u))
structure Cx.Ok (X:Cx):Prop where
 mod:Mod X.K X.mg X.base
 kind:X.env.scope.kind = .function
 glob:X.env.globals=mainGlobals
 blt:X.env.builtins=builtinsNs
 above:X.s₀.heap.objs.size<=X.env.locals
 inj:∀x y c,X.env.cells.lookup x=some c->X.env.cells.lookup y=some c->x=y
 has:∀x,(X.env.kindOf x=some .cell\/X.env.kindOf x=some .free)->∃c,X.env.cells.lookup x=some c
 cab:∀x c,X.fn x=true->X.env.cells.lookup x=some c->X.s₀.heap.objs.size<=c
 hd:X.calm=true->X.A.handled=none
 frames:X.A.frames=some X.stack
 stk:X.stack=X.outer\/(X.stack=X.env::X.outer/\X.env.frame=some X.env.locals)
 exf:∀b∈X.ex,b≠X.env.locals/\∀x c,X.env.cells.lookup x=some c->c≠b
 bs:∀b o,X.base.get? b=some o->X.s₀.heap.get? b=some o/\X.H₀ b=none
 bsz:X.base.objs.size<=X.s₀.heap.objs.size
 noex:∀b o,X.base.get? b=some o->b ∉ X.ex
 exfs:∀b∈X.ex,b ∉ X.fs
 funs:X.s₀.heap.FunFrames X.base X.outer
 frf:∀b∈X.fs,X.H₀ b=none
 tbs:Tbs X.K X.H₀
structure Inv (X:Cx)(pins:List (Addr × Obj))(σ:List (Option V))(H:Hp)(s:Shared):Prop where
 ok:X.Ok
 os:s.os=X.s₀.os
 bare:AllBare s.gens
 base:Un X.fs X.ex X.H₀ H X.s₀.heap s.heap
 loc:∃m,s.heap.Ns X.env.locals m/\∀(i:Nat) (x:Str) (v:V),X.N[i]? = some x->σ[i]? = some (some v)->Vis X.env.scope x->∃u,RelV v u/\Look X.env s.heap m x u
 cell:∀x c,X.env.cells.lookup x=some c->∃v,s.heap.IsCell c v
 free:H X.env.locals=none
 freeC:∀x c,X.env.cells.lookup x=some c->H c=none
 pin:∀p∈X.pn++pins,s.heap.get? p.1=some p.2/\H p.1=none/\p.1≠X.env.locals/\p.1 ∉ X.fs/\∀v,p.2.data ≠ .cell v
 hok:HOk X.prog X.w H s.heap
 len:σ.length=X.N.length
section
variable {X:Cx}{pins:List (Addr × Obj)}{σ:List (Option V)}{H H':Hp}{s:Shared}{h':Heap}
def Cx.Ok.nofr (ok:X.Ok){b:Addr}{o:Obj}(e:X.base.get? b=some o):b ∉ X.fs:=λhb=>by
 have:=(ok.funs.mem hb).1;rw[e] at this; cases this
def Inv.bs (I:Inv X pins σ H s):∀b o,X.base.get? b=some o->s.heap.get? b=some o/\H b=none:=λb o e=>
 ⟨I.base.keep b o (I.ok.bs b o e).1 (I.ok.bs b o e).2 (I.ok.nofr e) (I.ok.noex b o e),I.base.free b o (I.ok.bs b o e).1 (I.ok.bs b o e).2 (I.ok.noex b o e)⟩
def Inv.bk (I:Inv X pins σ H s):∀b o,X.base.get? b=some o->s.heap.get? b=some o:=λb o e=>(I.bs b o e).1
def Inv.mod (I:Inv X pins σ H s):Mod X.K X.mg X.base:=I.ok.mod
def Inv.kIn (I:Inv X pins σ H s):X.K.In s.heap:=I.ok.mod.kin.keeps I.bk
def Inv.nolimit (I:Inv X pins σ H s):s.heap.NoLimit:=I.ok.mod.nolimit.keeps I.bk
def Inv.lt (I:Inv X pins σ H s):X.env.locals<s.heap.objs.size:=let ⟨_,hn,_⟩:=I.loc; hn.lt
def Inv.sz (I:Inv X pins σ H s):X.s₀.heap.objs.size<=s.heap.objs.size:=Nat.le_trans I.ok.above (Nat.le_of_lt I.lt)
def Inv.nofs (I:Inv X pins σ H s){a:Addr}(h:s.heap.objs.size<=a):a ∉ X.fs:=λhb=>by
 obtain⟨_,o,ho,_⟩:=I.ok.funs.mem hb;exact absurd (Nat.lt_of_lt_of_le (Heap.lt_size ho) (Nat.le_trans I.sz h)) (Nat.lt_irrefl _)
def Inv.cne (I:Inv X pins σ H s):∀x c,X.env.cells.lookup x=some c->c≠X.env.locals:=λx c e z=>by
 obtain⟨v,o,ho,hd⟩:=I.cell x c e;obtain⟨m,⟨o',es,ep,ho',hd',_⟩,_⟩:=I.loc;rw[z,ho'] at ho; cases ho; rw[hd'] at hd; cases hd
def Inv.funs (I:Inv X pins σ H s):s.heap.FunFrames X.base X.outer:=by
 have all:∀(l:List Env),(∀b∈frs l,b∈X.fs)->X.s₀.heap.FunFrames X.base l->s.heap.FunFrames X.base l:=by
  intro l
  induction l with
  | nil=>intro _ _; trivial
  | cons env r ih=>
   intro hs hl;obtain⟨hk,⟨L,o,hf,hn,ho,hd⟩,hr⟩:=hl;have hL:L∈X.fs:=hs L (by unfold frs; rw[List.filterMap_cons,hf]; exact List.mem_cons_self);obtain⟨sl,e⟩:=I.base.slot L o ho (I.ok.frf L hL) hL λz=>I.ok.exfs L z hL;exact⟨hk,⟨L,_,hf,hn,e,hd⟩,ih (λb hb=>hs b (by unfold frs; rw[List.filterMap_cons,hf]; exact List.mem_cons_of_mem _ hb)) hr⟩
 exact all X.outer (λ_ hb=>hb) I.ok.funs
def Inv.stack (I:Inv X pins σ H s):s.heap.FunFrames X.base X.stack:=by
 rcases I.ok.stk with e | ⟨e,hf⟩
 ·rw[e]; exact I.funs
 ·rw[e];obtain⟨m,hn,_⟩:=I.loc;refine .cons (by rw[I.ok.kind]; decide) hf hn ?_ I.funs;exact Heap.get?_none_of_le (Nat.le_trans I.ok.bsz I.ok.above)
def Inv.stkSub (I:Inv X pins σ H s):∀b∈frs X.stack,b∈X.env.locals::X.fs:=λb hb=>by
 rcases I.ok.stk with e | ⟨e,hf⟩
 ·rw[e] at hb; exact List.mem_cons_of_mem _ hb
 ·rw[e] at hb;unfold frs at hb;rw[List.filterMap_cons,hf] at hb;exact hb
def Inv.stkFree (I:Inv X pins σ H s):∀b∈frs X.stack,H b=none:=λb hb=>by
 rcases List.mem_cons.mp (I.stkSub b hb) with e | hb
 ·rw[e]; exact I.free
 ·obtain⟨_,o,ho,_⟩:=I.ok.funs.mem hb;exact I.base.free b o ho (I.ok.frf b hb) λz=>I.ok.exfs b z hb
def Inv.tbs (I:Inv X pins σ H s):Tbs X.K H:=λP t e=>by
 obtain⟨m1,e1⟩:=I.ok.tbs P t e;obtain⟨m2,e2⟩:=I.base.tbls P _ e1;exact⟨m1++m2,by rw[e2,Array.append_assoc]⟩
def Inv.step {g':Array GenState}{t':Nat}{d':Drawn}{ch:List Addr}(I:Inv X pins σ H s)
  (hch:∀b∈ch,(b∈X.ex\/X.s₀.heap.objs.size<=b)/\b≠X.env.locals/\(∀x c,X.env.cells.lookup x=some c->c≠b)/\∀p∈X.pn++pins,p.1≠b)
  (keep:∀b o,b≠X.env.locals->b ∉ X.fs->b ∉ ch->s.heap.get? b=some o->H b=none->h'.get? b=some o)
  (slot:∀b o,b≠X.env.locals->b∈X.fs->b ∉ ch->s.heap.get? b=some o->H b=none->∃sl,h'.get? b=some { o with slots:=sl }) (free:∀b o,b ∉ ch->s.heap.get? b=some o->H b=none->H' b=none)
  (there:∀b o,b ∉ ch->s.heap.get? b=some o->∃o',h'.get? b=some o')
  (tups:∀b xs,H b=some (.tup xs)->H' b=some (.tup xs)) (frzs:∀b o u,H b=some (.frz o u)->H' b=some (.frz o u)) (tbls:∀b ps,H b=some (.tbl ps)->∃more,H' b=some (.tbl (ps++more)))
  (ns:∀m,s.heap.Ns X.env.locals m->h'.Ns X.env.locals m) (hok:HOk X.prog X.w H' h') (hg:AllBare g'):
  Inv X pins σ H' { s with heap:=h',gens:=g',drawn:=d',toks:=t' }:=by
 have neL:∀b o,X.s₀.heap.get? b=some o->b≠X.env.locals:=λb o e=>Nat.ne_of_lt (Nat.lt_of_lt_of_le (Heap.lt_size e) I.ok.above);have neC:∀b o,X.s₀.heap.get? b=some o->b ∉ X.ex->b ∉ ch:=λb o e hx hb=>by
  rcases(hch b hb).1 with z | z
  ·exact hx z
  ·exact absurd (Nat.lt_of_lt_of_le (Heap.lt_size e) z) (Nat.lt_irrefl _)
 have cellK:∀x c,X.env.cells.lookup x=some c->∀v,s.heap.IsCell c v->h'.IsCell c v:=λx c e v ⟨o,ho,hd⟩=>by
  have nch:c ∉ ch:=λz=>(hch c z).2.2.1 x c e rfl
  by_cases hc:c∈X.fs
  ·obtain⟨sl,q⟩:=slot c o (I.cne x c e) hc nch ho (I.freeC x c e);exact⟨_,q,hd⟩
  ·exact⟨o,keep c o (I.cne x c e) hc nch ho (I.freeC x c e),hd⟩
 refine⟨I.ok,I.os,hg,⟨λb o e n hb hx =>?_,λb o e n hb hx =>?_,λb o e n hx =>?_,λb o e hx =>?_,λb xs e=>tups b xs (I.base.tups b xs e),λb o xs e=>frzs b o xs (I.base.frzs b o xs e),λb ps e =>?_⟩,?_,λx c e =>?_,?_,λx c e =>?_,λp hp =>?_,hok,I.len⟩
 ·exact keep b o (neL b o e) hb (neC b o e hx) (I.base.keep b o e n hb hx) (I.base.free b o e n hx)
 ·obtain⟨sl,e1⟩:=I.base.slot b o e n hb hx;obtain⟨sl',e2⟩:=slot b _ (neL b o e) hb (neC b o e hx) e1 (I.base.free b o e n hx);exact⟨sl',e2⟩
 ·obtain⟨o',e1⟩:=I.base.there b o e hx;exact free b o' (neC b o e hx) e1 (I.base.free b o e n hx)
 ·obtain⟨o',e1⟩:=I.base.there b o e hx;exact there b o' (neC b o e hx) e1
 ·obtain⟨m1,e1⟩:=I.base.tbls b ps e;obtain⟨m2,e2⟩:=tbls b _ e1;exact⟨m1++m2,by rw[e2,Array.append_assoc]⟩
 ·obtain⟨m,hn,hl⟩:=I.loc;refine⟨m,ns m hn,λi x v e1 e2 e3 =>?_⟩;obtain⟨u,r,l⟩:=hl i x v e1 e2 e3;refine⟨u,r,?_⟩
  rcases l with l | ⟨k,c,e,z⟩
  ·exact .inl l
  ·exact .inr ⟨k,c,e,cellK x c e _ z⟩
 ·obtain⟨v,z⟩:=I.cell x c e;exact⟨v,cellK x c e v z⟩
 ·obtain⟨m,⟨o,_,_,ho,_⟩,_⟩:=I.loc;exact free _ o (λz=>(hch _ z).2.1 rfl) ho I.free
 ·obtain⟨v,o,ho,hd⟩:=I.cell x c e;exact free c o (λz=>(hch c z).2.2.1 x c e rfl) ho (I.freeC x c e)
 ·obtain⟨e,n,ne,nf,d⟩:=I.pin p hp;have nch:p.1 ∉ ch:=λz=>(hch p.1 z).2.2.2 p hp rfl;exact⟨keep p.1 p.2 ne nf nch e n,free p.1 p.2 nch e n,ne,nf,d⟩
def Inv.un {t':Nat}(I:Inv X pins σ H s)(u:Un X.fs [] H H' s.heap h')(hok:HOk X.prog X.w H' h'):Inv X pins σ H' { s with heap:=h',toks:=t' }:=by
 obtain⟨m,⟨o,es,ep,ho,r⟩,_⟩:=id I.loc;obtain⟨sl,hL⟩:=u.any ho I.free (by simp);exact I.step (g':=s.gens) (d':=s.drawn) (ch:=[]) (λ_ z=>nomatch z) (λb o _ hb _ e n=>u.keep b o e n hb (by simp)) (λb o _ hb _ e n=>u.slot b o e n hb (by simp)) (λb o _ e n=>u.free b o e n (by simp)) (λb o _ e=>u.there b o e (by simp)) u.tups u.frzs u.tbls (λm' hm=>by
  obtain⟨o',es',ep',ho',r'⟩:=hm;rw[ho] at ho'; cases ho';exact⟨_,es',ep',hL,r'⟩) hok I.bare
def Inv.call {g':Array GenState}{t':Nat}{d':Drawn}{ch:List Addr}(I:Inv X pins σ H s)(u:Un (frs X.stack) ch H H' s.heap h')(hok:HOk X.prog X.w H' h')(hg:AllBare g')
  (hch:∀b∈ch,(b∈X.ex\/X.s₀.heap.objs.size<=b)/\b≠X.env.locals/\(∀x c,X.env.cells.lookup x=some c->c≠b)/\∀p∈X.pn++pins,p.1≠b):
  Inv X pins σ H' { s with heap:=h',gens:=g',drawn:=d',toks:=t' }:=by
 obtain⟨m,⟨o,es,ep,ho,r⟩,_⟩:=id I.loc;obtain⟨sl,hL⟩:=u.any ho I.free λz=>(hch _ z).2.1 rfl;exact I.step (ch:=ch) hch (λb o hL hb hc e n=>u.keep b o e n (λz=>(List.mem_cons.mp (I.stkSub b z)).elim hL hb) hc) (λb o _ _ hc e n=>u.any e n hc) (λb o hc e n=>u.free b o e n hc) (λb o hc e=>u.there b o e hc) u.tups u.frzs u.tbls (λm' hm=>by
  obtain⟨o',es',ep',ho',r'⟩:=hm;rw[ho] at ho'; cases ho';exact⟨_,es',ep',hL,r'⟩) hok hg
def Inv.turned {t':Nat}{it:Addr}(I:Inv X pins σ H s)(k:∀b o,b≠it->s.heap.get? b=some o->h'.get? b=some o)(hn:H it=none)(hL:it≠X.env.locals)
  (h1:it∈X.ex\/X.s₀.heap.objs.size<=it) (h2:∀x c,X.env.cells.lookup x=some c->c≠it) (h3:∀p∈X.pn++pins,p.1≠it):Inv X pins σ H { s with heap:=h',toks:=t' }:=by
 have nit:∀b u,H b=some u->b≠it:=λb u e z=>by rw[z,hn] at e; cases e
 refine I.step (g':=s.gens) (d':=s.drawn) (ch:=[it]) (λb hb =>?_) (λb o _ _ hc e _=>k b o (λz=>hc (by simp[z])) e) (λb o _ _ hc e _=>⟨o.slots,k b o (λz=>hc (by simp[z])) e⟩) (λ_ _ _ _ n=>n)
  (λb o hc e=>⟨o,k b o (λz=>hc (by simp[z])) e⟩) (λ_ _ e=>e) (λ_ _ _ e=>e) (λb ps e=>⟨#[],by rw[e]; simp⟩) (λm hm =>?_) (λb u e =>?_) I.bare
 ·have e:b=it:=by simpa using hb
  subst e;exact⟨h1,hL,h2,h3⟩
 ·obtain⟨o,es,ep,ho,r⟩:=hm;exact⟨o,es,ep,k _ o (Ne.symm hL) ho,r⟩
 ·refine(I.hok b u e).stay (λc v hc q=>k c v ?_ q) (λ_ q=>q) λ_ _ q=>q
  rcases hc with z | z
  ·rw[z]; exact nit b u e
  ·exact nit c _ z
def Inv.tok (I:Inv X pins σ H s)(t:Nat):Inv X pins σ H { s with toks:=t }:=I.un (h':=s.heap) (t':=t) Un.refl I.hok
def Inv.kept {t':Nat}(I:Inv X pins σ H s)(k:∀b u,s.heap.get? b=some u->h'.get? b=some u):Inv X pins σ H { s with heap:=h',toks:=t' }:=I.un (Un.kept k) (I.hok.kept k)
def Inv.laid {a:Addr}{o:HO}{t':Nat}(I:Inv X pins σ H s)(k:∀b u,s.heap.get? b=some u->h'.get? b=some u)(hp:s.heap.objs.size<=a)(new:z2o X.prog X.w (upd H a o) h' a o):
  Inv X pins σ (upd H a o) { s with heap:=h',toks:=t' }:=I.un (Un.laid k hp (I.hok.fresh hp)) (I.hok.laid k hp new)
def Inv.write {x e:Addr}{o:HO}{t':Nat}(I:Inv X pins σ H s)(mu:Mut (H x))(he:e=x\/H e=some (.own x))(k:∀b u,b≠e->s.heap.get? b=some u->h'.get? b=some u)(heo:∃u,h'.get? e=some u)
  (new:z2o X.prog X.w (upd H x o) h' x o):Inv X pins σ (upd H x o) { s with heap:=h',toks:=t' }:=I.un (Un.write mu he k heo) (I.hok.write mu he k heo new)
def Inv.pins_of {pins':List (Addr × Obj)}(I:Inv X pins σ H s)(h:∀p∈pins',s.heap.get? p.1=some p.2/\H p.1=none/\p.1≠X.env.locals/\p.1 ∉ X.fs/\∀v,p.2.data ≠ .cell v):Inv X pins' σ H s:=
 ⟨I.ok,I.os,I.bare,I.base,I.loc,I.cell,I.free,I.freeC,λp hp=>(List.mem_append.mp hp).elim (λz=>I.pin p (List.mem_append_left _ z)) (h p),I.hok,I.len⟩
def zbH {N:List Str}(hN:N.Nodup){i j:Nat}{x:Str}(a:N[i]? = some x)(b:N[j]? = some x):i=j:=by
 obtain⟨h1,e1⟩:=List.getElem?_eq_some_iff.mp a;obtain⟨h2,e2⟩:=List.getElem?_eq_some_iff.mp b;exact(List.getElem_inj hN).mp (e1.trans e2.symm)
def z9J {M:Model}{A:Around}{E:Value->Shared->Prop}{i:Nat}{x:Str}{v:V}{u:Value}{Q:Unit->Shared->Prop}(I:Inv X pins σ H s)(hN:X.N.Nodup)(hi:X.N[i]? = some x)(hx:Loc X.env.scope x)(r:RelV v u)
  (h:∀s',Inv X pins (σ.set i (some v)) H s'->(∃a,Heap.SameBut a s.heap s'.heap/\(a=X.env.locals\/X.env.cells.lookup x=some a))->Q () s') (hf:X.fn x=true\/X.env.scope.names.lookup x=some .local:=by first | exact .inl rfl | exact .inr rfl | assumption):wpAny M A (storeName X.env x u) Q E s:=by
 obtain⟨m,hn,hl⟩:=id I.loc;have hcls:(X.env.scope.kind == .class || (X.env.scope.kind == .module && X.env.locals != X.env.globals))=false:=by rw[I.ok.kind]; rfl
 have hiσ:i < σ.length:=by rw[I.len]; exact(List.getElem?_eq_some_iff.mp hi).1
 have cne:=I.cne;have tracked:∀{a:Addr}{h':Heap},(∃o,s.heap.get? a=some o/\H a=none)->Heap.SameBut a s.heap h'->HOk X.prog X.w H h':=λ{a h'} ha hs b ob e=>by
  obtain⟨_,_,hfree⟩:=ha;refine(I.hok b ob e).stay (λc w' hc q=>(hs.2 c ?_).trans q) (λ_ q=>q) λ_ _ q=>q;rintro rfl
  rcases hc with rfl | hc
  ·rw[hfree] at e; cases e
  ·rw[hfree] at hc; cases hc
 rcases hx with hk | hk
 ·refine wpAny_storeName_local hk hn (λh' hn' hs =>?_) hcls;obtain⟨oL,_,_,hoL,_⟩:=id hn;refine h _ ⟨I.ok,I.os,I.bare,⟨λb o e n hb hx =>?_,λb o e n hb hx =>?_,I.base.free,λb o e hx =>?_,I.base.tups,I.base.frzs,I.base.tbls⟩,⟨_,hn',λj y v' e1 e2 e3 =>?_⟩,λy c e =>?_,I.free,I.freeC,λp hp =>?_,tracked ⟨oL,hoL,I.free⟩ hs,by simpa using I.len⟩ ⟨_,hs,.inl rfl⟩
  ·exact(hs.2 b (Nat.ne_of_lt (Nat.lt_of_lt_of_le (Heap.lt_size e) I.ok.above))).trans (I.base.keep b o e n hb hx)
  ·obtain⟨sl,e1⟩:=I.base.slot b o e n hb hx;exact⟨sl,(hs.2 b (Nat.ne_of_lt (Nat.lt_of_lt_of_le (Heap.lt_size e) I.ok.above))).trans e1⟩
  ·obtain⟨o',e1⟩:=I.base.there b o e hx;exact⟨o',(hs.2 b (Nat.ne_of_lt (Nat.lt_of_lt_of_le (Heap.lt_size e) I.ok.above))).trans e1⟩
  ·by_cases hj:j=i
   ·subst hj;rw[hi] at e1; cases e1;rw[List.getElem?_set_self hiσ] at e2
    cases e2
    exact⟨u,r,.inl ⟨hk,by simp⟩⟩
   ·rw[List.getElem?_set_ne (Ne.symm hj)] at e2;obtain⟨u',r',q⟩:=hl j y v' e1 e2 e3;refine⟨u',r',?_⟩
    rcases q with ⟨k,e⟩ | ⟨k,c,e,z⟩
    ·refine .inl ⟨k,?_⟩;have:y≠x:=λe=>hj (zbH hN e1 (e ▸ hi));simp[this,e]
    ·exact .inr ⟨k,c,e,z.sameBut hs (cne y c e)⟩
  ·obtain⟨w',z⟩:=I.cell y c e;exact⟨w',z.sameBut hs (cne y c e)⟩
  ·obtain⟨e,n,ne,nf,d⟩:=I.pin p hp;exact⟨(hs.2 p.1 ne).trans e,n,ne,nf,d⟩
 ·have hfn:X.fn x=true:=by
   rcases hf with z | z
   ·exact z
   ·rw[z] at hk; cases hk
  obtain⟨c,hc⟩:=I.ok.has x (.inl hk);obtain⟨w',z⟩:=I.cell x c hc;refine wpAny_storeName_cell I.ok.kind hk hc z (λh' hc' hs =>?_);obtain⟨oc,hoc,hocd⟩:=id z;refine h { s with heap:=h' } ⟨I.ok,I.os,I.bare,⟨λb o e n hb hx =>?_,λb o e n hb hx =>?_,I.base.free,λb o e hx =>?_,I.base.tups,I.base.frzs,I.base.tbls⟩,⟨m,hn.sameBut hs (Ne.symm (cne x c hc)),λj y v' e1 e2 e3 =>?_⟩,λy c' e =>?_,I.free,I.freeC,λp hp =>?_,tracked ⟨oc,hoc,I.freeC x c hc⟩ hs,by simpa using I.len⟩ ⟨c,hs,.inr hc⟩
  ·exact(hs.2 b (Nat.ne_of_lt (Nat.lt_of_lt_of_le (Heap.lt_size e) (I.ok.cab x c hfn hc)))).trans (I.base.keep b o e n hb hx)
  ·obtain⟨sl,e1⟩:=I.base.slot b o e n hb hx;exact⟨sl,(hs.2 b (Nat.ne_of_lt (Nat.lt_of_lt_of_le (Heap.lt_size e) (I.ok.cab x c hfn hc)))).trans e1⟩
  ·obtain⟨o',e1⟩:=I.base.there b o e hx;exact⟨o',(hs.2 b (Nat.ne_of_lt (Nat.lt_of_lt_of_le (Heap.lt_size e) (I.ok.cab x c hfn hc)))).trans e1⟩
  ·by_cases hj:j=i
   ·subst hj;rw[hi] at e1; cases e1;rw[List.getElem?_set_self hiσ] at e2
    cases e2
    exact⟨u,r,.inr ⟨.inl hk,c,hc,hc'⟩⟩
   ·rw[List.getElem?_set_ne (Ne.symm hj)] at e2;obtain⟨u',r',q⟩:=hl j y v' e1 e2 e3;refine⟨u',r',?_⟩
    rcases q with q | ⟨k,c',e,z'⟩
    ·exact .inl q
    ·refine .inr ⟨k,c',e,z'.sameBut hs ?_⟩;rintro rfl;exact hj (zbH hN e1 (I.ok.inj _ _ _ e hc ▸ hi))
  ·by_cases hcc:c'=c
   ·subst hcc; exact⟨_,hc'⟩
   ·obtain⟨w2,z2⟩:=I.cell y c' e;exact⟨w2,z2.sameBut hs hcc⟩
  ·obtain⟨e,n,ne,nf,d⟩:=I.pin p hp;refine⟨(hs.2 p.1 ?_).trans e,n,ne,nf,d⟩;intro q;rw[q,hoc] at e;have q':oc=p.2:=Option.some.inj e;exact d w' (by rw[<- q']; exact hocd)
def zbm {M:Model}{A:Around}{E:Value->Shared->Prop}{i:Nat}{x:Str}{v:V}{u:Value}{Q:Unit->Shared->Prop}(I:Inv X pins σ H s)(hN:X.N.Nodup)(hi:X.N[i]? = some x)(hx:Loc X.env.scope x)(r:RelV v u)
  (h:∀s',Inv X pins (σ.set i (some v)) H s'->Q () s') (hf:X.fn x=true\/X.env.scope.names.lookup x=some .local:=by first | exact .inl rfl | exact .inr rfl | assumption):wpAny M A (storeName X.env x u) Q E s:=
 z9J I hN hi hx r (λs' I' _=>h s' I') hf
def Inv.call' {s':Shared}{ch:List Addr}(I:Inv X pins σ H s)(ho:s'.os=s.os)(u:Un (frs X.stack) ch H H' s.heap s'.heap)(hok:HOk X.prog X.w H' s'.heap)(hg:AllBare s'.gens)
  (hch:∀b∈ch,(b∈X.ex\/X.s₀.heap.objs.size<=b)/\b≠X.env.locals/\(∀x c,X.env.cells.lookup x=some c->c≠b)/\∀p∈X.pn++pins,p.1≠b):Inv X pins σ H' s':=by
 obtain⟨h',g',d',t',o'⟩:=s';have e:o'=s.os:=ho;subst e;exact I.call (g':=g') (t':=t') (d':=d') u hok hg hch
end
abbrev XK:=Value->Option Addr->Hp->Prop
abbrev St:=List (Option V)
abbrev VK:=V->Hp->Prop
abbrev TE:=St->Hp->VK->Prop
abbrev TT:=St->Hp->(Bool->Hp->Prop)->Prop
abbrev TA:=St->Hp->(List V->Hp->Prop)->Prop
structure Ends where
 nx:St->Hp->Prop
 rt:VK
 bk:St->Hp->Prop:=λ_ _=>False
 ct:St->Hp->Prop:=λ_ _=>False
abbrev TS:=Ends->St->Hp->Prop
def EP (X:Cx)(pins:List (Addr × Obj))(σ:St)(Q:VK)(u:Value)(s':Shared):Prop:=∃v H',Inv X pins σ H' s'/\RelV v u/\Q v H'
def TP (X:Cx)(pins:List (Addr × Obj))(σ:St)(Q:Bool->Hp->Prop)(b:Bool)(s':Shared):Prop:=∃H',Inv X pins σ H' s'/\Q b H'
def AP (X:Cx)(pins:List (Addr × Obj))(σ:St)(Q:List V->Hp->Prop)(us:List Value)(s':Shared):Prop:=∃vs H',Inv X pins σ H' s'/\Vals vs us/\Q vs H'
def SP (X:Cx)(pins:List (Addr × Obj))(D:Ends)(f:Flow)(s':Shared):Prop:=
 match f with
 | .next=>∃σ' H',Inv X pins σ' H' s'/\D.nx σ' H'
 | .brk=>∃σ' H',Inv X pins σ' H' s'/\D.bk σ' H'
 | .cont=>∃σ' H',Inv X pins σ' H' s'/\D.ct σ' H'
 | .ret u=>∃v σ' H',Inv X pins σ' H' s'/\RelV v u/\D.rt v H'
def PE (X:Cx)(e:Expr)(t:TE):Prop:=
 ∀(pins:List (Addr × Obj)) (s:Shared) (σ:St) (H:Hp) (Q:VK),Inv X pins σ H s->t σ H Q->wpAny (model X.prog X.w) X.A (eval e X.env) (EP X pins σ Q) X.xe s
def PT (X:Cx)(e:Expr)(t:TT):Prop:=
 ∀(pins:List (Addr × Obj)) (s:Shared) (σ:St) (H:Hp) (Q:Bool->Hp->Prop),Inv X pins σ H s->t σ H Q->wpAny (model X.prog X.w) X.A (isTrue e X.env (eval e X.env)) (TP X pins σ Q) X.xe s
def PW (X:Cx)(e:Expr)(t:TT):Prop:=
 ∀(whole:Sem Value) (pins:List (Addr × Obj)) (s:Shared) (σ:St) (H:Hp) (Q:Bool->Hp->Prop),Inv X pins σ H s->t σ H Q->wpAny (model X.prog X.w) X.A (isTrue e X.env whole) (TP X pins σ Q) X.xe s
def PW.pt {X:Cx}{e:Expr}{t:TT}(h:PW X e t):PT X e t:=h _
def PA (X:Cx)(es:List Expr)(t:TA):Prop:=
 ∀(pos:Pos) (pins:List (Addr × Obj)) (s:Shared) (σ:St) (H:Hp) (Q:List V->Hp->Prop),Inv X pins σ H s->t σ H Q->wpAny (model X.prog X.w) X.A (spliced (backTo pos (starEach es X.env))) (AP X pins σ Q) X.xe s
def PS (X:Cx)(st:Stmt)(t:TS):Prop:=
 ∀(pins:List (Addr × Obj)) (s:Shared) (σ:St) (H:Hp) (D:Ends),Inv X pins σ H s->t D σ H->wpAny (model X.prog X.w) X.A (exec st X.env) (SP X pins D) X.xe s
def PSs (X:Cx)(st:List Stmt)(t:TS):Prop:=
 ∀(pins:List (Addr × Obj)) (s:Shared) (σ:St) (H:Hp) (D:Ends),Inv X pins σ H s->t D σ H->wpAny (model X.prog X.w) X.A (execs st X.env) (SP X pins D) X.xe s
def thn {α:Type}{t:Sem α}{Q Q':α->Shared->Prop}{M:Model}{A:Around}{E:Value->Shared->Prop}{s:Shared}(h:wpAny M A t Q E s)(hQ:∀a s,Q a s->Q' a s):wpAny M A t Q' E s:=wpAny_mono h hQ λ_ _ x=>x
section
variable {X:Cx}
def tVar (i:Nat):TE:=λσ H Q=>∃v,σ[i]? = some (some v)/\Q v H
def tC (v:V):TE:=λ_ H Q=>Q v H
def zfQ {i:Nat}{x:Str}{pos:Pos}(hN:X.N[i]? = some x)(hv:Vis X.env.scope x)(hd:(x == ("__debug__":Str))=false:=by decide)(hcd:(x == ("__classdict__":Str))=false:=by decide):PE X (.Name x pos) (tVar i):=by
 intro pins s σ H Q I h;obtain⟨v,e,h⟩:=h;obtain⟨m,hn,hl⟩:=I.loc;obtain⟨u,r,l⟩:=hl i x v hN e hv;have fin:EP X pins σ Q u s:=⟨v,H,I,r,h⟩
 rcases l with ⟨hk,hm⟩ | ⟨hk,c,hc,hcell⟩
 ·exact wpAny_Name (wpAny_loadName_local I.ok.kind hk hn hm fin) hd
 ·rcases hk with hk | hk
  ·exact wpAny_Name (wpAny_loadName_cell I.ok.kind hk hc hcell fin) hd
  ·exact wpAny_Name (wpAny_loadName_free I.ok.kind hk hc hcell fin hcd) hd
def zis {i j pos}:PE X (.Constant (.int i) j pos) (tC (.int i)):=λ_ _ _ H _ I h=>wpAny_Constant_int ⟨.int i,H,I.tok _,⟨_,rfl⟩,h⟩
def zkh {b j pos}:PE X (.Constant (.bool b) j pos) (tC (.bl b)):=λ_ _ _ H _ I h=>Constant_bool ⟨.bl b,H,I,rfl,h⟩
def Gl (X:Cx)(x:Str):Prop:=X.env.kindOf x=some .globalImplicit
def zdI {E:Value->Shared->Prop}{pins:List (Addr × Obj)}{s:Shared}{σ:St}{H:Hp}{x:Str}{u:Value}{pos:Pos}{Q:Value->Shared->Prop}(I:Inv X pins σ H s)(hg:Gl X x)(hm:X.mg x=some u)(h:Q u s)
  (hd:(x == ("__debug__":Str))=false:=by decide):wpAny (model X.prog X.w) X.A (eval (.Name x pos) X.env) Q E s:=
 Calls.Name_function_global I.ok.kind hg (Calls.loadGlobal_global (by rw[I.ok.glob]; exact I.mod.glob.keeps I.bk) hm h) hd
def z6H {E:Value->Shared->Prop}{pins:List (Addr × Obj)}{s:Shared}{σ:St}{H:Hp}{x:Str}{u:Value}{pos:Pos}{Q:Value->Shared->Prop}(I:Inv X pins σ H s)(hg:Gl X x)(hm:X.mg x=none)(hv:bootBuiltins x=some u)(h:Q u s)
  (hn:x≠"__name__":=by decide) (hd:(x == ("__debug__":Str))=false:=by decide):wpAny (model X.prog X.w) X.A (eval (.Name x pos) X.env) Q E s:=by
 obtain⟨mb,h1,h2⟩:=I.mod.blt;exact Calls.Name_function_global I.ok.kind hg (Calls.loadGlobal_builtin (by rw[I.ok.glob]; exact I.mod.glob.keeps I.bk) hm (by rw[I.ok.blt]; exact h1.keeps I.bk) ((h2 x hn).trans hv) h) hd
def zgG {x:Str}{v:V}{u:Value}{pos:Pos}(hg:Gl X x)(hm:X.mg x=some u)(r:RelV v u)(hd:(x == ("__debug__":Str))=false:=by decide):PE X (.Name x pos) (tC v):=
 λ_ _ _ H _ I h=>zdI I hg hm ⟨v,H,I,r,h⟩ hd
def zgJ {x:Str}{v:V}{u:Value}{pos:Pos}(hg:Gl X x)(hm:X.mg x=none)(hv:bootBuiltins x=some u)(r:RelV v u)(hn:x≠"__name__":=by decide)(hd:(x == ("__debug__":Str))=false:=by decide):PE X (.Name x pos) (tC v):=
 λ_ _ _ H _ I h=>z6H I hg hm hv ⟨v,H,I,r,h⟩ hn hd
variable {a b:Expr}{ta tb:TE}{pos:Pos}
def tB (t:TE):TT:=λσ H Q=>t σ H λx H1=>∃c,x = .bl c/\Q c H1
def zig {e:Expr}{t:TE}(h:PE X e t)(he:∀whole,isTrue e X.env whole=(do let v <- whole; standAt e.pos; holding [v] (truthy v)):=by intro _; rfl):PT X e (tB t):=by
 intro pins s σ H Q I hw;refine isTrue_plain (thn (h pins s σ H _ I hw) λv s1 ⟨x,H1,I1,r1,q1⟩ =>?_) (he _);obtain⟨d,rfl,q⟩:=q1
 cases r1
 exact wpAny_truthy_bool ⟨H1,I1,q⟩
variable {tA tB':TT}{rest:List Expr}
def tAnd (t u:TT):TT:=λσ H Q=>t σ H λc H1=>if c=true then u σ H1 Q else Q false H1
def tOr (t u:TT):TT:=λσ H Q=>t σ H λc H1=>if c=true then Q true H1 else u σ H1 Q
def tNot (t:TT):TT:=λσ H Q=>t σ H λc H1=>Q (!c) H1
def zgy (ha:PT X a tA):PW X (.BoolOp .And [a] pos) tA:=by
 intro wh pins s σ H Q I h;refine isTrue_and (thn (ha pins s σ H Q I h) λc s1 e =>?_)
 cases c with
 | true=>exact isTrue_and_nil e
 | false=>exact e
def zie (ha:PT X a tA):PW X (.BoolOp .Or [a] pos) tA:=by
 intro wh pins s σ H Q I h;refine isTrue_or (thn (ha pins s σ H Q I h) λc s1 e =>?_)
 cases c with
 | false=>exact isTrue_or_nil e
 | true=>exact e
def zif (ha:PT X a tA)(hb:PW X (.BoolOp .And (b::rest) pos) tB'):PW X (.BoolOp .And (a::b::rest) pos) (tAnd tA tB'):=by
 intro wh pins s σ H Q I h;refine isTrue_and (thn (ha pins s σ H _ I h) λc s1 ⟨H1,I1,q1⟩ =>?_)
 cases c with
 | true=>exact hb wh pins s1 σ H1 Q I1 q1
 | false=>exact⟨H1,I1,q1⟩
def zk8 (ha:PT X a tA)(hb:PW X (.BoolOp .Or (b::rest) pos) tB'):PW X (.BoolOp .Or (a::b::rest) pos) (tOr tA tB'):=by
 intro wh pins s σ H Q I h;refine isTrue_or (thn (ha pins s σ H _ I h) λc s1 ⟨H1,I1,q1⟩ =>?_)
 cases c with
 | true=>exact⟨H1,I1,q1⟩
 | false=>exact hb wh pins s1 σ H1 Q I1 q1
def zih (ha:PT X a tA):PT X (.UnaryOp .Not a pos) (tNot tA):=by
 intro pins s σ H Q I h;exact isTrue_not (ha pins s σ H (λc H1=>Q (!c) H1) I h)
def zhB (ta tb:TE):TE:=λσ H Q=>ta σ H λx H1=>∃c,x = .bl c/\if c=true then tb σ H1 Q else Q (.bl false) H1
def tOrV (ta tb:TE):TE:=λσ H Q=>ta σ H λx H1=>∃c,x = .bl c/\if c=true then Q (.bl true) H1 else tb σ H1 Q
def zhx (ta:TE):TE:=λσ H Q=>ta σ H λx H1=>∃c,x = .bl c/\Q (.bl (!c)) H1
def zin {op}{t:TE}(h:PE X a t):PE X (.BoolOp op [a] pos) t:=λpins s σ H Q I hw=>BoolOp_one (h pins s σ H Q I hw)
def ziu (ha:PE X a ta)(hb:PE X (.BoolOp .And (b::rest) pos) tb):PE X (.BoolOp .And (a::b::rest) pos) (zhB ta tb):=by
 intro pins s σ H Q I h;refine BoolOp_and (thn (ha pins s σ H _ I h) λv s1 ⟨x,H1,I1,r1,q1⟩ =>?_);obtain⟨c,rfl,q1⟩:=q1
 cases r1
 refine wpAny_truthy_bool ?_
 cases c with
 | true=>exact hb pins s1 σ H1 Q I1 q1
 | false=>exact⟨.bl false,H1,I1,rfl,q1⟩
def zkc (ha:PE X a ta)(hb:PE X (.BoolOp .Or (b::rest) pos) tb):PE X (.BoolOp .Or (a::b::rest) pos) (tOrV ta tb):=by
 intro pins s σ H Q I h;refine BoolOp_or (thn (ha pins s σ H _ I h) λv s1 ⟨x,H1,I1,r1,q1⟩ =>?_);obtain⟨c,rfl,q1⟩:=q1
 cases r1
 refine wpAny_truthy_bool ?_
 cases c with
 | false=>exact hb pins s1 σ H1 Q I1 q1
 | true=>exact⟨.bl true,H1,I1,rfl,q1⟩
def zio (ha:PE X a ta):PE X (.UnaryOp .Not a pos) (zhx ta):=by
 intro pins s σ H Q I h;refine UnaryOp_ (thn (ha pins s σ H _ I h) λv s1 ⟨x,H1,I1,r1,q1⟩ =>?_);obtain⟨c,rfl,q1⟩:=q1
 cases r1
 exact not_of (wpAny_truthy_bool ⟨.bl (!c),H1,I1,rfl,q1⟩)
end
def SqL (K:W.Frag)(H:Hp)(a:Addr)(xs:List V):Prop:=
 Rd H a (.lst xs)\/
  ∃(o:Obj) (its:Array Value) (n:Nat),K.lookup a=some o/\o.cls = .type "list"/\o.dict=none/\o.data = .seq its n/\its.size<=sizeLine/\Vals xs its.toList
def SqT (K:W.Frag)(H:Hp)(a:Addr)(xs:List V):Prop:=
 Rd H a (.tup xs)\/
  ∃(o:Obj) (its:Array Value) (n:Nat),K.lookup a=some o/\o.cls = .type "tuple"/\o.data = .seq its n/\its.size<=sizeLine/\Vals xs its.toList/\o.dict=none
def absV:Value->Option V
 | .none=>some .non
 | .bool b=>some (.bl b)
 | .int i _=>some (.int i)
 | .str x _=>some (.str x)
 | .bytes b _=>some (.byt b)
 | .float b _=>some (.flt b)
 | .ref a=>some (.ref a)
 | .type n=>some (.ty n)
 | _=>none
def RelV.abs {x:V}{u:Value}(r:RelV x u):absV u=some x:=by
 cases x with
 | non=>cases r; rfl
 | bl _=>cases r; rfl
 | int _=>obtain⟨t,rfl⟩:=r; rfl
 | str _=>obtain⟨t,rfl⟩:=r; rfl
 | byt _=>obtain⟨t,rfl⟩:=r; rfl
 | flt _=>obtain⟨t,rfl⟩:=r; rfl
 | ref _=>cases r; rfl
 | ty _=>cases r; rfl
def RelV.inj {x y:V}{u:Value}(r:RelV x u)(q:RelV y u):x=y:=Option.some.inj (r.abs.symm.trans q.abs)
def Vals.inj:∀{xs ys:List V}{us:List Value},Vals xs us->Vals ys us->xs=ys
 | _,_,_,.nil,.nil=>rfl
 | _,_,_,.cons r t,.cons r' t'=>by rw[r.inj r',Vals.inj t t']
section
variable {X:Cx}{pins:List (Addr × Obj)}{σ:St}{H:Hp}{s:Shared}{a:Addr}{xs ys:List V}
def SqL.of {K:W.Frag}(h:H a=some (.lst xs)):SqL K H a xs :=.inl (.inl h)
def SqT.of {K:W.Frag}(h:H a=some (.tup xs)):SqT K H a xs :=.inl (.inl h)
def Inv.list (I:Inv X pins σ H s)(h:SqL X.K H a xs):∃its:List Value,Vals xs its/\PlainL s.heap a its.toArray/\xs.length<=sizeLine:=by
 rcases h with h | ⟨o,its,n,hk,hc,hd,hs,hz,r⟩
 ·obtain⟨z,its,n,r,e⟩:=h.ok I.hok;exact⟨its,r,⟨_,n,e,rfl,rfl,rfl⟩,z⟩
 ·refine⟨its.toList,r,⟨o,n,I.kIn a o hk,hc,hd,by simpa using hs⟩,?_⟩;have e:=r.length;simp only[Array.length_toList] at e;omega
def Inv.tuple (I:Inv X pins σ H s)(h:SqT X.K H a xs):∃its:List Value,Vals xs its/\IsTup s.heap a its.toArray/\xs.length<=sizeLine:=by
 rcases h with h | ⟨o,its,n,hk,hc,hs,hz,r,_⟩
 ·obtain⟨z,its,r,p,_⟩:=h.ok I.hok;exact⟨its,r,p,z⟩
 ·refine⟨its.toList,r,⟨o,I.kIn a o hk,hc,n,by simpa using hs⟩,?_⟩;have e:=r.length;simp only[Array.length_toList] at e;omega
def Inv.list_inj (I:Inv X pins σ H s)(h:SqL X.K H a xs)(h':SqL X.K H a ys):xs=ys:=by
 obtain⟨its,r,⟨o,n,e,_,_,d⟩,_⟩:=I.list h;obtain⟨its',r',⟨o',n',e',_,_,d'⟩,_⟩:=I.list h';rw[e] at e'; cases e';rw[d] at d'
 injection d' with d1 _
 have:its=its':=by simpa using congrArg Array.toList d1
 subst this;exact r.inj r'
def Inv.tuple_inj (I:Inv X pins σ H s)(h:SqT X.K H a xs)(h':SqT X.K H a ys):xs=ys:=by
 obtain⟨its,r,⟨o,e,_,n,d⟩,_⟩:=I.tuple h;obtain⟨its',r',⟨o',e',_,n',d'⟩,_⟩:=I.tuple h';rw[e] at e'; cases e';rw[d] at d'
 injection d' with d1 _
 have:its=its':=by simpa using congrArg Array.toList d1
 subst this;exact r.inj r'
end
abbrev Cx.wish (X:Cx)(E:Value->Shared->Prop):Cx:={ X with xe:=E }
abbrev Cx.nox (X:Cx):Cx:=X.wish λ_ _=>False
def Cx.Ok.wish {X:Cx}(ok:X.Ok)(E:Value->Shared->Prop):(X.wish E).Ok:=
 ⟨ok.mod,ok.kind,ok.glob,ok.blt,ok.above,ok.inj,ok.has,ok.cab,ok.hd,ok.frames,ok.stk,ok.exf,ok.bs,ok.bsz,ok.noex,ok.exfs,ok.funs,ok.frf,ok.tbs⟩
def Cx.Ok.unwish {X:Cx}{E:Value->Shared->Prop}(ok:(X.wish E).Ok):X.Ok:=
 ⟨ok.mod,ok.kind,ok.glob,ok.blt,ok.above,ok.inj,ok.has,ok.cab,ok.hd,ok.frames,ok.stk,ok.exf,ok.bs,ok.bsz,ok.noex,ok.exfs,ok.funs,ok.frf,ok.tbs⟩
section
variable {X:Cx}{pins:List (Addr × Obj)}{σ:St}{H:Hp}{s:Shared}{E:Value->Shared->Prop}
def Inv.wish (I:Inv X pins σ H s)(E:Value->Shared->Prop):Inv (X.wish E) pins σ H s:=⟨I.ok.wish E,I.os,I.bare,I.base,I.loc,I.cell,I.free,I.freeC,I.pin,I.hok,I.len⟩
def Inv.unwish (I:Inv (X.wish E) pins σ H s):Inv X pins σ H s:=⟨I.ok.unwish,I.os,I.bare,I.base,I.loc,I.cell,I.free,I.freeC,I.pin,I.hok,I.len⟩
def SP.unwish {D:Ends}{f:Flow}{s':Shared}(h:SP (X.wish E) pins D f s'):SP X pins D f s':=by
 cases f with
 | next=>obtain⟨σ',H',I,q⟩:=h; exact⟨σ',H',I.unwish,q⟩
 | brk=>obtain⟨σ',H',I,q⟩:=h; exact⟨σ',H',I.unwish,q⟩
 | cont=>obtain⟨σ',H',I,q⟩:=h; exact⟨σ',H',I.unwish,q⟩
 | ret u=>obtain⟨v,σ',H',I,r,q⟩:=h; exact⟨v,σ',H',I.unwish,r,q⟩
def PSs.nox {st:List Stmt}{t:TS}(h:PSs X.nox st t):PSs X st t:=λpins s σ H D I hw=>
 wpAny_mono (h pins s σ H D (I.wish _) hw) (λ_ _ q=>q.unwish) λ_ _ z=>False.elim z
end
section
variable {X:Cx}{st:Stmt}{rest:List Stmt}{t u:TS}{e:Expr}{te:TE}{pos:Pos}
def zhy:TS:=λD σ H=>D.nx σ H
def tSeq (t u:TS):TS:=λD σ H=>t { D with nx:=u D } σ H
def zgB:PSs X [] zhy:=λ_ _ σ H _ I h=>wpAny_execs_nil ⟨σ,H,I,h⟩
def zeH (h1:PS X st t)(h2:PSs X rest u):PSs X (st::rest) (tSeq t u):=by
 intro pins s σ H D I h;refine wpAny_execs_cons (thn (h1 pins s σ H { D with nx:=u D } I h) λf s1 q =>?_)
 cases f with
 | next=>
  obtain⟨σ',H',I',q⟩:=q;exact h2 pins s1 σ' H' D I' q
 | ret v=>exact q
 | brk=>exact q
 | cont=>exact q
def zgA (h1:PS X st t):PSs X [st] t:=by
 intro pins s σ H D I h;refine wpAny_execs_cons (thn (h1 pins s σ H D I h) λf s1 q =>?_)
 cases f with
 | next=>exact wpAny_execs_nil q
 | ret v=>exact q
 | brk=>exact q
 | cont=>exact q
def Inv.quiet {pins:List (Addr × Obj)}{σ:St}{H:Hp}{s:Shared}(I:Inv X pins σ H s):interactive X.env=false:=by simp[interactive,I.ok.kind]
def zhz (te:TE):TS:=λD σ H=>te σ H λ_ H1=>D.nx σ H1
def zgC (he:PE X e te)(hs:swapsWith e none pos.line X.env=pure false:=by rfl):PS X (.Expr e pos) (zhz te):=by
 intro pins s σ H D I h;exact wpAny_Expr_any (thn (he pins s σ H _ I h) λv s1 ⟨x,H1,I1,r1,q1⟩=>⟨σ,H1,I1,q1⟩) I.quiet hs
def tRet (te:TE):TS:=λD σ H=>te σ H D.rt
def zij (he:PE X e te):PS X (.Return (some e) pos) (tRet te):=by
 intro pins s σ H D I h;exact wpAny_Return_some (thn (he pins s σ H _ I h) λv s1 ⟨x,H1,I1,r1,q1⟩=>⟨x,σ,H1,I1,r1,q1⟩)
def tIfS (c:TT)(t u:TS):TS:=λD σ H=>c σ H λb H1=>if b=true then t D σ H1 else u D σ H1
def zk9 {c:Expr}{a b:List Stmt}{tc:TT}(hc:PT X c tc)(ha:PSs X a t)(hb:PSs X b u):PS X (.If c a b pos) (tIfS tc t u):=by
 intro pins s σ H D I h;refine wpAny_If (thn (hc pins s σ H _ I h) λd s1 ⟨H1,I1,q1⟩ =>?_)
 cases d with
 | true=>exact ha pins s1 σ H1 D I1 q1
 | false=>exact hb pins s1 σ H1 D I1 q1
end
abbrev TG:=V->St->Hp->(St->Hp->Prop)->Prop
abbrev TGs:=List V->St->Hp->(St->Hp->Prop)->Prop
def PG (X:Cx)(target:Expr)(t:TG):Prop:=
 ∀(pins:List (Addr × Obj)) (s:Shared) (σ:St) (H:Hp) (v:V) (u:Value) (Q:St->Hp->Prop),Inv X pins σ H s->RelV v u->t v σ H Q->
  wpAny (model X.prog X.w) X.A (assign target X.env u) (λ_ s'=>∃σ' H',Inv X pins σ' H' s'/\Q σ' H') X.xe s
section
variable {X:Cx}{pos:Pos}
def z6x (i:Nat):TG:=λv σ H Q=>Q (σ.set i (some v)) H
def zdr {i:Nat}{x:Str}(hN:X.N.Nodup)(hi:X.N[i]? = some x)(hx:Loc X.env.scope x)(hf:X.fn x=true\/X.env.scope.names.lookup x=some .local:=by first | exact .inl rfl | exact .inr rfl | assumption):PG X (.Name x pos) (z6x i):=by
 intro pins s σ H v u Q I r h;exact wpAny_assign_Name (zbm I hN hi hx r (λs' I'=>⟨_,H,I',h⟩) hf)
def gNil:TGs:=λvs σ H Q=>vs=[]/\Q σ H
def zjr (t:TG)(u:TGs):TGs:=λvs σ H Q=>∃v r,vs=v::r/\t v σ H λσ' H'=>u r σ' H' Q
def gTup (K:W.Frag)(n:Nat)(t:TGs):TG:=λv σ H Q=>∃a xs,v = .ref a/\SqT K H a xs/\xs.length=n/\t xs σ H Q
def tAsg (te:TE)(g:TG):TS:=λD σ H=>te σ H λx H1=>g x σ H1 D.nx
def zii {i:Nat}{x:Str}{e:Expr}{te:TE}{pos':Pos}(hN:X.N.Nodup)(hi:X.N[i]? = some x)(hx:Loc X.env.scope x)(he:PE X e te)(hs:swapsWith e (some (.Name x pos')) pos.line X.env=pure false:=by rfl)(hf:X.fn x=true\/X.env.scope.names.lookup x=some .local:=by first | exact .inl rfl | exact .inr rfl | assumption):
  PS X (.Assign [.Name x pos'] e pos) (tAsg te (z6x i)):=by
 intro pins s σ H D I h;refine wpAny_Assign_Name (thn (he pins s σ H _ I h) λv s1 ⟨y,H1,I1,r1,q1⟩ =>?_) hs;exact zbm I1 hN hi hx r1 (λs2 I2=>⟨_,H1,I2,q1⟩) hf
end
section
variable {X:Cx}{pos:Pos}
def zfG (c:TT)(tb:TS):TS:=λD σ H=>∃W:Nat->St->Hp->Prop,(∃m,W m σ H)/\∀m σ H,W m σ H->
 c σ H λb H1=>if b=true then ∃N:St->Hp->Prop,(∀σ' H',N σ' H'->∃m',m'<m/\W m' σ' H')/\tb { D with nx:=N,ct:=N,bk:=D.nx } σ H1 else D.nx σ H1
def zeI {c:Expr}{body:List Stmt}{tc:TT}{tb:TS}(hp:PassesOwn (model X.prog X.w) X.A X.env X.xe)(hc:PT X c tc)(hb:PSs X body tb):PS X (.While c body [] pos) (zfG tc tb):=by
 intro pins s σ H D I h;obtain⟨W,⟨m0,w0⟩,turn⟩:=h;refine wpAny_While (codeAny_whileLoop (λn s'=>∃σ' H',Inv X pins σ' H' s'/\W n σ' H') ?_ m0 ⟨σ,H,I,w0⟩);rintro n s1 ⟨σ1,H1,I1,w1⟩;refine wpAny_passesOwn hp (thn (hc pins s1 σ1 H1 _ I1 (turn n σ1 H1 w1)) λb s2 ⟨H2,I2,q2⟩ =>?_)
 cases b with
 | true=>
  obtain⟨N,hN,q2⟩:=q2;rw[if_pos rfl];refine wpAny_passesOwn hp (thn (hb pins s2 σ1 H2 _ I2 q2) λf s3 q3 =>?_)
  cases f with
  | next=>
   obtain⟨σ3,H3,I3,n3⟩:=q3;obtain⟨m',hm,w3⟩:=hN σ3 H3 n3;exact⟨m',hm,σ3,H3,I3,w3⟩
  | cont=>
   obtain⟨σ3,H3,I3,n3⟩:=q3;obtain⟨m',hm,w3⟩:=hN σ3 H3 n3;exact⟨m',hm,σ3,H3,I3,w3⟩
  | brk=>exact q3
  | ret v=>exact q3
 | false=>
  rw[if_neg Bool.false_ne_true];exact wpAny_execs_nil ⟨σ1,H2,I2,q2⟩
end
structure It where
 go:Nat->Hp->Prop
 yld:Nat->Hp->V->Hp->Prop
 stop:Nat->Hp->Prop
def FpOk (X:Cx)(pins:List (Addr × Obj))(H:Hp)(b:Addr):Prop:=
 H b=none/\b≠X.env.locals/\b ∉ X.fs/\(b∈X.ex\/X.s₀.heap.objs.size<=b)/\(∀x c,X.env.cells.lookup x=some c->c≠b)/\∀p∈X.pn++pins,p.1≠b
def Inv.fpOk {X:Cx}{pins:List (Addr × Obj)}{σ:St}{H H':Hp}{s:Shared}{b:Addr}(I:Inv X pins σ H s)(hb:s.heap.objs.size<=b)(hn:H' b=none):FpOk X pins H' b:=by
 refine⟨hn,Nat.ne_of_gt (Nat.lt_of_lt_of_le I.lt hb),I.nofs hb,.inr (Nat.le_trans I.sz hb),λx c e z =>?_,λp hp z =>?_⟩
 ·obtain⟨v,q⟩:=I.cell x c e;exact absurd (Nat.lt_of_lt_of_le q.lt (by rw[z]; exact hb)) (Nat.lt_irrefl _)
 ·exact absurd (Nat.lt_of_lt_of_le (Heap.lt_size (I.pin p hp).1) (by rw[z]; exact hb)) (Nat.lt_irrefl _)
structure Turn (P:Program)(w:World)(K:W.Frag)(tg:Expr)(J:It)(fp:List Addr)(it:Addr)(tn:Nat->Heap->Prop):Prop where
 mem:it∈fp
 obj:∀i h,tn i h->∀b∈fp,∃o,h.get? b=some o/\∀v,o.data ≠ .cell v
 keep:∀i h h',tn i h->(∀b∈fp,∀o,h.get? b=some o->h'.get? b=some o)->tn i h'
 item:∀(X:Cx),X.prog=P->X.w=w->X.K=K->X.calm=true->∀(i:Nat) (pins:List (Addr × Obj)) (s:Shared) (σ:St) (H:Hp) (E:Value->Shared->Prop),Inv X pins σ H s->(∀b∈fp,FpOk X pins H b)->tn i s.heap->J.go i H->
  wpAny (model P w) X.A (pyNext (.ref it)) (λr s1=>∃u,r=some u/\
   wpAny (model P w) X.A (letOwnedTupleGo tg (.ref it) u) (λ_ s2=>∃x H',Inv X pins σ H' s2/\RelV x u/\J.yld i H x H'/\tn (i+1) s2.heap/\∀b∈fp,H' b=none) E s1) E s
 done:∀(X:Cx),X.prog=P->X.w=w->X.K=K->X.calm=true->∀(i:Nat) (pins:List (Addr × Obj)) (s:Shared) (σ:St) (H:Hp) (E:Value->Shared->Prop),Inv X pins σ H s->(∀b∈fp,FpOk X pins H b)->tn i s.heap->J.stop i H->
  wpAny (model P w) X.A (pyNext (.ref it)) (λr s1=>r=none/\Inv X pins σ H s1) E s
 self:∀(A:Around) (i:Nat) (s:Shared) (Q:Value->Shared->Prop) (E:Value->Shared->Prop),tn i s.heap->Q (.ref it) s->wpAny (model P w) A (pyIter (.ref it)) Q E s
abbrev TI:=St->Hp->(It->Hp->Prop)->Prop
def PIE (X:Cx)(pins:List (Addr × Obj))(σ:St)(tg:Expr)(R:It->Hp->Prop)(itv:Value)(s2:Shared):Prop:=
 ∃(it:Addr) (fp:List Addr) (tn:Nat->Heap->Prop) (J:It) (H':Hp),itv = .ref it/\Inv X pins σ H' s2/\Turn X.prog X.w X.K tg J fp it tn/\tn 0 s2.heap/\(∀b∈fp,FpOk X pins H' b)/\R J H'
def PI (X:Cx)(tg iter:Expr)(wi:TI):Prop:=
 ∀(pins:List (Addr × Obj)) (s:Shared) (σ:St) (H:Hp) (R:It->Hp->Prop),Inv X pins σ H s->wi σ H R->
  wpAny (model X.prog X.w) X.A (eval iter X.env) (λv s1=>wpAny (model X.prog X.w) X.A (pyIter v) (PIE X pins σ tg R) X.xe s1) X.xe s
def zdR {M:Model}{A:Around}{E:Value->Shared->Prop}{s:Shared}{tg:Expr}{it:Addr}{u:Value}{o:Obj}{n:String}{vs:Array Value}{Q:Unit->Shared->Prop}(ho:s.heap.get? it=some o)(hc:o.cls = .type n)(hd:o.data = .fields vs)
  (hn:["enumerate","zip","dict_itemiterator","dict_reverseitemiterator","odict_iterator","itertools.zip_longest","itertools.pairwise"].contains n=false) (hQ:Q () s):wpAny M A (letOwnedTupleGo tg (.ref it) u) Q E s:=by
 unfold letOwnedTupleGo
 cases tg <;> first
  | exact wpAny_pure hQ
  | (cases u <;> first
    | exact wpAny_pure hQ
    | (refine wpAny_bind (wpAny_load ho ?_)
       rw[hc,hd];show wpAny M A (if (["enumerate","zip","dict_itemiterator","dict_reverseitemiterator","odict_iterator","itertools.zip_longest","itertools.pairwise"].contains n && vs[0]? == some (rawInt _))=true then _ else _) Q E s;rw[if_neg (by intro h; rw[hn,Bool.false_and] at h; cases h)];exact wpAny_pure hQ))
def Itl (K:W.Frag)(a:Addr):It:=
 ⟨λi H=>∃xs x,SqL K H a xs/\xs[i]? = some x,λi H x H'=>H'=H/\∀xs,SqL K H a xs->xs[i]? = some x,λi H=>∃xs,SqL K H a xs/\xs.length<=i⟩
def Itt (K:W.Frag)(a:Addr):It:=
 ⟨λi H=>∃xs x,SqT K H a xs/\xs[i]? = some x,λi H x H'=>H'=H/\∀xs,SqT K H a xs->xs[i]? = some x,λi H=>∃xs,SqT K H a xs/\xs.length<=i⟩
def Itr (lo:Int)(n:Nat):It:=⟨λi _=>i<n,λi H x H'=>H'=H/\x = .int (lo+i),λi _=>n<=i⟩
def zcJ {P:Program}{w:World}{K:W.Frag}{tg:Expr}(a it:Addr):Turn P w K tg (Itl K a) [it] it (λi h=>h.IsListIter it a i) where
 mem:=by simp
 obj:=λi h st b hb=>by
  have e:b=it:=by simpa using hb
  subst e;obtain⟨o,e,c,d⟩:=st;exact⟨o,e,λv z=>by rw[d] at z; cases z⟩
 keep:=λi h h' st k=>st.at λo e=>k it (by simp) o e
 item:=by
  intro X hP hw hK hc i pins s σ H E I hf st hg;subst hP hw hK;obtain⟨xs,x,hq,hx⟩:=hg;obtain⟨its,rv,p,hz⟩:=I.list hq;obtain⟨u,hu,ru⟩:=rv.get hx;obtain⟨f0,f1,f2,f3,f4,f5⟩:=hf it (by simp);refine wpAny_pyNext_list_item st p.isList (x:=u) (by simpa using hu) λh' st' sb =>?_;have I1:Inv X pins σ H { s with heap:=h' }:=I.turned (t':=s.toks) (λb o hb e=>(sb.2 b hb).trans e) f0 f1 f3 f4 f5;obtain⟨o,e,c,d⟩:=id st';exact⟨u,rfl,zdR (s:={ s with heap:=h' }) e c d (by decide) ⟨x,H,I1,ru,⟨rfl,λys hy=>by rw[I.list_inj hy hq]; exact hx⟩,st',λb hb=>(hf b hb).1⟩⟩
 done:=by
  intro X hP hw hK hc i pins s σ H E I hf st hg;subst hP hw hK;obtain⟨xs,hq,hx⟩:=hg;obtain⟨its,rv,p,hz⟩:=I.list hq;obtain⟨f0,f1,f2,f3,f4,f5⟩:=hf it (by simp);have hl:=rv.length;exact wpAny_pyNext_list_end (I.ok.hd hc) st p.isList (by simp; omega) λh' eb=>⟨rfl,I.turned (t':=s.toks) (λb o hb e=>eb b o hb e) f0 f1 f3 f4 f5⟩
 self:=λ_ _ _ _ _ st h=>wpAny_pyIter_listiter st h
def zc5 {P:Program}{w:World}{K:W.Frag}{tg:Expr}(a it:Addr):Turn P w K tg (Itt K a) [it] it (λi h=>h.IsTupleIter it a i) where
 mem:=by simp
 obj:=λi h st b hb=>by
  have e:b=it:=by simpa using hb
  subst e;obtain⟨o,e,c,d⟩:=st;exact⟨o,e,λv z=>by rw[d] at z; cases z⟩
 keep:=λi h h' st k=>st.at λo e=>k it (by simp) o e
 item:=by
  intro X hP hw hK hc i pins s σ H E I hf st hg;subst hP hw hK;obtain⟨xs,x,hq,hx⟩:=hg;obtain⟨its,rv,p,hz⟩:=I.tuple hq;obtain⟨u,hu,ru⟩:=rv.get hx;obtain⟨f0,f1,f2,f3,f4,f5⟩:=hf it (by simp);refine wpAny_pyNext_tuple_item st (show s.heap.IsTuple a its.toArray from p) (x:=u) (by simpa using hu) λh' st' sb =>?_;have I1:Inv X pins σ H { s with heap:=h' }:=I.turned (t':=s.toks) (λb o hb e=>(sb.2 b hb).trans e) f0 f1 f3 f4 f5;obtain⟨o,e,c,d⟩:=id st';exact⟨u,rfl,zdR (s:={ s with heap:=h' }) e c d (by decide) ⟨x,H,I1,ru,⟨rfl,λys hy=>by rw[I.tuple_inj hy hq]; exact hx⟩,st',λb hb=>(hf b hb).1⟩⟩
 done:=by
  intro X hP hw hK hc i pins s σ H E I hf st hg;subst hP hw hK;obtain⟨xs,hq,hx⟩:=hg;obtain⟨its,rv,p,hz⟩:=I.tuple hq;obtain⟨f0,f1,f2,f3,f4,f5⟩:=hf it (by simp);have hl:=rv.length;exact wpAny_pyNext_tuple_end (I.ok.hd hc) st (show s.heap.IsTuple a its.toArray from p) (by simp; omega) λh' eb=>⟨rfl,I.turned (t':=s.toks) (λb o hb e=>eb b o hb e) f0 f1 f3 f4 f5⟩
 self:=λ_ _ _ _ _ st h=>wpAny_pyIter_tupleiter st h
def zc6 {P:Program}{w:World}{K:W.Frag}{tg:Expr}(it:Addr)(lo:Int)(n:Nat):Turn P w K tg (Itr lo n) [it] it (λi h=>IsRangeIter h it (lo+(i:Nat)*1) ((n:Int) - (i:Nat)) 1) where
 mem:=by simp
 obj:=λi h st b hb=>by
  have e:b=it:=by simpa using hb
  subst e;exact⟨_,st,λv z=>by
   have z':Data.fields _=Data.cell v:=z
   cases z'⟩
 keep:=λi h h' st k=>k it (by simp) _ st
 item:=by
  intro X hP hw hK hc i pins s σ H E I hf st hg;subst hP hw hK;obtain⟨f0,f1,f2,f3,f4,f5⟩:=hf it (by simp);have W:=Walks.range (prog:=X.prog) (w:=X.w) (I.ok.hd hc) it lo 1 n;refine W.item i s _ _ hg st λv h' tk hv st' kk =>?_;obtain⟨t,rfl⟩:=hv;have I1:Inv X pins σ H { s with heap:=h',toks:=tk }:=I.turned (λb o hb e=>kk b o (by simpa using hb) e) f0 f1 f3 f4 f5;refine⟨_,rfl,zdR (s:={ s with heap:=h',toks:=tk }) (n:="range_iterator") st' rfl rfl (by decide) ⟨.int (lo+i),H,I1,⟨t,?_⟩,⟨rfl,rfl⟩,st',λb hb=>(hf b hb).1⟩⟩;rw[Int.mul_one]
 done:=by
  intro X hP hw hK hc i pins s σ H E I hf st hg;subst hP hw hK;obtain⟨f0,f1,f2,f3,f4,f5⟩:=hf it (by simp);exact wpAny_pyNext_range_end (I.ok.hd hc) st (by have:n<=i:=hg; omega) λh' eb=>⟨rfl,I.turned (t':=s.toks) (λb o hb e=>eb b o hb e) f0 f1 f3 f4 f5⟩
 self:=λ_ _ _ _ _ st h=>wpAny_pyIter_rangeiter st h
section
variable {X:Cx}{tg:Expr}
def zbu {pins:List (Addr × Obj)}{σ:St}{H:Hp}{s:Shared}{R:It->Hp->Prop}{E:Value->Shared->Prop}{lo hi:Int}{t u v:Tok}{tk:Nat}(I:Inv X pins σ H s)(h1 : -(2 ^ 62)<=lo)(h2:lo<2 ^ 62)(h3 : -(2 ^ 62)<=hi)(h4:hi<2 ^ 62)
  (q:R (Itr lo (hi - lo).toNat) H):wpAny (model X.prog X.w) X.A (pyIter (.ref s.heap.objs.size)) (PIE X pins σ tg R) E { s with heap:=s.heap.push { cls :=.type "range",data :=.fields #[.int lo t,.int hi u,.int 1 v] },toks:=tk }:=by
 refine wpAny_pyIter_range (IsRange.new ..) (small_one h1 h2 h3 h4) ?_;have I1:Inv X pins σ H { s with heap:=s.heap.push { cls :=.type "range",data :=.fields #[.int lo t,.int hi u,.int 1 v] },toks:=tk }:=I.kept λb o e=>Heap.get?_push_of_some _ e;refine⟨(s.heap.push { cls :=.type "range",data :=.fields #[.int lo t,.int hi u,.int 1 v] }).objs.size,[(s.heap.push { cls :=.type "range",data :=.fields #[.int lo t,.int hi u,.int 1 v] }).objs.size],_,_,H,rfl,
  I1.kept (t':=tk) λb o e=>Heap.get?_push_of_some _ e,zc6 _ lo (hi - lo).toNat,?_,λb hb =>?_,q⟩
 ·have e1:lo+((0:Nat):Int)*1=lo:=by simp
  have e2:(((hi - lo).toNat:Nat):Int) - ((0:Nat):Int)=Builtin.Range.rangeSize lo hi 1:=by rw[rangeSize_one]; split <;> omega
  show IsRangeIter _ _ (lo+((0:Nat):Int)*1) ((((hi - lo).toNat:Nat):Int) - ((0:Nat):Int)) 1;rw[e1,e2];exact Heap.get?_push_size _ rfl
 ·have e:b=(s.heap.push { cls :=.type "range",data :=.fields #[.int lo t,.int hi u,.int 1 v] }).objs.size:=by simpa using hb
  subst e;exact I1.fpOk (Nat.le_refl _) (I1.hok.fresh (Nat.le_refl _))
def zjq (ta:TA):TI:=λσ H R=>ta σ H λvs H1=>∃j:Int,vs=[.int j] /\ -(2 ^ 62)<=j/\j<2 ^ 62/\R (Itr 0 j.toNat) H1
def zjp (ta:TA):TI:=λσ H R=>ta σ H λvs H1=>∃i j:Int,vs=[.int i,.int j]/\(-(2 ^ 62)<=i/\i<2 ^ 62 /\ -(2 ^ 62)<=j/\j<2 ^ 62)/\R (Itr i (j - i).toNat) H1
def zdq {a:Expr}{ta:TA}{p pos:Pos}(hg:Gl X "range")(hm:X.mg "range"=none)(ha:PA X [a] ta)(hs:starEach [a] X.env=[(false,eval a X.env)]:=by rfl):PI X tg (.Call (.Name "range" p) [a] [] pos) (zjq ta):=by
 intro pins s σ H R I h;refine Call_ (z6H I hg hm boot_range (PyProof.Rows.callWith_type1 (thn (ha pos pins s σ H _ I h) λus s1 ⟨vs,H1,I1,r1,q1⟩ =>?_) hs rfl));obtain⟨j,e,q1,q2,q⟩:=q1;subst e
 cases r1 with
 | cons r rr=>
  cases rr
  obtain⟨t,rfl⟩:=r;exact call_range_1 (zbu I1 (by omega) (by omega) q1 q2 (by simpa using q))
def zdp {a b:Expr}{ta:TA}{p pos:Pos}(hg:Gl X "range")(hm:X.mg "range"=none)(ha:PA X [a,b] ta)(hs:starEach [a,b] X.env=[(false,eval a X.env),(false,eval b X.env)]:=by rfl)(hs2:starEach [b] X.env=[(false,eval b X.env)]:=by rfl):
  PI X tg (.Call (.Name "range" p) [a,b] [] pos) (zjp ta):=by
 intro pins s σ H R I h;refine Call_ (z6H I hg hm boot_range (PyProof.Rows.callWith_type1 (thn (ha pos pins s σ H _ I h) λus s1 ⟨vs,H1,I1,r1,q1⟩ =>?_) (by rw[hs,hs2]) (by rw[hs2]; rfl)));obtain⟨i,j,e,⟨q1,q2,q3,q4⟩,q⟩:=q1;subst e
 cases r1 with
 | cons r rr=>
  cases rr with
  | cons r' rr=>
   cases rr
   obtain⟨t,rfl⟩:=r;obtain⟨t',rfl⟩:=r';exact call_range_2 (zbu I1 q1 q2 q3 q4 q)
def tFor (wi:TI)(g:TG)(tb:TS):TS:=λD σ H=>wi σ H λJ H1=>∃W:Nat->Nat->St->Hp->Prop,(∃m,W 0 m σ H1)/\∀i m σ H,W i m σ H->
 (J.stop i H/\D.nx σ H)\/(J.go i H/\∃N:St->Hp->Prop,(∀σ' H',N σ' H'->∃m',m'<m/\W (i+1) m' σ' H')/\∀x H',J.yld i H x H'->g x σ H' λσ2 H2=>tb { D with nx:=N,ct:=N,bk:=D.nx } σ2 H2)
def z6G (fp:List Addr)(h:Heap):List (Addr × Obj):=fp.filterMap λb=>(h.get? b).map λo=>(b,o)
def z3a {fp:List Addr}{h:Heap}{b:Addr}{o:Obj}(hb:b∈fp)(e:h.get? b=some o):(b,o)∈z6G fp h:=List.mem_filterMap.mpr ⟨b,hb,by rw[e]; rfl⟩
def zdx {fp:List Addr}{h:Heap}{p:Addr × Obj}(hp:p∈z6G fp h):p.1∈fp/\h.get? p.1=some p.2:=by
 obtain⟨b,hb,e⟩:=List.mem_filterMap.mp hp
 cases q:h.get? b with
 | none=>rw[q] at e; cases e
 | some o=>
  rw[q] at e;have e':(b,o)=p:=Option.some.inj e;subst e';exact⟨hb,q⟩
def Inv.pinned {pins:List (Addr × Obj)}{σ:St}{H:Hp}{s:Shared}{fp:List Addr}(I:Inv X pins σ H s)(hf:∀b∈fp,FpOk X pins H b)(ho:∀b∈fp,∃o,s.heap.get? b=some o/\∀v,o.data ≠ .cell v):Inv X (pins++z6G fp s.heap) σ H s:=
 I.pins_of λp hp=>(List.mem_append.mp hp).elim (λz=>I.pin p (List.mem_append_right _ z)) λz=>by
  obtain⟨hb,e⟩:=zdx z;obtain⟨f0,f1,f2,_⟩:=hf p.1 hb;obtain⟨o,e',d⟩:=ho p.1 hb;rw[e] at e'; cases e';exact⟨e,f0,f1,f2,d⟩
def Inv.unpinned {pins pl:List (Addr × Obj)}{σ:St}{H:Hp}{s:Shared}(I:Inv X (pins++pl) σ H s):Inv X pins σ H s:=I.pins_of λp hp=>I.pin p (List.mem_append_right _ (List.mem_append_left _ hp))
def zil {iter:Expr}{body:List Stmt}{wi:TI}{g:TG}{tb:TS}{pos:Pos}(hp:PassesOwn (model X.prog X.w) X.A X.env X.xe)(hc:X.calm=true)(hi:PI X tg iter wi)(hg:PG X tg g)(hb:PSs X body tb)
  (hs:∀x,foldedSetIterable iter X.env x=pure x:=by intro _; rfl):PS X (.For tg iter body [] pos) (tFor wi g tb):=by
 intro pins s σ H D I h;refine wpAny_For (thn (hi pins s σ H _ I h) λv s1 h1=>thn h1 λitv s2 h2 =>?_) hs;obtain⟨it,fp,tn,J,H2,e,I2,T,st2,f2,W,⟨m0,w0⟩,turn⟩:=h2;subst e;have stat:∀{H':Hp},(∀b∈fp,H' b=none)->∀b∈fp,FpOk X pins H' b:=λhn b hb=>⟨hn b hb,(f2 b hb).2⟩
 refine codeAny_forLoop_any (λn s'=>∃i σ' H',Inv X pins σ' H' s'/\tn i s'.heap/\(∀b∈fp,H' b=none)/\W i n σ' H') ?_ m0 ⟨0,σ,H2,I2,st2,λb hb=>(f2 b hb).1,w0⟩;rintro n s3 ⟨i,σ3,H3,I3,st3,fr3,w3⟩
 rcases turn i n σ3 H3 w3 with ⟨stop,qn⟩ | ⟨go,N,hN,step⟩
 ·refine wpAny_passesOwn hp (thn (T.done X rfl rfl rfl hc i pins s3 σ3 H3 X.xe I3 (stat fr3) st3 stop) λr s4 ⟨hr,I4⟩ =>?_);subst hr;exact wpAny_execs_nil ⟨σ3,H3,I4,qn⟩
 ·refine wpAny_passesOwn hp (thn (T.item X rfl rfl rfl hc i pins s3 σ3 H3 X.xe I3 (stat fr3) st3 go) λr s4 ⟨u,hr,h4⟩ =>?_);subst hr;refine wpAny_passesOwn hp (thn h4 λ_ s5 ⟨x,H5,I5,r5,y5,st5,fr5⟩ =>?_);have I5':=I5.pinned (stat fr5) (T.obj _ _ st5);refine wpAny_passesOwn hp (thn (hg _ s5 σ3 H5 x u _ I5' r5 (step x H5 y5)) λ_ s6 ⟨σ6,H6,I6,q6⟩ =>?_);refine wpAny_passesOwn hp (thn (hb _ s6 σ6 H6 _ I6 q6) λf s7 q7 =>?_);have again:∀{σ7:St}{H7:Hp},Inv X (pins++z6G fp s5.heap) σ7 H7 s7->N σ7 H7->∃m,m<n/\∃i σ' H',Inv X pins σ' H' s7/\tn i s7.heap/\(∀b∈fp,H' b=none)/\W i m σ' H':=λ{σ7 H7} I7 n7=>by
   obtain⟨m',hm,w7⟩:=hN σ7 H7 n7;refine⟨m',hm,i+1,σ7,H7,I7.unpinned,T.keep _ _ _ st5 λb hb o e=>(I7.pin (b,o) (List.mem_append_right _ (List.mem_append_right _ (z3a hb e)))).1,λb hb =>?_,w7⟩;obtain⟨o,e,d⟩:=T.obj _ _ st5 b hb;exact(I7.pin (b,o) (List.mem_append_right _ (List.mem_append_right _ (z3a hb e)))).2.1
  cases f with
  | next=>obtain⟨σ7,H7,I7,n7⟩:=q7; exact again I7 n7
  | cont=>obtain⟨σ7,H7,I7,n7⟩:=q7; exact again I7 n7
  | brk=>obtain⟨σ7,H7,I7,q7⟩:=q7; exact⟨σ7,H7,I7.unpinned,q7⟩
  | ret v=>obtain⟨x7,σ7,H7,I7,r7,q7⟩:=q7; exact⟨x7,σ7,H7,I7.unpinned,r7,q7⟩
end
abbrev R2:=V->V->Hp->VK->Prop
def OpR (X:Cx)(f:Value->Value->Sem Value)(r:R2):Prop:=
 ∀(pins:List (Addr × Obj)) (s:Shared) (σ:St) (H:Hp) (x y:V) (v u:Value) (Q:VK),Inv X pins σ H s->RelV x v->RelV y u->r x y H Q->
  wpAny (model X.prog X.w) X.A (f v u) (EP X pins σ Q) X.xe s
def UnR (X:Cx)(f:Value->Sem Value)(r:V->Hp->VK->Prop):Prop:=
 ∀(pins:List (Addr × Obj)) (s:Shared) (σ:St) (H:Hp) (x:V) (v:Value) (Q:VK),Inv X pins σ H s->RelV x v->r x H Q->
  wpAny (model X.prog X.w) X.A (f v) (EP X pins σ Q) X.xe s
def z2p (X:Cx)(f:Value)(r:List V->Hp->VK->Prop):Prop:=
 ∀(pins:List (Addr × Obj)) (s:Shared) (σ:St) (H:Hp) (xs:List V) (us:List Value) (Q:VK),Inv X pins σ H s->Vals xs us->r xs H Q->
  wpAny (model X.prog X.w) X.A (call f us) (EP X pins σ Q) X.xe s
def tOp (r:R2)(ta tb:TE):TE:=λσ H Q=>ta σ H λx H1=>tb σ H1 λy H2=>r x y H2 Q
def tUn (r:V->Hp->VK->Prop)(ta:TE):TE:=λσ H Q=>ta σ H λx H1=>r x H1 Q
def rI (C:Int->Int->Prop)(g:Int->Int->V):R2:=λx y H Q=>∃i j,x = .int i/\y = .int j/\C i j/\Q (g i j) H
def rI0 (g:Int->Int->V):R2:=λx y H Q=>∃i j,x = .int i/\y = .int j/\Q (g i j) H
def rU (g:Int->V):V->Hp->VK->Prop:=λx H Q=>∃i,x = .int i/\Q (g i) H
section
variable {X:Cx}{a b c:Expr}{ta tb tc:TE}{pos:Pos}
def binT (ha:PE X a ta)(hb:PE X b tb){pins:List (Addr × Obj)}{s:Shared}{σ:St}{H:Hp}{R:V->V->Hp->Prop}(I:Inv X pins σ H s)
  (h:ta σ H λx H1=>tb σ H1 λy H2=>R x y H2) {Q:Value->Shared->Prop}{f:Value->Value->Sem Value}
  (hf:∀v u s2 x y H2,Inv X pins σ H2 s2->RelV x v->RelV y u->R x y H2->wpAny (model X.prog X.w) X.A (f v u) Q X.xe s2):
  wpAny (model X.prog X.w) X.A (eval a X.env) (λv s₁=>wpAny (model X.prog X.w) X.A (eval b X.env) (λu s₂=>wpAny (model X.prog X.w) X.A (f v u) Q X.xe s₂) X.xe s₁) X.xe s:=by
 refine thn (ha pins s σ H _ I h) λv s1 ⟨x,H1,I1,r1,q1⟩ =>?_;refine thn (hb pins s1 σ H1 _ I1 q1) λu s2 ⟨y,H2,I2,r2,q2⟩ =>?_;exact hf v u s2 x y H2 I2 r1 r2 q2
def zkd {op:Operator}{r:R2}(ho:OpR X (binaryOp op) r)(ha:PE X a ta)(hb:PE X b tb):PE X (.BinOp a op b pos) (tOp r ta tb):=by
 intro pins s σ H Q I h;exact wpAny_BinOp (binT ha hb I h λv u s2 x y H2 I2 rx ry q=>ho pins s2 σ H2 x y v u Q I2 rx ry q)
def zkb {op:UnaryOp}{r:V->Hp->VK->Prop}(ho:UnR X (unaryOp op) r)(ha:PE X a ta):PE X (.UnaryOp op a pos) (tUn r ta):=by
 intro pins s σ H Q I h;exact UnaryOp_ (thn (ha pins s σ H _ I h) λv s1 ⟨x,H1,I1,r1,q1⟩=>ho pins s1 σ H1 x v Q I1 r1 q1)
def opI {f:Value->Value->Sem Value}{C:Int->Int->Prop}{g:Int->Int->Int}
  (rule:∀(i j:Int) (t u:Tok) (s:Shared) (Q:Value->Shared->Prop) (E:Value->Shared->Prop),C i j->Q (.int (g i j) s.toks) { s with toks:=s.toks+1 }->wpAny (model X.prog X.w) X.A (f (.int i t) (.int j u)) Q E s):
  OpR X f (rI C λi j =>.int (g i j)):=by
 intro pins s σ H x y v u Q I rx ry h;obtain⟨i,j,rfl,rfl,hc,q⟩:=h;obtain⟨t,rfl⟩:=rx;obtain⟨t',rfl⟩:=ry;exact rule i j t t' s _ _ hc ⟨.int (g i j),H,I.tok _,⟨_,rfl⟩,q⟩
def opI0 {f:Value->Value->Sem Value}{g:Int->Int->Int}
  (rule:∀(i j:Int) (t u:Tok) (s:Shared) (Q:Value->Shared->Prop) (E:Value->Shared->Prop),Q (.int (g i j) s.toks) { s with toks:=s.toks+1 }->wpAny (model X.prog X.w) X.A (f (.int i t) (.int j u)) Q E s):
  OpR X f (rI0 λi j =>.int (g i j)):=by
 intro pins s σ H x y v u Q I rx ry h;obtain⟨i,j,rfl,rfl,q⟩:=h;obtain⟨t,rfl⟩:=rx;obtain⟨t',rfl⟩:=ry;exact rule i j t t' s _ _ ⟨.int (g i j),H,I.tok _,⟨_,rfl⟩,q⟩
def opB0 {f:Value->Value->Sem Value}{g:Int->Int->Bool}
  (rule:∀(i j:Int) (t u:Tok) (s:Shared) (Q:Value->Shared->Prop) (E:Value->Shared->Prop),Q (.bool (g i j)) s->wpAny (model X.prog X.w) X.A (f (.int i t) (.int j u)) Q E s):
  OpR X f (rI0 λi j =>.bl (g i j)):=by
 intro pins s σ H x y v u Q I rx ry h;obtain⟨i,j,rfl,rfl,q⟩:=h;obtain⟨t,rfl⟩:=rx;obtain⟨t',rfl⟩:=ry;exact rule i j t t' s _ _ ⟨.bl (g i j),H,I,rfl,q⟩
def CPow (i j:Int):Prop:=0<=j/\j<=1000000/\i.natAbs<2 ^ 64
def ziF:OpR X (binaryOp .Add) (rI0 λi j =>.int (i+j)):=opI0 λ_ _ _ _ _ _ _ q=>add_int q
def ziB:OpR X (binaryOp .Sub) (rI0 λi j =>.int (i - j)):=opI0 λ_ _ _ _ _ _ _ q=>sub_int q
def zgO:OpR X (binaryOp .Mod) (rI (λ_ j=>j≠0) λi j =>.int (i.fmod j)):=opI λ_ _ _ _ _ _ _ hc q=>mod_int' hc q
def ziC:OpR X (binaryOp .Pow) (rI CPow λi j =>.int (i ^ j.toNat)):=opI λ_ _ _ _ _ _ _ hc q=>pow_int_small hc.1 hc.2.1 hc.2.2 q
def unI {f:Value->Sem Value}{g:Int->Int}
  (rule:∀(i:Int) (t:Tok) (s:Shared) (Q:Value->Shared->Prop) (E:Value->Shared->Prop),Q (.int (g i) s.toks) { s with toks:=s.toks+1 }->wpAny (model X.prog X.w) X.A (f (.int i t)) Q E s):
  UnR X f (rU λi =>.int (g i)):=by
 intro pins s σ H x v Q I rx h;obtain⟨i,rfl,q⟩:=h;obtain⟨t,rfl⟩:=rx;exact rule i t s _ _ ⟨.int (g i),H,I.tok _,⟨_,rfl⟩,q⟩
def zhp:UnR X (unaryOp .USub) (rU λi =>.int (-i)):=unI λ_ _ _ _ _ q=>neg_int q
end
def scal:V->V->Bool
 | .non,.non=>true | .non,.int _=>true | .int _,.non=>true | .non,.bl _=>true | .bl _,.non=>true | .non,.str _=>true | .str _,.non=>true
 | .int _,.int _=>true | .bl _,.bl _=>true | .str _,.str _=>true | .byt _,.byt _=>true
 | .int _,.str _=>true | .str _,.int _=>true | .bl _,.str _=>true | .str _,.bl _=>true
 | _,_=>false
def rEq:R2:=λx y H Q=>scal x y=true/\Q (.bl (decide (x=y))) H
def rNe:R2:=λx y H Q=>scal x y=true/\Q (.bl (!decide (x=y))) H
def ze0 {i j:Int}:decide (V.int i=V.int j)=(i == j):=by
 rw[Bool.eq_iff_iff];simp
def zg1 {i j:Bool}:decide (V.bl i=V.bl j)=(i == j):=by
 rw[Bool.eq_iff_iff];simp
def zdZ {i j:Str}:decide (V.str i=V.str j)=(i == j):=by
 rw[Bool.eq_iff_iff];simp
def ze1 {i j:Array UInt8}:decide (V.byt i=V.byt j)=(i.toList == j.toList):=by
 rw[Bool.eq_iff_iff]
 cases i
 cases j
 simp
section
variable {X:Cx}{a b c:Expr}{ta tb tc:TE}{pos:Pos}
def z1a {pins:List (Addr × Obj)}{σ:St}{H:Hp}{s:Shared}{Q:VK}{k k':Bool}(I:Inv X pins σ H s)(q:Q (.bl k) H)(e:k=k'):EP X pins σ Q (.bool k') s:=by
 subst e;exact⟨.bl k,H,I,rfl,q⟩
def zkn:OpR X (compareOp .Eq) rEq:=by
 intro pins s σ H x y v u Q I rx ry h;obtain⟨hs,q⟩:=h
 cases x with
 | non=>
  cases rx
  cases y with
  | non=>cases ry; exact PySem.EqNone.eq_none_none (z1a I q (by simp))
  | bl j=>cases ry; exact PySem.EqNone.eq_none_bool (z1a I q (by simp))
  | int j=>obtain⟨t',rfl⟩:=ry; exact PySem.EqNone.eq_none_int (z1a I q (by simp))
  | str j=>obtain⟨t',rfl⟩:=ry; exact PySem.EqNone.eq_none_str (z1a I q (by simp))
  | _=>exact absurd (show false=true from hs) Bool.false_ne_true
 | bl i=>
  cases rx
  cases y with
  | non=>cases ry; exact PySem.EqNone.eq_bool_none (z1a I q (by simp))
  | bl j=>cases ry; exact eq_bool (z1a I q zg1)
  | str j=>obtain⟨t',rfl⟩:=ry; exact PySem.EqMixed.eq_bool_str (z1a I q (by simp))
  | _=>exact absurd (show false=true from hs) Bool.false_ne_true
 | int i=>
  obtain⟨t,rfl⟩:=rx
  cases y with
  | non=>cases ry; exact PySem.EqNone.eq_int_none (z1a I q (by simp))
  | int j=>obtain⟨t',rfl⟩:=ry; exact eq_int (z1a I q ze0)
  | str j=>obtain⟨t',rfl⟩:=ry; exact PySem.EqMixed.eq_int_str (z1a I q (by simp))
  | _=>exact absurd (show false=true from hs) Bool.false_ne_true
 | str i=>
  obtain⟨t,rfl⟩:=rx
  cases y with
  | non=>cases ry; exact PySem.EqNone.eq_str_none (z1a I q (by simp))
  | bl j=>cases ry; exact PySem.EqMixed.eq_str_bool (z1a I q (by simp))
  | int j=>obtain⟨t',rfl⟩:=ry; exact PySem.EqMixed.eq_str_int (z1a I q (by simp))
  | str j=>obtain⟨t',rfl⟩:=ry; exact eq_str (z1a I q zdZ)
  | _=>exact absurd (show false=true from hs) Bool.false_ne_true
 | byt i=>
  obtain⟨t,rfl⟩:=rx
  cases y with
  | byt j=>obtain⟨t',rfl⟩:=ry; exact PySem.W.eq_bytes (z1a I q ze1)
  | _=>exact absurd (show false=true from hs) Bool.false_ne_true
 | _=>cases y <;> exact absurd (show false=true from hs) Bool.false_ne_true
def zkj:OpR X (compareOp .NotEq) rNe:=by
 intro pins s σ H x y v u Q I rx ry h;obtain⟨hs,q⟩:=h
 cases x with
 | non=>
  cases rx
  cases y with
  | non=>cases ry; exact PySem.EqNone.ne_none_none (z1a I q (by simp))
  | bl j=>cases ry; exact PySem.EqNone.ne_none_bool (z1a I q (by simp))
  | int j=>obtain⟨t',rfl⟩:=ry; exact PySem.EqNone.ne_none_int (z1a I q (by simp))
  | str j=>obtain⟨t',rfl⟩:=ry; exact PySem.EqNone.ne_none_str (z1a I q (by simp))
  | _=>exact absurd (show false=true from hs) Bool.false_ne_true
 | bl i=>
  cases rx
  cases y with
  | non=>cases ry; exact PySem.EqNone.ne_bool_none (z1a I q (by simp))
  | bl j=>cases ry; exact ne_bool (z1a I q (congrArg not zg1))
  | str j=>obtain⟨t',rfl⟩:=ry; exact PySem.EqMixed.ne_bool_str (z1a I q (by simp))
  | _=>exact absurd (show false=true from hs) Bool.false_ne_true
 | int i=>
  obtain⟨t,rfl⟩:=rx
  cases y with
  | non=>cases ry; exact PySem.EqNone.ne_int_none (z1a I q (by simp))
  | int j=>obtain⟨t',rfl⟩:=ry; exact ne_int (z1a I q (congrArg not ze0))
  | str j=>obtain⟨t',rfl⟩:=ry; exact PySem.EqMixed.ne_int_str (z1a I q (by simp))
  | _=>exact absurd (show false=true from hs) Bool.false_ne_true
 | str i=>
  obtain⟨t,rfl⟩:=rx
  cases y with
  | non=>cases ry; exact PySem.EqNone.ne_str_none (z1a I q (by simp))
  | bl j=>cases ry; exact PySem.EqMixed.ne_str_bool (z1a I q (by simp))
  | int j=>obtain⟨t',rfl⟩:=ry; exact PySem.EqMixed.ne_str_int (z1a I q (by simp))
  | str j=>obtain⟨t',rfl⟩:=ry; exact ne_str (z1a I q (congrArg not zdZ))
  | _=>exact absurd (show false=true from hs) Bool.false_ne_true
 | byt i=>
  obtain⟨t,rfl⟩:=rx
  cases y with
  | byt j=>obtain⟨t',rfl⟩:=ry; exact PySem.W.ne_bytes (z1a I q (congrArg not ze1))
  | _=>exact absurd (show false=true from hs) Bool.false_ne_true
 | _=>cases y <;> exact absurd (show false=true from hs) Bool.false_ne_true
def zkk:OpR X (compareOp .Lt) (rI0 λi j =>.bl (decide (i<j))):=opB0 λ_ _ _ _ _ _ _ q=>lt_int q
def zkl:OpR X (compareOp .LtE) (rI0 λi j =>.bl (decide (i<=j))):=opB0 λ_ _ _ _ _ _ _ q=>le_int q
def zkm:OpR X (compareOp .Gt) (rI0 λi j =>.bl (decide (j<i))):=opB0 λ_ _ _ _ _ _ _ q=>gt_int q
def z0C (b:Expr){op:CmpOp}(h:op ≠ .In:=by decide)(h2:op ≠ .NotIn:=by decide):behindInMarks op b=false:=by
 have e1:(op == CmpOp.In)=false:=by cases op <;> first | rfl | exact absurd rfl h
 have e2:(op == CmpOp.NotIn)=false:=by cases op <;> first | rfl | exact absurd rfl h2
 cases b <;> simp[behindInMarks,e1,e2]
def zgH {op:CmpOp}{r:R2}(ho:OpR X (compareOp op) r)(ha:PE X a ta)(hb:PE X b tb)(hm:behindInMarks op b=false):PE X (.Compare a [op] [b] pos) (tOp r ta tb):=by
 intro pins s σ H Q I h;exact wpAny_Compare1 (binT ha hb I h λv u s2 x y H2 I2 rx ry q=>ho pins s2 σ H2 x y v u Q I2 rx ry q) hm
def zgd (t:TE):TT:=λσ H Q=>t σ H λx H'=>∃k,x = .bl k/\Q k H'
def zgz {op:CmpOp}{r:R2}(ho:OpR X (compareOp op) r)(ha:PE X a ta)(hb:PE X b tb)(hm:behindInMarks op b=false):PT X (.Compare a [op] [b] pos) (zgd (tOp r ta tb)):=by
 intro pins s σ H Q I h;refine wpAny_isTrue_Compare1 (thn (ha pins s σ H _ I h) λv s1 ⟨x,H1,I1,r1,q1⟩=>thn (hb pins s1 σ H1 _ I1 q1) λu s2 ⟨y,H2,I2,r2,q2⟩=>
  thn (ho pins s2 σ H2 x y v u _ I2 r1 r2 q2) λc s3 ⟨z,H3,I3,r3,k,e,q3⟩ =>?_) hm
 subst e
 cases r3
 exact wpAny_truthy_bool ⟨H3,I3,q3⟩
def z8r:(sizeLine:Nat)<2 ^ 63:=by rw[sizeLine_eq]; decide
def zcj:OpR X (binaryOp .Add) (λx y H Q=>∃i j,x = .str i/\y = .str j/\i.length+j.length<=sizeLine/\Q (.str (i++j)) H):=by
 intro pins s σ H x y v u Q I rx ry h;obtain⟨i,j,rfl,rfl,hz,q⟩:=h;obtain⟨t,rfl⟩:=rx;obtain⟨t',rfl⟩:=ry;exact add_str (λt' tk=>⟨.str (i++j),H,I.tok _,⟨_,rfl⟩,q⟩) hz
def z6i {x:V}{us:List Value}(r:Vals [x] us):∃u,us=[u]/\RelV x u:=by
 cases r with
 | cons r1 r2=>cases r2; exact⟨_,rfl,r1⟩
def zho {x y:V}{us:List Value}(r:Vals [x,y] us):∃u w',us=[u,w']/\RelV x u/\RelV y w':=by
 cases r with
 | cons r1 r2=>
  cases r2 with
  | cons r3 r4=>cases r4; exact⟨_,_,rfl,r1,r3⟩
def zfx:z2p X (.builtin "abs") (λxs H Q=>∃i,xs=[.int i]/\Q (.int (if i<0 then -i else i)) H):=by
 intro pins s σ H xs us Q I r h;obtain⟨i,rfl,q⟩:=h;obtain⟨u,rfl,t,rfl⟩:=z6i r;exact call_abs_int λu tk=>⟨.int (if i<0 then -i else i),H,I.tok _,⟨_,rfl⟩,q⟩
def ze6 (hc:X.calm=true):z2p X (.builtin "min") (λxs H Q=>∃i j,xs=[.int i,.int j]/\Q (.int (if j<i then j else i)) H):=by
 intro pins s σ H xs us Q I r h;obtain⟨i,j,rfl,q⟩:=h;obtain⟨u,w',rfl,⟨t,rfl⟩,⟨t',rfl⟩⟩:=zho r;refine min_two_ints (I.ok.hd hc) λh' tk k=>⟨_,H,I.kept k,?_,q⟩
 by_cases hj:j<i
 ·rw[if_pos hj,if_pos hj]; exact⟨_,rfl⟩
 ·rw[if_neg hj,if_neg hj]; exact⟨_,rfl⟩
end
structure ObjM (h:Heap)(x dx C:Addr)(mA:Str->Option Value):Prop where
 obj:h.get? x=some (PySem.W.instObj C dx)
 ns:h.Ns1 dx mA
 ne:dx≠x
def zdF {h:Heap}{dx:Addr}{mA:Str->Option Value}(n:h.Ns1 dx mA):∃od,h.get? dx=some od/\∀name,PySem.W.lookIn name od=some (mA name):=by
 obtain⟨o,es,ep,ho,hd,hk,_,hm⟩:=n;refine⟨o,ho,λname =>?_⟩;have e:=hm name;unfold nsFind findBy at e;rw[<- Array.find?_toList] at e;unfold PySem.W.lookIn;rw[hd];dsimp only
 split
 ·rename_i y q
  rw[q] at e;exact congrArg some e
 ·rename_i q
  rw[q] at e;have a:es.toList.any (·.refKey)=false:=by
   rw[List.any_eq_false];intro y hy;obtain⟨z,t,hkey⟩:=hk y (Array.mem_toList_iff.mp hy);simp[DictEntry.refKey,hkey]
  have a':¬ es.toList.any (·.refKey)=true:=by rw[a]; exact Bool.false_ne_true
  rw[if_neg a'];exact congrArg some e
def ObjM.look {h:Heap}{x dx C:Addr}{mA:Str->Option Value}(I:ObjM h x dx C mA):∃od,PySem.W.InstAt h x (PySem.W.instObj C dx) C (some od)/\∀name,PySem.W.lookIn name od=some (mA name):=
 let ⟨od,ho,hl⟩:=zdF I.ns
 ⟨od,⟨I.obj,rfl,rfl,ho⟩,hl⟩
section
variable {P:Program}{w:World}{H H':Hp}{h h':Heap}{a C dx:Addr}{fs fs':List (Str × V)}
def zh7 (hok:HOk P w H h)(e:H a=some (.ins C dx fs)):∃mA,ObjM h a dx C mA/\(∀f,RelO (fs.lookup f) (mA f))/\PySem.Within mA (fs.map (·.1))/\fs.length<=1000/\H dx=some (.own a):=by
 obtain⟨d,z,ne,ob,mA,n,r,q⟩:=(show z2o P w H h a (.ins C dx fs) from hok a _ e)
 exact⟨mA,⟨ob,n,ne⟩,r,q,z,d⟩
end
structure Cls (K:W.Frag)(C:Addr):Prop where
 pg:PySem.W.plainGet K C Str.empty=true
 hd:PySem.W.hasDictIn K C=true
 po:PySem.W.plainOver K C=true
 sa:PySem.W.findIn K (.ref C) "__setattr__"=some (some (.builtin "object.__setattr__"))
def Cls.get {K:W.Frag}{C:Addr}(c:Cls K C)(f:Str):PySem.W.plainGet K C f=true:=c.pg
section
variable {X:Cx}{pins:List (Addr × Obj)}{σ:St}{H:Hp}{s:Shared}{A:Around}{E:Value->Shared->Prop}{Q:Value->Shared->Prop}{c:Value}{b:Bool}
inductive TyOf (K:W.Frag) (H:Hp):V->Value->Prop where
 | non:TyOf K H .non (.type "NoneType")
 | bl (x:Bool):TyOf K H (.bl x) (.type "bool")
 | int (i:Int):TyOf K H (.int i) (.type "int")
 | str (x:Str):TyOf K H (.str x) (.type "str")
 | flt (x:UInt64):TyOf K H (.flt x) (.type "float")
 | lst {a:Addr}{xs:List V}(e:H a=some (.lst xs)):TyOf K H (.ref a) (.type "list")
 | frz {a:Addr}{o:Obj}{xs:List V}(e:H a=some (.frz o (.lst xs))):TyOf K H (.ref a) (.type "list")
 | tup {a:Addr}{xs:List V}(e:H a=some (.tup xs)):TyOf K H (.ref a) (.type "tuple")
 | dK {a:Addr}{kvs:List (Key × V)}(e:H a=some (.dK kvs)):TyOf K H (.ref a) (.type "dict")
 | dT {a:Addr}{kvs:List (List Key × V)}(e:H a=some (.dT kvs)):TyOf K H (.ref a) (.type "dict")
 | ins {a C dx:Addr}{fs:List (Str × V)}(e:H a=some (.ins C dx fs)) (cl:Cls K C) (ha:PySem.W.findIn K (.ref C) "__class__"=some (some (.builtin "object.__class__")))
   (hn:PySem.W.specialIn K (.builtin "object.__class__") "__get__"=some (some (.builtin "getset_descriptor.__get__"))) (htk:PySem.W.takesIn K (.builtin "object.__class__")=some true)
   (hm:PySem.W.mroIn K C (.type "object")=some true):TyOf K H (.ref a) (.ref C)
def z5S {x:V}{u t:Value}(I:Inv X pins σ H s)(rx:RelV x u)(ty:TyOf X.K H x t)(e:PySem.W.kitOne X.K t c=some b)(h:∀tk,Q (.bool b) { s with toks:=tk }):
  wpAny (model X.prog X.w) A (call (.builtin "isinstance") [u,c]) Q E s:=by
 cases ty with
 | non=>cases (show u=Value.none from rx); exact PySem.W.kia_one PySem.W.kitx_none I.kIn True.intro e (λz=>nomatch z) h
 | bl y=>cases (show u=Value.bool y from rx); exact PySem.W.kia_one PySem.W.kitx_bool I.kIn True.intro e (λz=>nomatch z) h
 | int i=>obtain⟨t,q⟩:=(show ∃t,u=Value.int i t from rx); cases q; exact PySem.W.kia_one PySem.W.kitx_int I.kIn True.intro e (λz=>nomatch z) h
 | str y=>obtain⟨t,q⟩:=(show ∃t,u=Value.str y t from rx); cases q; exact PySem.W.kia_one PySem.W.kitx_str I.kIn True.intro e (λz=>nomatch z) h
 | flt y=>obtain⟨t,q⟩:=(show ∃t,u=Value.float y t from rx); cases q; exact PySem.W.kia_one PySem.W.kitx_float I.kIn True.intro e (λz=>nomatch z) h
 | @lst a xs ea=>
  cases (show u=Value.ref a from rx)
  obtain⟨_,_,n,_,h1⟩:=(show z2o X.prog X.w H s.heap a (.lst xs) from I.hok a _ ea)
  exact PySem.W.kia_one PySem.W.kitx_list I.kIn ⟨_,h1,rfl⟩ e (λz=>nomatch z) h
 | @frz a ob xs ea=>
  cases (show u=Value.ref a from rx)
  obtain⟨_,_,_,n,_,h1⟩:=(show z2o X.prog X.w H s.heap a (.frz ob (.lst xs)) from I.hok a _ ea)
  exact PySem.W.kia_one PySem.W.kitx_list I.kIn ⟨_,h1,rfl⟩ e (λz=>nomatch z) h
 | @tup a xs ea=>
  cases (show u=Value.ref a from rx)
  obtain⟨_,_,_,p,_⟩:=(show z2o X.prog X.w H s.heap a (.tup xs) from I.hok a _ ea)
  obtain⟨o,h1,h2,_⟩:=p;exact PySem.W.kia_one PySem.W.kitx_tuple I.kIn ⟨o,h1,h2⟩ e (λz=>nomatch z) h
 | @dK a kvs ea=>
  cases (show u=Value.ref a from rx)
  obtain⟨_,_,vs,_,p⟩:=(show z2o X.prog X.w H s.heap a (.dK kvs) from I.hok a _ ea)
  obtain⟨o,es,ep,h1,h2,_⟩:=p;exact PySem.W.kia_one PySem.W.kitx_dict I.kIn ⟨o,h1,h2.1⟩ e (λz=>nomatch z) h
 | @dT a kvs ea=>
  cases (show u=Value.ref a from rx)
  obtain⟨_,_,xs,_,o,es,ep,h1,h2,_⟩:=(show z2o X.prog X.w H s.heap a (.dT kvs) from I.hok a _ ea)
  exact PySem.W.kia_one PySem.W.kitx_dict I.kIn ⟨o,h1,h2.1⟩ e (λz=>nomatch z) h
 | @ins a C dx fs ea cl ha hn htk hm=>
  cases (show u=Value.ref a from rx)
  obtain⟨mA,O,_⟩:=zh7 I.hok ea;obtain⟨od,J,_⟩:=O.look;exact PySem.W.kia_one (PySem.W.kitx_own (cl.get _) cl.hd ha hn htk hm) I.kIn J e (λz=>nomatch z) h
end
structure Room (k:Nat)(A:Around):Prop where
 hd:A.handled=none
 dp:A.depth+3*k+5<recursionLimit
 un:A.units+16*k+200<cLine
def Room.mono {j k:Nat}{A:Around}(r:Room k A)(h:j<=k):Room j A:=⟨r.hd,by have:=r.dp; omega,by have:=r.un; omega⟩
def Room.deeper {k:Nat}{A:Around}(r:Room (k+1) A)(env:Env):Room k (A.deeper env):=
 ⟨r.hd,by have:=r.dp; show A.depth+1+3*k+5<_; omega,by have:=r.un; show A.units+3+16*k+200<_; omega⟩
def Room.depth {k:Nat}{A:Around}(r:Room k A):A.depth<recursionLimit:=by have:=r.dp; omega
def Room.units {k:Nat}{A:Around}(r:Room k A):A.units+64<cLine:=by have:=r.un; omega
def tNil:TA:=λ_ H Q=>Q [] H
def z9H (ta:TE)(tr:TA):TA:=λσ H Q=>ta σ H λx H1=>tr σ H1 λxs H2=>Q (x::xs) H2
section
variable {X:Cx}{e:Expr}{es:List Expr}{te:TE}{t:TA}{pos:Pos}
def zdu:PA X [] tNil:=λ_ _ _ _ H Q I h=>Calls.spliced_nil ⟨[],H,I,.nil,h⟩
def zaZ (ha:PE X e te)(hr:PA X es t)(hs:starEach (e::es) X.env=(false,eval e X.env)::starEach es X.env:=by rfl):PA X (e::es) (z9H te t):=by
 intro pos pins s σ H Q I h;rw[hs];show wpAny _ _ (spliced ((false,eval e X.env)::backTo pos (starEach es X.env))) _ _ s;refine Calls.spliced_cons (thn (ha pins s σ H _ I h) λu s1 ⟨x,H1,I1,r1,q1⟩ =>?_);exact thn (hr pos pins s1 σ H1 _ I1 q1) λus s2 ⟨xs,H2,I2,r2,q2⟩=>⟨x::xs,H2,I2,.cons r1 r2,q2⟩
def tTup (t:TA):TE:=λσ H Q=>t σ H λxs H1=>xs.length<=sizeLine/\∀p,H1 p=none->Q (.ref p) (upd H1 p (.tup xs))
def tLst (t:TA):TE:=λσ H Q=>t σ H λxs H1=>xs.length<=sizeLine/\∀p,H1 p=none->Q (.ref p) (upd H1 p (.lst xs))
def zim {x1}(h:PA X es t):PE X (.Tuple es x1 pos) (tTup t):=by
 intro pins s σ H Q I hq;refine wpAny_Tuple_spliced (thn (h pos pins s σ H _ I hq) λus s1 ⟨xs,H1,I1,r,z,q⟩=>⟨by rw[<- r.length]; exact z,?_⟩);have hf:H1 s1.heap.objs.size=none:=I1.hok.fresh (Nat.le_refl _);refine⟨.ref s1.heap.objs.size,upd H1 s1.heap.objs.size (.tup xs),I1.laid (t':=s1.toks) (λb u e=>Heap.get?_push_of_some _ e) (Nat.le_refl _) ?_,rfl,q _ hf⟩;exact⟨z,us,r,⟨_,Heap.get?_push_size _ rfl,rfl,_,rfl⟩,_,Heap.get?_push_size _ rfl,rfl⟩
def ziq (h:PA X es t):PE X (.List es pos) (tLst t):=by
 intro pins s σ H Q I hq;refine wpAny_List_spliced (thn (h pos pins s σ H _ I hq) λus s1 ⟨xs,H1,I1,r,z,q⟩=>⟨by rw[<- r.length]; exact z,?_⟩);have hf:H1 s1.heap.objs.size=none:=I1.hok.fresh (Nat.le_refl _);refine⟨.ref s1.heap.objs.size,upd H1 s1.heap.objs.size (.lst xs),I1.laid (t':=s1.toks) (λb u e=>Heap.get?_push_of_some _ e) (Nat.le_refl _) ?_,rfl,q _ hf⟩;exact⟨z,us,0,r,Heap.get?_push_size _ rfl⟩
end
abbrev Sp:=List V->Hp->VK->XK->Prop
abbrev CXT:=List Env->Hp->Shared->XK->Value->Shared->Prop
structure Env0 (P:Program)(w:World)(K:W.Frag)(mg:Str->Option Value)(base:Heap)(A:Around)(outer:List Env)(s:Shared)(H:Hp):Prop where
 frames:A.frames=some outer
 mod:Mod K mg base
 bs:∀b o,base.get? b=some o->s.heap.get? b=some o/\H b=none
 bsz:base.objs.size<=s.heap.objs.size
 funs:s.heap.FunFrames base outer
 frf:∀b∈frs outer,H b=none
 tbs:Tbs K H
 hok:HOk P w H s.heap
 bare:AllBare s.gens
def CE (outer:List Env)(P:Program)(w:World)(H:Hp)(s:Shared)(Q:VK)(u:Value)(s':Shared):Prop:=
 ∃v H',s'.os=s.os/\AllBare s'.gens/\Un (frs outer) [] H H' s.heap s'.heap/\HOk P w H' s'.heap/\RelV v u/\Q v H'
def CR (CX:CXT)(outer:List Env)(P:Program)(w:World)(H:Hp)(s:Shared)(Q:VK)(E:XK)(r:Result)(s':Shared):Prop:=
 match r with
 | .ok (.ret u)=>CE outer P w H s Q u s'
 | .ok _=>False
 | .error e=>CX outer H s E e s'
structure FnOk (P:Program)(w:World)(K:W.Frag)(mg:Str->Option Value)(base:Heap)(CX:CXT)(k:Nat)(f:Addr)(fd:FuncData)(ps:List Str)(sp:Sp):Prop where
 len:∀vs H Q E,sp vs H Q E->vs.length=ps.length
 run:∀(A:Around) (outer:List Env) (s:Shared) (H:Hp) (args:Args) (us:List Value) (vs:List V) (Q:VK) (E:XK),Room k A->Env0 P w K mg base A outer s H->BindsTo s fd args (ps.zip us)->Vals vs us->sp vs H Q E->
  codeAny (model P w) A (.call (.ref f) args) (CR CX outer P w H s Q E) s
def FnOk.imp {P:Program}{w:World}{K:W.Frag}{mg:Str->Option Value}{base:Heap}{CX:CXT}{k:Nat}{f:Addr}{fd:FuncData}{ps:List Str}{sp sp':Sp}(F:FnOk P w K mg base CX k f fd ps sp)
  (h:∀vs H Q E,sp' vs H Q E->sp vs H Q E):FnOk P w K mg base CX k f fd ps sp':=
 ⟨λvs H Q E q=>F.len vs H Q E (h _ _ _ _ q),λA outer s H args us vs Q E hr he hb hv hs=>F.run A outer s H args us vs Q E hr he hb hv (h _ _ _ _ hs)⟩
section
variable {X:Cx}{pins:List (Addr × Obj)}{σ:St}{H:Hp}{s s':Shared}
def Inv.env0 (I:Inv X pins σ H s):Env0 X.prog X.w X.K X.mg X.base X.A X.stack s H:=
 ⟨I.ok.frames,I.ok.mod,I.bs,Nat.le_trans I.ok.bsz I.sz,I.stack,I.stkFree,I.tbs,I.hok,I.bare⟩
def Inv.after {Q:VK}{u:Value}(I:Inv X pins σ H s)(h:CE X.stack X.prog X.w H s Q u s'):EP X pins σ Q u s':=by
 obtain⟨v,H',os,bare,un,hok,r,q⟩:=h;obtain⟨hh,g,d,t,os'⟩:=s';obtain rfl:os'=s.os:=os;exact⟨v,H',I.call (h':=hh) (g':=g) (d':=d) (t':=t) (ch:=[]) un hok bare (λb z=>absurd z (by simp)),r,q⟩
end
def zge (sp:Sp)(dvs:List V)(E:XK)(t:TA):TE:=λσ H Q=>t σ H λvs H1=>sp (vs++dvs) H1 Q E
def z8a (K:W.Frag)(fd:FuncData)(ps:List Str)(ds:List Value):Prop:=
 ∀(s:Shared) (us:List Value),K.In s.heap->(us++ds).length=ps.length->BindsTo s fd ⟨us,[]⟩ (ps.zip (us++ds))
def z8a.all {K:W.Frag}{fd:FuncData}{ps:List Str}(h:∀us:List Value,us.length=ps.length->bindArgs fd ⟨us,[]⟩=pure (ps.zip us)):z8a K fd ps []:=λs us _ hl=>by
 rw[List.append_nil] at hl ⊢;exact .of_eq (h us hl)
def z6S (CX:CXT)(X:Cx)(E:XK):Prop:=∀(pins:List (Addr × Obj)) (σ:St) (H:Hp) (s:Shared) (e:Value) (s':Shared),Inv X pins σ H s->CX X.stack H s E e s'->X.xe e s'
section
variable {X:Cx}{CX:CXT}{k:Nat}{f C:Addr}{fd:FuncData}{ps:List Str}{sp:Sp}{dvs:List V}{ds:List Value}{E:XK}{x m:Str}{p pos apos:Pos}{e o:Expr}{es:List Expr}{ta:TE}{t:TA}
def zfL {pins:List (Addr × Obj)}{σ:St}{H:Hp}{s:Shared}{Q:VK}{us:List Value}{vs:List V}(F:FnOk X.prog X.w X.K X.mg X.base CX k f fd ps sp)(hr:Room k X.A)(hb:z8a X.K fd ps ds)(hd:Vals dvs ds)(hx:z6S CX X E)
  (I:Inv X pins σ H s) (r:Vals vs us) (h:sp (vs++dvs) H Q E):wpAny (model X.prog X.w) X.A (call (.ref f) us) (EP X pins σ Q) X.xe s:=by
 have r2:Vals (vs++dvs) (us++ds):=r.append hd;have hl:(us++ds).length=ps.length:=by rw[<- r2.length]; exact F.len _ _ _ _ h
 refine wpAny_call (codeAny_mono (F.run X.A X.stack s H ⟨us,[]⟩ (us++ds) (vs++dvs) Q E hr I.env0 (hb s us I.kIn hl) r2 h) λr s' hq =>?_)
 cases r with
 | error e=>exact hx pins σ H s e s' I hq
 | ok fl=>
  cases fl with
  | ret u=>exact I.after hq
  | next=>exact False.elim hq
  | brk=>exact False.elim hq
  | cont=>exact False.elim hq
def zgI (F:FnOk X.prog X.w X.K X.mg X.base CX k f fd ps sp)(hr:Room k X.A)(hg:Gl X x)(hm:X.mg x=some (.ref f))(hk:PySem.W.keepIn X.K (.ref f)=true)(hb:z8a X.K fd ps ds)(hd:Vals dvs ds)(hx:z6S CX X E)
  (ha:PA X (e::es) t) (hdb:(x == ("__debug__":Str))=false:=by decide) (he:starEach (e::es) X.env=(false,eval e X.env)::starEach es X.env:=by rfl) (hpl:(backTo pos (starEach es X.env)).any (·.1)=false:=by rfl):
  PE X (.Call (.Name x p) (e::es) [] pos) (zge sp dvs E t):=by
 intro pins s σ H Q I h;refine wpAny_Call_Name_kw (zdI I hg hm ?_ hdb);refine PySem.W.callWith_K (h₀:=X.base) I.ok.mod.kin hk (thn (ha pos pins s σ H _ I h) λus s1 ⟨vs,H1,I1,r,q⟩=>⟨I1.kIn,?_⟩) he hpl;exact zfL F hr hb hd hx I1 r q
end
def PK (X:Cx)(kws:List Keyword)(t:TA):Prop:=
 ∀(pos:Pos) (pins:List (Addr × Obj)) (s:Shared) (σ:St) (H:Hp) (Q:List V->Hp->Prop),Inv X pins σ H s->t σ H Q->wpAny (model X.prog X.w) X.A (evalAll ((backToKw pos (keywordEach kws X.env)).map (·.2))) (AP X pins σ Q) X.xe s
section
variable {X:Cx}{CX:CXT}{k:Nat}{f C:Addr}{fd:FuncData}{ps ks:List Str}{sp:Sp}{E:XK}{x m:Str}{p pos apos kpos:Pos}{e o:Expr}{es:List Expr}{kws:List Keyword}{te ta:TE}{t tk:TA}{nm:Option Str}
def zfP:PK X [] tNil:=λ_ _ _ _ H Q I h=>wpAny_evalAll_nil ⟨[],H,I,.nil,h⟩
def zdm (ha:PE X e te)(hr:PK X kws t):PK X (⟨nm,e,kpos⟩::kws) (z9H te t):=by
 intro pos pins s σ H Q I h;show wpAny _ _ (evalAll ((do let v <- eval e X.env; standAt pos; pure v)::(backToKw pos (keywordEach kws X.env)).map (·.2))) _ _ s;refine wpAny_evalAll_cons (wpAny_bind (thn (ha pins s σ H _ I h) λu s1 ⟨x,H1,I1,r1,q1⟩=>wpAny_bind (wpAny_standAt (wpAny_pure ?_))));exact thn (hr pos pins s1 σ H1 _ I1 q1) λus s2 ⟨xs,H2,I2,r2,q2⟩=>⟨x::xs,H2,I2,.cons r1 r2,q2⟩
variable {g:List Value->List Value->List Value}{gV:List V->List V->List V}
end
structure z0h (N P:List Str)(sc:Scope):Prop where
 kind:sc.kind = .function
 co:sc.isCoroutine=false
 gen:sc.isGenerator=false
 nd:N.Nodup
 pre:N.take P.length=P
 par:∀x∈P,sc.names.lookup x=some .local\/sc.names.lookup x=some .cell
 nofree:∀y∈sc.names,y.2 ≠ .free
def zaA {kindOf:Str->Option NameKind}{x:Str}:∀{binds:List (Str × Value)}{m:Str->Option Value},(∀v,(x,v) ∉ binds)->bindL kindOf binds m x=m x
 | [],_,_=>rfl
 | (n,v)::r,m,h=>by
  unfold bindL;rw[zaA λw hw=>h w (List.mem_cons_of_mem _ hw)]
  split
  ·have:x≠n:=by rintro rfl; exact h v List.mem_cons_self
   simp[this]
  ·rfl
def zaC {kindOf:Str->Option NameKind}{x:Str}:∀{binds:List (Str × Value)}{m:Str->Option Value},(∀v,(x,v) ∉ binds)->bindC kindOf binds m x=m x
 | [],_,_=>rfl
 | (n,v)::r,m,h=>by
  unfold bindC;rw[zaC λw hw=>h w (List.mem_cons_of_mem _ hw)]
  split
  ·rfl
  ·have:x≠n:=by rintro rfl; exact h v List.mem_cons_self
   simp[this]
def zaB {kindOf:Str->Option NameKind}{x:Str}{v:Value}:∀{P:List Str}{vs:List Value}{i:Nat}{m:Str->Option Value},P.Nodup->P[i]? = some x->vs[i]? = some v->kindOf x=some .local->
  bindL kindOf (P.zip vs) m x=some v
 | [],_,_,_,_,h,_,_=>by simp at h
 | _::_,[],_,_,_,_,h,_=>by simp at h
 | p::P,w::vs,0,m,nd,h1,h2,hk=>by
  simp at h1 h2; subst h1; subst h2;show bindL kindOf ((p,w)::P.zip vs) m p=_;unfold bindL;rw[zaA λv hv=>(List.nodup_cons.mp nd).1 (List.of_mem_zip hv).1,if_pos hk];simp
 | p::P,w::vs,i+1,m,nd,h1,h2,hk=>by
  show bindL kindOf ((p,w)::P.zip vs) m x=_;unfold bindL;exact zaB (i:=i) (List.nodup_cons.mp nd).2 (by simpa using h1) (by simpa using h2) hk
def zaD {kindOf:Str->Option NameKind}{x:Str}{v:Value}:∀{P:List Str}{vs:List Value}{i:Nat}{m:Str->Option Value},P.Nodup->P[i]? = some x->vs[i]? = some v->kindOf x≠some .local->
  bindC kindOf (P.zip vs) m x=some v
 | [],_,_,_,_,h,_,_=>by simp at h
 | _::_,[],_,_,_,_,h,_=>by simp at h
 | p::P,w::vs,0,m,nd,h1,h2,hk=>by
  simp at h1 h2; subst h1; subst h2;show bindC kindOf ((p,w)::P.zip vs) m p=_;unfold bindC;rw[zaC λv hv=>(List.nodup_cons.mp nd).1 (List.of_mem_zip hv).1,if_neg hk];simp
 | p::P,w::vs,i+1,m,nd,h1,h2,hk=>by
  show bindC kindOf ((p,w)::P.zip vs) m x=_;unfold bindC;exact zaD (i:=i) (List.nodup_cons.mp nd).2 (by simpa using h1) (by simpa using h2) hk
def start (N:List Str)(vs:List V):St:=vs.map some++List.replicate (N.length - vs.length) none
def cxOf (CX:CXT)(P:Program)(w:World)(K:W.Frag)(mg:Str->Option Value)(base:Heap)(N:List Str)(qual:Str)(scope:Scope)(f:Addr)(cd:Value)(A:Around)(outer:List Env)(s:Shared)(H:Hp)(E:XK):Cx where
 prog:=P
 w:=w
 K:=K
 mg:=mg
 base:=base
 A:=A.deeper (envOfC qual scope s.heap.objs.size f cd)
 N:=N
 s₀:=s
 H₀:=H
 env:=envOfC qual scope s.heap.objs.size f cd
 outer:=outer
 stack:=envOfC qual scope s.heap.objs.size f cd::outer
 ex:=[]
 calm:=true
 fn:=λ_=>true
 pn:=[]
 xe:=λe s'=>wpAny (model P w) (A.deeper (envOfC qual scope s.heap.objs.size f cd)) (leaving (envOfC qual scope s.heap.objs.size f cd) e) (λ_ s''=>CX outer H s E e s'') (λe' s''=>CX outer H s E e' s'') s'
def zc1 {sc:Scope}{n:Nat}{x:Str}(h:sc.names.lookup x=some .cell):∃c,(cellsFrom n sc.names []).lookup x=some c:=by
 have q:=PySem.W.cellsFrom_some sc.names n [] (.inl h);exact Option.isSome_iff_exists.mp q
def zdM {CX:CXT}{P:Program}{w:World}{K:W.Frag}{mg:Str->Option Value}{base:Heap}{N ps:List Str}{qual:Str}{scope:Scope}{f:Addr}{cd:Value}{A:Around}{outer:List Env}{s s1:Shared}{H:Hp}{E:XK}{us:List Value}{vs:List V}
  (S:z0h N ps scope) (hd:A.handled=none) (e0:Env0 P w K mg base A outer s H) (hl:vs.length=ps.length) (r:Vals vs us)
  (x:InCallC s s.heap.objs.size (bindL (envOfC qual scope s.heap.objs.size f cd).kindOf (ps.zip us) λ_=>none) (cellsFrom (s.heap.objs.size+1) scope.names []) (bindC (envOfC qual scope s.heap.objs.size f cd).kindOf (ps.zip us) λ_=>none) s1):
  Inv (cxOf CX P w K mg base N qual scope f cd A outer s H E) [] (start N vs) H s1:=by
 have hpl:ps.length<=N.length:=by have:=congrArg List.length S.pre; rw[List.length_take] at this; omega
 obtain⟨h1,tk,rfl,hk⟩:=x.done;have noA:∀b:Addr,b ∉ (cxOf CX P w K mg base N qual scope f cd A outer s H E).ex:=λb z=>absurd (show b∈([]:List Addr) from z) (by simp);refine⟨⟨e0.mod,S.kind,rfl,rfl,Nat.le_refl _,λy z c h1 h2 =>?_,λy hy =>?_,λy c _ h =>?_,λ_=>hd,Around.frames_deeper e0.frames,.inr ⟨rfl,rfl⟩,λb z=>absurd z (noA b),e0.bs,e0.bsz,λb _ _=>noA b,λb z=>absurd z (noA b),e0.funs,e0.frf,e0.tbs⟩,
  rfl,e0.bare,Un.kept hk,⟨_,x.toInCall.ns,λi y v h1 h2 h3 =>?_⟩,λy c h=>⟨_,x.cell y c h⟩,e0.hok.fresh (Nat.le_refl _),λy c h =>?_,λp hp=>absurd (show p∈([]:List (Addr × Obj)) from hp) (by simp),e0.hok.kept hk,?_⟩
 ·exact name_of_addr x.apart (PySem.mem_of_lookup h1) (PySem.mem_of_lookup h2)
 ·have hy:scope.names.lookup y=some .cell\/scope.names.lookup y=some .free:=hy
  rcases hy with hy | hy
  ·exact zc1 hy
  ·exact absurd rfl (S.nofree _ (PySem.mem_of_lookup hy))
 ·exact Nat.le_of_lt (x.above y c (PySem.mem_of_lookup h))
 ·have hi:i<vs.length:=by
   unfold start at h2
   by_cases hi:i<vs.length
   ·exact hi
   ·rw[List.getElem?_append_right (by simpa using hi)] at h2;rw[List.getElem?_replicate] at h2
    split at h2 <;> cases h2
  have ha:vs[i]? = some v:=by
   unfold start at h2;rw[List.getElem?_append_left (by simpa using hi),List.getElem?_map] at h2
   cases e:vs[i]? with
   | none=>rw[e] at h2; cases h2
   | some a=>rw[e] at h2; cases h2; rfl
  obtain⟨u,hu,rv⟩:=r.get ha;have hp:ps[i]? = some y:=by
   rw[<- S.pre,List.getElem?_take_of_lt (by omega)]; exact h1
  have ndP:ps.Nodup:=by rw[<- S.pre]; exact S.nd.sublist (List.take_sublist _ _)
  refine⟨u,rv,?_⟩
  rcases S.par y (List.mem_of_getElem? hp) with k | k
  ·exact .inl ⟨k,zaB ndP hp hu k⟩
  ·obtain⟨c,e⟩:=zc1 (n:=s.heap.objs.size+1) k;refine .inr ⟨.inl k,c,e,?_⟩;have q:=x.cell y c e;rw[zaD ndP hp hu (by show scope.names.lookup y≠_; rw[k]; decide)] at q;exact q
 ·exact e0.hok.fresh (Nat.le_of_lt (x.above y c (PySem.mem_of_lookup h)))
 ·unfold start;show _=N.length;rw[List.length_append,List.length_map,List.length_replicate];omega
def zjs {CX:CXT}{P:Program}{w:World}{K:W.Frag}{mg:Str->Option Value}{base:Heap}{k:Nat}{f:Addr}{name qual:Str}{params:Arguments}{body:List Stmt}{scope:Scope}{dV kV doc pm cdv ct oc:Value}{an od:Option Addr}
  {osl:Array (Option Value)}{N ps:List Str}{sp:Sp}(lk:K.lookup f=some ⟨oc,od,.func (PySem.W.fnOf name qual params body scope dV kV doc pm an cdv ct),osl⟩) (hcd:PySem.W.codeIn K cdv qual=true) (S:z0h N ps scope)
  (len:∀vs H Q E,sp vs H Q E->vs.length=ps.length)
  (hbody:∀(A:Around) (outer:List Env) (s:Shared) (H:Hp) (vs:List V) (Q:VK) (E:XK),Room k (A.deeper (envOfC qual scope s.heap.objs.size f cdv))->sp vs H Q E->
   ∃t,PSs (cxOf CX P w K mg base N qual scope f cdv A outer s H E) body t/\t { nx:=λ_ H'=>Q .non H',rt:=Q } (start N vs) H):
  FnOk P w K mg base CX (k+1) f (PySem.W.fnOf name qual params body scope dV kV doc pm an cdv ct) ps sp:=by
 refine⟨len,λA outer s H args us vs Q E hr e0 hb r hsp =>?_⟩;have hl:=len _ _ _ _ hsp;have KX:K.In s.heap:=e0.mod.kin.keeps λb o e=>(e0.bs b o e).1;have lim:s.heap.NoLimit:=e0.mod.nolimit.keeps λb o e=>(e0.bs b o e).1;have hkind:∀y∈ps.zip us,scope.names.lookup y.1=some .local\/(scope.names.lookup y.1=some .cell/\((cellsFrom (s.heap.objs.size+1) scope.names []).lookup y.1).isSome=true):=λ⟨n,v⟩ hy=>by
  rcases S.par n (List.of_mem_zip hy).1 with q | q
  ·exact .inl q
  ·exact .inr ⟨q,PySem.W.cellsFrom_some _ _ _ (.inl q)⟩
 refine codeAny_call_function hr.depth (KX _ _ lk) rfl S.co S.gen rfl (PySem.W.codeRec_of KX hcd) (hb _ _ _ _ ?_);refine wpAny_newFunctionEnv_cells S.kind hkind λenv he s1 x =>?_;subst he;refine⟨lim.keeps x.toInCall.keep,codeAny_func ?_⟩;obtain⟨t,ht,hq⟩:=hbody A outer s H vs Q E (hr.deeper _) hsp;have I:Inv (cxOf CX P w K mg base N qual scope f cdv A outer s H E) [] (start N vs) H s1:=zdM S hr.hd e0 hl r x;refine wpAny_mono (ht [] s1 (start N vs) H _ I hq) (λfl s' hs =>?_) λe s' hs=>hs;have fin:∀{σ':St}{H':Hp}{v:V}{u:Value},Inv (cxOf CX P w K mg base N qual scope f cdv A outer s H E) [] σ' H' s'->RelV v u->Q v H'->CE outer P w H s Q u s':=
  λ{σ' H' v u} J rv q=>⟨v,H',J.os,J.bare,J.base,J.hok,rv,q⟩
 cases fl with
 | ret u=>
  obtain⟨v,σ',H',J,rv,q⟩:=hs;exact fin J rv q
 | next=>
  obtain⟨σ',H',J,q⟩:=hs;exact fin (v:=V.non) (u:=Value.none) J rfl q
 | brk=>
  obtain⟨_,_,_,q⟩:=hs;exact False.elim q
 | cont=>
  obtain⟨_,_,_,q⟩:=hs;exact False.elim q
section
variable {X:Cx}{x:Str}{p pos:Pos}{e:Expr}{es:List Expr}{t:TA}{id T:String}{r:List V->Hp->VK->Prop}
def tCB (r:List V->Hp->VK->Prop)(t:TA):TE:=λσ H Q=>t σ H λvs H1=>r vs H1 Q
def zeO (hc:z2p X (.builtin id) r)(hg:Gl X x)(hm:X.mg x=none)(hv:bootBuiltins x=some (.builtin id))(ha:PA X (e::es) t)(hn:x≠"__name__":=by decide)(hdb:(x == ("__debug__":Str))=false:=by decide)
  (he:starEach (e::es) X.env=(false,eval e X.env)::starEach es X.env:=by rfl) (hpl:(backTo pos (starEach es X.env)).any (·.1)=false:=by rfl):PE X (.Call (.Name x p) (e::es) [] pos) (tCB r t):=by
 intro pins s σ H Q I h;refine wpAny_Call_Name_kw (z6H I hg hm hv ?_ hn hdb);exact PyProof.Rows.callWith_builtin1 (thn (ha pos pins s σ H _ I h) λus s1 ⟨vs,H1,I1,r1,q1⟩=>hc pins s1 σ H1 vs us Q I1 r1 q1) he hpl
def zds (hc:z2p X (.type T) r)(hg:Gl X x)(hm:X.mg x=none)(hv:bootBuiltins x=some (.type T))(ha:PA X (e::es) t)(hn:x≠"__name__":=by decide)(hdb:(x == ("__debug__":Str))=false:=by decide)
  (he:starEach (e::es) X.env=(false,eval e X.env)::starEach es X.env:=by rfl) (hpl:(backTo pos (starEach es X.env)).any (·.1)=false:=by rfl):PE X (.Call (.Name x p) (e::es) [] pos) (tCB r t):=by
 intro pins s σ H Q I h;refine wpAny_Call_Name_kw (z6H I hg hm hv ?_ hn hdb);exact PyProof.Rows.callWith_type1 (thn (ha pos pins s σ H _ I h) λus s1 ⟨vs,H1,I1,r1,q1⟩=>hc pins s1 σ H1 vs us Q I1 r1 q1) he hpl
end
end L2
namespace HT
open PySem PyProof.Rows
def z2h:List Int->List Int->Bool
 | [],[]=>false
 | [],_::_=>true
 | _::_,[]=>false
 | x::xs,y::ys=>if x=y then z2h xs ys else decide (x<y)
def z3b (x y:Int)(xs ys:List Int):z2h (x::xs) (y::ys)=if x=y then z2h xs ys else decide (x<y):=rfl
def z9b:z2h [] []=false:=rfl
section
variable {prog:Program}{w:World}{A:Around}{E:Value->Shared->Prop}{s:Shared}
def zhi {t b:Addr}{vs ws:List Value}{Q:Value->Shared->Prop}(ht:IsTup s.heap t vs.toArray)(hb:IsTup s.heap b ws.toArray)(hv:vs≠[])
  (h1:ws=[]->Q (.ref t) s) (h2:ws≠[]->Q (.ref s.heap.objs.size) { s with heap:=s.heap.push { cls :=.type "tuple",data :=.seq (vs++ws).toArray } })
  (hsz:vs.length+ws.length<=sizeLine):wpAny (model prog w) A (binaryOp .Add (.ref t) (.ref b)) Q E s:=by
 obtain⟨⟨cls,dd,data,sl⟩,ho,hc,n,hd⟩:=id ht;obtain⟨⟨cls2,dd2,data2,sl2⟩,ho2,hc2,n2,hd2⟩:=id hb;simp only at hc hd hc2 hd2;subst hc hd hc2 hd2;have e:vs.toArray++ws.toArray=(vs++ws).toArray:=by simp
 by_cases hw:ws=[]
 ·exact concat_meets ⟨_,ho,rfl⟩ ⟨_,ho2,rfl⟩ noFill_tuple_add seq_tuple_add PySem.F.slot_tuple_add PySem.F.entry_tuple_add (PySem.F.args_tuple_add_2 _ _)
   (tuple_addW1 t b vs.toArray ws.toArray n n2 dd dd2 sl sl2 (by simpa using hv) (by simp[hw])) ⟨ho,ho2,h1 hw⟩
 ·refine concat_meets ⟨_,ho,rfl⟩ ⟨_,ho2,rfl⟩ noFill_tuple_add seq_tuple_add PySem.F.slot_tuple_add PySem.F.entry_tuple_add (PySem.F.args_tuple_add_2 _ _)
   (tuple_addW2 t b vs.toArray ws.toArray n n2 dd dd2 sl sl2 (by simpa using hv) (by simpa using hw) (by rw[List.size_toArray,List.size_toArray]; exact hsz)) ⟨ho,ho2,?_⟩
  rw[e];exact h2 hw
def sIx (n d:Nat):Option Int->Nat
 | none=>d
 | some v=>if v<0 then (v+(n:Int)).toNat else min v.toNat n
def zhS (n d:Nat)(hd:d<=n)(o:Option Int):sIx n d o<=n:=by
 cases o with
 | none=>exact hd
 | some v=>
  show (if v<0 then (v+(n:Int)).toNat else min v.toNat n)<=n
  by_cases hv:v<0
  ·rw[if_pos hv]; omega
  ·rw[if_neg hv]; exact Nat.min_le_right _ _
def ze4 (v:Int)(n d:Nat):(if v<0 then max (v+(n:Int)) 0 else min v (n:Int))=((sIx n d (some v):Nat):Int):=by
 show (if v<0 then max (v+(n:Int)) 0 else min v (n:Int))=(((if v<0 then (v+(n:Int)).toNat else min v.toNat n):Nat):Int)
 by_cases hv:v<0
 ·simp only[if_pos hv]; omega
 ·simp only[if_neg hv]; omega
def zcy (lo hi:Option Int)(n:Nat):Builtin.Slice.sliceAdjust lo hi 1 (n:Int)=(((sIx n 0 lo:Nat):Int),((sIx n n hi:Nat):Int)):=by
 have h1:¬ ((1:Int)<0):=by omega
 unfold Builtin.Slice.sliceAdjust;simp only[h1,if_false];refine Prod.ext ?_ ?_
 ·cases lo with
  | none=>rfl
  | some v=>exact ze4 v n 0
 ·cases hi with
  | none=>rfl
  | some v=>exact ze4 v n n
def zci (i j:Nat):Builtin.Slice.slicePlaces (i:Int) (j:Int) 1=j - i:=by
 unfold Builtin.Slice.slicePlaces;have h1:(1:Int) > 0:=by omega
 simp only[h1,if_true,Int.ediv_one]
 split <;> omega
def z8f {v:Value}{o:Option Int}{Q:Option Int->Shared->Prop}(p:IsPart v o)(h:Q o s):wpAny (model prog w) A (Builtin.Slice.slicePartIndex v) Q E s:=by
 cases p with
 | none=>exact slicePart_none h
 | int i t=>exact slicePart_int h
def z4x {sl:Addr}{vl vu:Value}{lo hi:Option Int}{n:Nat}{Q:Int × Int × Nat->Shared->Prop}(hs:s.heap.IsSliceOf sl vl vu .none)(pl:IsPart vl lo)(pu:IsPart vu hi)
  (h:Q (((sIx n 0 lo:Nat):Int),1,sIx n n hi - sIx n 0 lo) s):wpAny (model prog w) A (Builtin.Slice.sliceApplied (.ref sl) (pure (n:Int))) Q E s:=by
 obtain⟨os,hos,hcs,hds⟩:=id hs;unfold Builtin.Slice.sliceApplied Builtin.Slice.sliceFields;refine wpAny_bind (wpAny_bind (wpAny_field hos hds (x:=vl) rfl (wpAny_bind (wpAny_field hos hds (x:=vu) rfl (wpAny_bind (wpAny_field hos hds (x :=.none) rfl (wpAny_pure ?_)))))));refine wpAny_bind (slicePart_none ?_);show wpAny _ _ (if ((1:Int) == 0)=true then _ else _) _ _ s;rw[if_neg (by decide)];refine wpAny_bind (z8f pl (wpAny_bind (z8f pu (wpAny_bind (wpAny_pure ?_)))));show wpAny _ _ (match Builtin.Slice.sliceAdjust lo hi 1 (n:Int) with | (lo,hi)=>pure (lo,(1:Int),Builtin.Slice.slicePlaces lo hi 1)) _ _ s;rw[zcy lo hi n];show wpAny _ _ (pure (((sIx n 0 lo:Nat):Int),(1:Int),Builtin.Slice.slicePlaces ((sIx n 0 lo:Nat):Int) ((sIx n n hi:Nat):Int) 1)) _ _ s;rw[zci];exact wpAny_pure h
def zeJ (xs:Array Value)(i k:Nat):((List.range k).filterMap λ(m:Nat)=>xs[((i:Int)+(m:Int)*1).toNat]?).toArray=((xs.toList.drop i).take k).toArray:=by
 have e:(λ(m:Nat)=>xs[((i:Int)+(m:Int)*1).toNat]?)=λm=>xs[i+m]? := by
  funext m
  have:((i:Int)+(m:Int)*1).toNat=i+m:=by omega
  rw[this]
 rw[e];have:=pick_run xs i k;rw[List.filterMap_map] at this;have e2:((λx=>xs[x]?) ∘ λx=>i+x)=λm=>xs[i+m]? := rfl;rw[e2] at this;rw[this]
def z6w {t sl:Addr}{z0d:Array Value}{vl vu:Value}{lo hi:Option Int}{Q:Value->Shared->Prop}(ht:IsTup s.heap t z0d)(hs:s.heap.IsSliceOf sl vl vu .none)(pl:IsPart vl lo)(pu:IsPart vu hi)
  (hw:¬ (sIx z0d.size 0 lo=0/\sIx z0d.size z0d.size hi=z0d.size))
  (h:Q (.ref s.heap.objs.size) { s with heap:=s.heap.push { cls :=.type "tuple",data :=.seq ((z0d.toList.drop (sIx z0d.size 0 lo)).take (sIx z0d.size z0d.size hi - sIx z0d.size 0 lo)).toArray } })
  (hsz:z0d.size<=sizeLine):wpAny (model prog w) A (getItem (.ref t) (.ref sl)) Q E s:=by
 have htake:sizeOk (.seq ((z0d.toList.drop (sIx z0d.size 0 lo)).take (sIx z0d.size z0d.size hi - sIx z0d.size 0 lo)).toArray):=by
  show ((z0d.toList.drop (sIx z0d.size 0 lo)).take (sIx z0d.size z0d.size hi - sIx z0d.size 0 lo)).toArray.size<=sizeLine;rw[List.size_toArray,List.length_take,List.length_drop,Array.length_toList];omega
 have hj:sIx z0d.size z0d.size hi<=z0d.size:=zhS _ _ (Nat.le_refl _) hi;obtain⟨os,hos,hcs,hds⟩:=id hs;have hTs:s.TypeIs (.ref sl) "slice":=⟨os,hos,hcs⟩
 unfold getItem
 try with_reducible refine wpAny_holding ?_
 first | refine wpAny_bind (wpAny_pure ?_) | skip
 refine wpAny_bind (wpAny_sequenceKey ht.typeIs (by decide) ?_);refine wpAny_bind (wpAny_callSpecial?_slot (name:=Str.ofString "__getitem__") ht.typeIs PyProof.Rows.slot_tuple_getitem
  (wpAny_call_entry PyProof.Rows.slot_tuple_getitem ht.typeIs entry_tuple_getitem ?_ (args_tuple_getitem _ _)))
 show wpAny _ _ (Builtin.Tuple.tupleItemsOf (.ref t) >>= _) _ _ s;refine wpAny_bind (tupleItemsOf_ ht ?_);refine wpAny_bind (wpAny_typeOf hTs ?_);rw[if_pos (by decide)];refine wpAny_bind (z4x hs pl pu ?_);have hno:¬ ((((sIx z0d.size 0 lo:Nat):Int) == 0 && (1:Int) == 1 && (sIx z0d.size z0d.size hi - sIx z0d.size 0 lo) == z0d.size)=true):=by
  intro q;rw[Bool.and_eq_true,Bool.and_eq_true] at q;have q1:((sIx z0d.size 0 lo:Nat):Int)=0:=eq_of_beq q.1.1;have q2:sIx z0d.size z0d.size hi - sIx z0d.size 0 lo=z0d.size:=eq_of_beq q.2;exact hw ⟨by omega,by omega⟩
 show wpAny _ _ (if (((sIx z0d.size 0 lo:Nat):Int) == 0 && (1:Int) == 1 && (sIx z0d.size z0d.size hi - sIx z0d.size 0 lo) == z0d.size)=true then _ else _) _ _ s;rw[if_neg hno,zeJ]
 first
  | exact wpAny_bind (m:=Builtin.Tuple.tupleExact _) (wpAny_newObj_type (wpAny_pure ⟨_,rfl,wpAny_pure h⟩) htake)
  | exact wpAny_bind (m:=Builtin.Tuple.tupleExact _) (wpAny_newObj_type (wpAny_bind (wpAny_pure (wpAny_pure ⟨_,rfl,wpAny_pure h⟩))) htake)
  | exact wpAny_bind (wpAny_bind (m:=Builtin.Tuple.tupleExact _) (wpAny_newObj_type (wpAny_pure (wpAny_pure ⟨_,rfl,wpAny_pure h⟩)) htake))
  | exact wpAny_bind (wpAny_bind (m:=Builtin.Tuple.tupleExact _) (wpAny_newObj_type (wpAny_pure ⟨_,rfl,wpAny_pure h⟩) htake))
end
end HT
namespace L2
open PySem PySem.Spec PyProof.Rows
abbrev TO:=St->Hp->(Option Int->Hp->Prop)->Prop
def PO (X:Cx)(e:Option Expr)(t:TO):Prop:=
 ∀(pins:List (Addr × Obj)) (s:Shared) (σ:St) (H:Hp) (Q:Option Int->Hp->Prop),Inv X pins σ H s->t σ H Q->
  wpAny (model X.prog X.w) X.A (evalPart e X.env) (λu s'=>∃o H',Inv X pins σ H' s'/\IsPart u o/\Q o H') X.xe s
def zcM:TO:=λ_ H Q=>Q none H
def zhw (t:TE):TO:=λσ H Q=>t σ H λx H1=>∃i,x = .int i/\Q (some i) H1
section
variable {X:Cx}{e:Expr}{te:TE}{lo hi:Option Expr}{tl th:TO}{pos p2:Pos}
def zgE:PO X none zcM:=by
 intro pins s σ H Q I h;rw[evalPart_none];exact wpAny_pure ⟨none,H,I,.none,h⟩
def zgD (h:PE X e te):PO X (some e) (zhw te):=by
 intro pins s σ H Q I hw;rw[evalPart_some];refine thn (h pins s σ H _ I hw) λu s1 ⟨x,H1,I1,r1,q1⟩ =>?_;obtain⟨i,rfl,q⟩:=q1;obtain⟨t,rfl⟩:=r1;exact⟨some i,H1,I1,.int i t,q⟩
def SlR (X:Cx)(r:V->Option Int->Option Int->Hp->VK->Prop):Prop:=
 ∀(pins:List (Addr × Obj)) (s:Shared) (σ:St) (H:Hp) (x:V) (v vl vu:Value) (lo hi:Option Int) (sl:Addr) (Q:VK),Inv X pins σ H s->RelV x v->s.heap.IsSliceOf sl vl vu .none->IsPart vl lo->IsPart vu hi->r x lo hi H Q->
  ∃T id,typeLookup (.type T) "__getitem__"=pure (some (.builtin id))/\s.TypeIs v T/\wpAny (model X.prog X.w) X.A (getItem v (.ref sl)) (EP X pins σ Q) X.xe s
def SlR.or {r r':V->Option Int->Option Int->Hp->VK->Prop}(h:SlR X r)(h':SlR X r'):SlR X (λx lo hi H Q=>r x lo hi H Q\/r' x lo hi H Q):=by
 intro pins s σ H x v vl vu lo hi sl Q I rx hs pl pu q
 rcases q with q | q
 ·exact h pins s σ H x v vl vu lo hi sl Q I rx hs pl pu q
 ·exact h' pins s σ H x v vl vu lo hi sl Q I rx hs pl pu q
def tSl (r:V->Option Int->Option Int->Hp->VK->Prop)(te:TE)(tl th:TO):TE:=λσ H Q=>te σ H λx H1=>tl σ H1 λl H2=>th σ H2 λu H3=>r x l u H3 Q
def zeM {r:V->Option Int->Option Int->Hp->VK->Prop}(hr:SlR X r)(he:PE X e te)(hl:PO X lo tl)(hu:PO X hi th):PE X (.Subscript e (.Slice lo hi none p2) pos) (tSl r te tl th):=by
 intro pins s σ H Q I h;refine Subscript_ (thn (he pins s σ H _ I h) λv s1 ⟨x,H1,I1,r1,q1⟩ =>?_);refine wpAny_Slice (thn (hl pins s1 σ H1 _ I1 q1) λvl s2 ⟨l,H2,I2,pl,q2⟩=>thn (hu pins s2 σ H2 _ I2 q2) λvu s3 ⟨u,H3,I3,pu,q3⟩ =>?_);rw[evalPart_none];refine wpAny_pure ?_;have I4:Inv X pins σ H3 { s3 with heap:=s3.heap.push { cls :=.type "slice",data :=.fields #[vl,vu,.none] } }:=I3.kept (t':=s3.toks) λb ob q=>Heap.get?_push_of_some _ q;obtain⟨T,id,hT,ht,hg⟩:=hr pins { s3 with heap:=s3.heap.push { cls :=.type "slice",data :=.fields #[vl,vu,.none] } } σ H3 x v vl vu l u s3.heap.objs.size Q I4 r1 (Heap.IsSliceOf.new ..) pl pu q3;show wpAny (model X.prog X.w) X.A (subscriptTail e (.Slice lo hi none p2) v (.ref s3.heap.objs.size)) (EP X pins σ Q) X.xe { s3 with heap:=s3.heap.push { cls :=.type "slice",data :=.fields #[vl,vu,.none] } };exact tail_any (ops:=[.ref s3.heap.objs.size,v]) ht hT hg (by with_unfolding_all rfl)
def cutV (xs:List V)(lo hi:Option Int):List V:=(xs.drop (HT.sIx xs.length 0 lo)).take (HT.sIx xs.length xs.length hi - HT.sIx xs.length 0 lo)
def z7H (xs:List V)(lo hi:Option Int):(cutV xs lo hi).length<=xs.length:=by
 unfold cutV;rw[List.length_take,List.length_drop];omega
def rSlT (K:W.Frag):V->Option Int->Option Int->Hp->VK->Prop:=λx lo hi H Q=>∃a xs,x = .ref a/\SqT K H a xs/\
 ¬ (HT.sIx xs.length 0 lo=0/\HT.sIx xs.length xs.length hi=xs.length)/\∀p,H p=none->Q (.ref p) (upd H p (.tup (cutV xs lo hi)))
def zhD:SlR X (rSlT X.K):=by
 intro pins s σ H x v vl vu lo hi sl Q I rx hs pl pu h;obtain⟨a,xs,rfl,hx,hw,q⟩:=h
 cases rx
 obtain⟨its,r,ht,hz⟩:=I.tuple hx;have hlen:its.toArray.size=xs.length:=by rw[List.size_toArray]; exact r.length.symm
 refine⟨"tuple",_,PyProof.Rows.slot_tuple_getitem.lookup,ht.typeIs,?_⟩;refine HT.z6w ht hs pl pu (by rw[hlen]; exact hw) ?_ (by rw[hlen]; exact hz);rw[hlen];refine⟨.ref s.heap.objs.size,_,I.laid (t':=s.toks) (o :=.tup (cutV xs lo hi)) (λb ob q=>Heap.get?_push_of_some _ q) (Nat.le_refl _) ?_,rfl,q _ (I.hok.fresh (Nat.le_refl _))⟩;exact⟨Nat.le_trans (z7H xs lo hi) hz,_,(r.drop (HT.sIx xs.length 0 lo)).take (HT.sIx xs.length xs.length hi - HT.sIx xs.length 0 lo),IsTup.new _ _,_,Heap.get?_push_size _ rfl,rfl⟩
def zjV (K:W.Frag):R2:=λx y H Q=>∃a b xs ys,x = .ref a/\y = .ref b/\SqT K H a xs/\SqT K H b ys/\xs≠[]/\xs.length+ys.length<=sizeLine/\
 (ys=[]->Q (.ref a) H)/\(ys≠[]->∀p,H p=none->Q (.ref p) (upd H p (.tup (xs++ys))))
def Vals.nil_iff {xs:List V}{us:List Value}(r:Vals xs us):us=[]↔xs=[]:=by
 cases r with
 | nil=>simp
 | cons _ _=>simp
def zgP:OpR X (binaryOp .Add) (zjV X.K):=by
 intro pins s σ H x y v u Q I rx ry h;obtain⟨a,b,xs,ys,rfl,rfl,ha,hb,hx,hz,q1,q2⟩:=h
 cases rx
 cases ry
 obtain⟨its,r1,p1,_⟩:=I.tuple ha;obtain⟨its2,r2,p2,_⟩:=I.tuple hb;refine HT.zhi p1 p2 (λz=>hx (r1.nil_iff.mp z)) (λz=>⟨.ref a,H,I,rfl,q1 (r2.nil_iff.mp z)⟩) (λz =>?_) (by rw[<- r1.length, <- r2.length]; exact hz);refine⟨.ref s.heap.objs.size,_,I.laid (t':=s.toks) (o :=.tup (xs++ys)) (λb ob q=>Heap.get?_push_of_some _ q) (Nat.le_refl _) ?_,rfl,q2 (λw=>z (r2.nil_iff.mpr w)) _ (I.hok.fresh (Nat.le_refl _))⟩;exact⟨by rw[List.length_append]; exact hz,_,r1.append r2,IsTup.new _ _,_,Heap.get?_push_size _ rfl,rfl⟩
end
def ixN (n:Nat)(i:Int):Option Nat:=if 0<=i then (if i<n then some i.toNat else none) else if -(n:Int)<=i then some (i+n).toNat else none
def atI {α:Type}(xs:List α)(i:Int):Option α:=(ixN xs.length i).bind λj=>xs[j]?
def zh6 {n:Nat}{i:Int}{j:Nat}(h:ixN n i=some j):seqIndex? i n=some j/\j<n /\ -(n:Int)<=i/\i<n:=by
 unfold ixN at h
 by_cases h0:0<=i
 ·rw[if_pos h0] at h
  by_cases h1:i<n
  ·rw[if_pos h1] at h;have e:i.toNat=j:=Option.some.inj h;exact⟨by rw[seqIndex_of h0 h1,e],by omega,by omega,h1⟩
  ·rw[if_neg h1] at h; cases h
 ·rw[if_neg h0] at h
  by_cases h1 : -(n:Int)<=i
  ·rw[if_pos h1] at h;have e:(i+n).toNat=j:=Option.some.inj h;exact⟨by rw[seqIndex_neg (by omega) h1,e],by omega,h1,by omega⟩
  ·rw[if_neg h1] at h; cases h
def zbg {α:Type}{xs:List α}{i:Int}{v:α}(h:atI xs i=some v):∃j,seqIndex? i xs.length=some j/\xs[j]? = some v/\j<xs.length /\ -(xs.length:Int)<=i/\i<xs.length:=by
 unfold atI at h
 cases e:ixN xs.length i with
 | none=>rw[e] at h; cases h
 | some j=>
  rw[e] at h;obtain⟨h1,h2,h3,h4⟩:=zh6 e;exact⟨j,h1,h,h2,h3,h4⟩
def zbi (b:Expr):Prop:=∀o i,subscripted b false o i=operate [o,i] (getItem o i)
def IxR (X:Cx)(r:R2):Prop:=
 ∀(value slice:Expr) (pins:List (Addr × Obj)) (s:Shared) (σ:St) (H:Hp) (x y:V) (v u:Value) (Q:VK),Inv X pins σ H s->RelV x v->RelV y u->r x y H Q->
  subscripted slice false v u=operate [v,u] (getItem v u)->wpAny (model X.prog X.w) X.A (subscriptTail value slice v u) (EP X pins σ Q) X.xe s
def MtR (X:Cx)(id:String)(r:V->List V->Hp->VK->Prop):Prop:=
 ∀(pins:List (Addr × Obj)) (s:Shared) (σ:St) (H:Hp) (x:V) (xs:List V) (v:Value) (us:List Value) (Q:VK),Inv X pins σ H s->RelV x v->Vals xs us->r x xs H Q->
  wpAny (model X.prog X.w) X.A (call (.builtin id) (v::us)) (EP X pins σ Q) X.xe s
section
variable {X:Cx}{a b:Expr}{ta tb:TE}{pos:Pos}
def IxR.or {r r':R2}(h:IxR X r)(h':IxR X r'):IxR X (λx y H Q=>r x y H Q\/r' x y H Q):=by
 intro value slice pins s σ H x y v u Q I rx ry q hs
 rcases q with q | q
 ·exact h value slice pins s σ H x y v u Q I rx ry q hs
 ·exact h' value slice pins s σ H x y v u Q I rx ry q hs
def zke {r:R2}(hr:IxR X r)(ha:PE X a ta)(hb:PE X b tb)(hs:zbi b):PE X (.Subscript a b pos) (tOp r ta tb):=by
 intro pins s σ H Q I h;exact Subscript_ (binT ha hb I h λv u s2 x y H2 I2 rx ry q=>hr a b pins s2 σ H2 x y v u Q I2 rx ry q (hs _ _))
def rIxL (K:W.Frag):R2:=λx y H Q=>∃p xs i v,x = .ref p/\y = .int i/\SqL K H p xs/\atI xs i=some v/\Q v H
def rIxT (K:W.Frag):R2:=λx y H Q=>∃p xs i v,x = .ref p/\y = .int i/\SqT K H p xs/\atI xs i=some v/\Q v H
def rIxS:R2:=λx y H Q=>∃z i c,x = .str z/\y = .int i/\z.length<=sizeLine/\atI z.cps.toList i=some c/\Q (.str ⟨#[c]⟩) H
def zh5:IxR X (rIxL X.K):=by
 intro value slice pins s σ H x y v u Q I rx ry h hs;obtain⟨p,xs,i,z,rfl,rfl,hq,he,q⟩:=h
 cases rx
 obtain⟨t,rfl⟩:=ry;obtain⟨its,r,pl,hz⟩:=I.list hq;obtain⟨j,h1,h2,h3,h4,h5⟩:=zbg he;obtain⟨w,ew,rw'⟩:=r.get h2;have hl:=r.length;have hn:=z8r;have fin:EP X pins σ Q w s:=⟨z,H,I,rw',q⟩
 by_cases h0:0<=i
 ·have hj:i.toNat=j:=by
   rw[seqIndex_of h0 h5] at h1;exact Option.some.inj h1
  exact item_listR pl.isList h0 (by omega) (by rw[hj]; simpa using ew) fin hs
 ·have hj:(i+(its.toArray.size:Int)).toNat=j:=by
   rw[seqIndex_neg (by omega) h4] at h1;rw[List.size_toArray, <- hl];exact Option.some.inj h1
  exact subscriptTail_builtinR (x:=w) pl.isList.typeIs slot_list_getitem.lookup
   (wpAny_getItem_list_neg (Q:=λr s'=>r=w/\EP X pins σ Q r s') pl.isList (by omega) (by rw[List.size_toArray] <;> omega) (by omega) (by rw[hj]; simpa using ew) ⟨rfl,fin⟩) hs
def zjk:IxR X (rIxT X.K):=by
 intro value slice pins s σ H x y v u Q I rx ry h hs;obtain⟨p,xs,i,z,rfl,rfl,hq,he,q⟩:=h
 cases rx
 obtain⟨t,rfl⟩:=ry;obtain⟨its,r,pl,hz⟩:=I.tuple hq;obtain⟨j,h1,h2,h3,h4,h5⟩:=zbg he;obtain⟨w,ew,rw'⟩:=r.get h2;have hl:=r.length;have hn:=z8r;have fin:EP X pins σ Q w s:=⟨z,H,I,rw',q⟩
 exact subscriptTail_builtinR (x:=w) pl.typeIs slot_tuple_getitem.lookup
  (getItem_tuple (j:=j) (Q:=λr s'=>r=w/\EP X pins σ Q r s') pl (by omega) (by omega) (by rw[List.size_toArray, <- hl]; exact h1) (by simpa using ew) ⟨rfl,fin⟩) hs
def zjl:IxR X rIxS:=by
 intro value slice pins s σ H x y v u Q I rx ry h hs;obtain⟨z,i,c,rfl,rfl,hz,he,q⟩:=h;obtain⟨t,rfl⟩:=rx;obtain⟨t',rfl⟩:=ry;obtain⟨j,h1,h2,h3,h4,h5⟩:=zbg he;have hl:z.cps.toList.length=z.length:=by simp[Str.length]
 rw[hl] at h1 h4 h5;have hn:=z8r;exact tail_any (typeIs_str s z t) slot_str_getitem.lookup (getItem_str (c:=c) (by
  have e1:decide (i < -(2 ^ 63:Int))=false:=decide_eq_false (by omega);have e2:decide (i>=2 ^ 63)=false:=decide_eq_false (by omega);rw[e1,e2,Bool.or_false]) (by rw[h1]; simpa using h2) ⟨.str ⟨#[c]⟩,H,I.tok _,⟨_,rfl⟩,q⟩) hs
def rIx (K:W.Frag):R2:=λx y H Q=>rIxL K x y H Q\/rIxT K x y H Q\/rIxS x y H Q
def zjm:IxR X (rIx X.K):=zh5.or (zjk.or zjl)
def z9M (lo hi:Option Int)(n:Nat):(sliceBounds lo hi none n).1=((HT.sIx n 0 lo:Nat):Int)/\(sliceBounds lo hi none n).2.1=((HT.sIx n n hi:Nat):Int)/\(sliceBounds lo hi none n).2.2=1:=by
 refine⟨?_,?_,rfl⟩
 ·cases lo with
  | none=>simp[sliceBounds,HT.sIx]
  | some i=>
   simp only[sliceBounds,HT.sIx,Option.getD_none,show (1:Int) > 0 by decide,if_true]
   by_cases h:i<0
   ·simp only[h,if_true] <;> omega
   ·simp only[h,if_false] <;> omega
 ·cases hi with
  | none=>simp[sliceBounds,HT.sIx]
  | some i=>
   simp only[sliceBounds,HT.sIx,Option.getD_none,show (1:Int) > 0 by decide,if_true]
   by_cases h:i<0
   ·simp only[h,if_true] <;> omega
   ·simp only[h,if_false] <;> omega
def z8I (its:List Value)(lo hi:Option Int):slicePick its.toArray lo hi none=((its.drop (HT.sIx its.length 0 lo)).take (HT.sIx its.length its.length hi - HT.sIx its.length 0 lo)).toArray:=by
 obtain⟨h1,h2,h3⟩:=z9M lo hi its.toArray.size;unfold slicePick;rw[h1,h2,h3];simp only[sliceRange_one,pick_run,List.size_toArray] <;> rfl
def rSlL (K:W.Frag):V->Option Int->Option Int->Hp->VK->Prop:=λx lo hi H Q=>∃a xs,x = .ref a/\SqL K H a xs/\∀p,H p=none->Q (.ref p) (upd H p (.lst (cutV xs lo hi)))
def zgf:SlR X (rSlL X.K):=by
 intro pins s σ H x v vl vu lo hi sl Q I rx hs pl pu h;obtain⟨a,xs,rfl,hx,q⟩:=h
 cases rx
 obtain⟨its,r,ht,hz⟩:=I.list hx;have hlen:=r.length;refine⟨"list",_,slot_list_getitem.lookup,ht.isList.typeIs,?_⟩;refine wpAny_getItem_list_slice ht.isList hs pl pu .none (by simp) ?_ (by rw[List.size_toArray] <;> omega);rw[z8I, <- hlen];refine⟨.ref s.heap.objs.size,_,I.laid (t':=s.toks) (o :=.lst (cutV xs lo hi)) (λb ob q=>Heap.get?_push_of_some _ q) (Nat.le_refl _) ?_,rfl,q _ (I.hok.fresh (Nat.le_refl _))⟩;exact⟨Nat.le_trans (z7H xs lo hi) hz,_,0,(r.drop (HT.sIx xs.length 0 lo)).take (HT.sIx xs.length xs.length hi - HT.sIx xs.length 0 lo),Heap.get?_push_size _ rfl⟩
def zay:z2p X (.builtin "len") (λxs H Q=>∃p ys,xs=[.ref p]/\(SqL X.K H p ys\/SqT X.K H p ys)/\Q (.int ys.length) H):=by
 intro pins s σ H xs us Q I r h;obtain⟨p,ys,rfl,hq,q⟩:=h;obtain⟨u,rfl,rx⟩:=z6i r
 cases rx
 have hn:=z8r
 rcases hq with hq | hq
 ·obtain⟨its,r',pl,hz⟩:=I.list hq;have hlen:=r'.length;exact Calls.call_len_list pl.isList (by simp only[List.size_toArray] <;> omega) ⟨.int ys.length,H,I.tok _,⟨s.toks+1,by rw[List.size_toArray,hlen]⟩,q⟩
 ·obtain⟨its,r',pl,hz⟩:=I.tuple hq;have hlen:=r'.length;exact len_tuple pl (by simp only[List.size_toArray] <;> omega) ⟨.int ys.length,H,I.tok _,⟨s.toks+1,by rw[List.size_toArray,hlen]⟩,q⟩
def zax:z2p X (.builtin "len") (λxs H Q=>∃z,xs=[.str z]/\z.length<=sizeLine/\Q (.int z.length) H):=by
 intro pins s σ H xs us Q I r h;obtain⟨z,rfl,hz,q⟩:=h;obtain⟨u,rfl,t,rfl⟩:=z6i r;have hn:=z8r;exact len_str (by omega) ⟨.int z.length,H,I.tok _,⟨_,rfl⟩,q⟩
def z2p.or {f:Value}{r r':List V->Hp->VK->Prop}(h:z2p X f r)(h':z2p X f r'):z2p X f (λxs H Q=>r xs H Q\/r' xs H Q):=by
 intro pins s σ H xs us Q I rs q
 rcases q with q | q
 ·exact h pins s σ H xs us Q I rs q
 ·exact h' pins s σ H xs us Q I rs q
def z9w:z2p X (.type "tuple") (λxs H Q=>∃p ys,xs=[.ref p]/\((SqL X.K H p ys/\∀l,H l=none->Q (.ref l) (upd H l (.tup ys)))\/(SqT X.K H p ys/\Q (.ref p) H))):=by
 intro pins s σ H xs us Q I r h;obtain⟨p,ys,rfl,h⟩:=h;obtain⟨u,rfl,rx⟩:=z6i r
 cases rx
 rcases h with ⟨hq,q⟩ | ⟨hq,q⟩
 ·obtain⟨its,r',pl,hz⟩:=I.list hq;have hlen:=r'.length;refine call_tuple_list pl.isList (λh' kp =>?_) (by simp only[List.size_toArray] <;> omega);have I1:Inv X pins σ H { s with heap:=h' }:=I.kept (t':=s.toks) kp;have I2:Inv X pins σ (upd H h'.objs.size (.tup ys)) { s with heap:=h'.push { cls :=.type "tuple",data :=.seq its.toArray } }:=
   I1.laid (t':=s.toks) (λb o e=>Heap.get?_push_of_some _ e) (Nat.le_refl _) (show z2o X.prog X.w _ _ _ (.tup ys) from ⟨hz,its,r',IsTup.new _ _,_,Heap.get?_push_size _ rfl,rfl⟩)
  exact⟨.ref h'.objs.size,_,I2,rfl,q _ (I1.hok.fresh (Nat.le_refl _))⟩
 ·obtain⟨its,r',pl,hz⟩:=I.tuple hq;exact call_tuple_same pl ⟨.ref p,H,I,rfl,q⟩
def tyV (K:W.Frag)(T:String)(x:V)(H:Hp):Prop:=match x with
 | .str _=>T="str"
 | .int _=>T="int"
 | .ref p=>(T="list"/\∃xs,SqL K H p xs)\/(T="tuple"/\∃o,K.lookup p=some o/\o.cls = .type "tuple"/\o.dict=none)\/
   (T="dict"/\((∃kvs,H p=some (.dK kvs))\/∃kvs,H p=some (.dT kvs)))\/(T="set"/\∃S n,H p=some (.set S n))
 | _=>False
def zfF {pins:List (Addr × Obj)}{σ:St}{H:Hp}{s:Shared}{T:String}{x:V}{v:Value}(I:Inv X pins σ H s)(r:RelV x v)(ty:tyV X.K T x H):
  s.TypeIs v T/\∀a,v = .ref a->∃ob,s.heap.get? a=some ob/\ob.dict=none:=by
 cases x with
 | str z=>
  obtain⟨t,rfl⟩:=r
  cases (show T="str" from ty)
  exact⟨typeIs_str s z t,λ_ e=>nomatch e⟩
 | int i=>
  obtain⟨t,rfl⟩:=r
  cases (show T="int" from ty)
  exact⟨typeIs_int s i t,λ_ e=>nomatch e⟩
 | ref p=>
  cases r
  rcases ty with ⟨rfl,xs,hq⟩ | ⟨rfl,o,hk,hc,hd⟩ | ⟨rfl,hk⟩ | ⟨rfl,S,n,hk⟩
  ·obtain⟨its,_,pl,_⟩:=I.list hq;refine⟨pl.isList.typeIs,λa e =>?_⟩
   cases e
   obtain⟨o,n,e,c,hd,_⟩:=pl;exact⟨o,e,hd⟩
  ·refine⟨⟨o,I.kIn p o hk,hc⟩,λa e =>?_⟩
   cases e
   exact⟨o,I.kIn _ o hk,hd⟩
  ·have z:∃o,s.heap.get? p=some o/\o.ExactDict:=by
    rcases hk with ⟨kvs,hk⟩ | ⟨kvs,hk⟩
    ·obtain⟨_,_,_,_,o,_,_,e,ex,_⟩:=I.hok p _ hk;exact⟨o,e,ex⟩
    ·obtain⟨_,_,_,_,o,_,_,e,ex,_⟩:=I.hok p _ hk;exact⟨o,e,ex⟩
   obtain⟨o,e,ex⟩:=z;refine⟨⟨o,e,ex.1⟩,λa e2 =>?_⟩
   cases e2
   exact⟨o,e,ex.2.1⟩
  ·obtain⟨o,_,_,_,e,ex,_⟩:=I.hok p _ hk;refine⟨⟨o,e,ex.1⟩,λa e2 =>?_⟩
   cases e2
   exact⟨o,e,ex.2.1⟩
 | _=>exact False.elim ty
def tBM0 (K:W.Frag)(T:String)(r:V->List V->Hp->VK->Prop)(to:TE):TE:=λσ H Q=>to σ H λx H1=>tyV K T x H1/\r x [] H1 Q
def tBM (K:W.Frag)(T:String)(r:V->List V->Hp->VK->Prop)(to:TE)(t:TA):TE:=λσ H Q=>to σ H λx H1=>tyV K T x H1/\t σ H1 λxs H2=>r x xs H2 Q
variable {o e:Expr}{es:List Expr}{to:TE}{t:TA}{name:Str}{apos cpos:Pos}{T id:String}{r:V->List V->Hp->VK->Prop}
def zit (pa:PlainAttrs T)(slot:Slot T name id)(hty:typeOf (.builtin id)=pure (.type "method_descriptor"))(hm:MtR X id r)(ho:PE X o to)
  (hbase:attributeBase o name X.env (eval o X.env)=eval o X.env:=by rfl) (hline:(apos.endLine == cpos.line)=true:=by rfl):PE X (.Call (.Attribute o name apos) [] [] cpos) (tBM0 X.K T r to):=by
 intro pins s σ H Q I h;refine wpAny_Call_method0_late hbase hline (thn (ho pins s σ H _ I h) λv s1 ⟨x,H1,I1,r1,ty,q1⟩ =>?_);obtain⟨h1,h2⟩:=zfF I1 r1 ty;exact⟨T,id,pa,slot,hty,h1,h2,Calls.callWith_builtin rfl (PySem.evalArgs_none (hm pins s1 σ H1 x [] v [] Q I1 r1 .nil q1))⟩
def zkg (pa:PlainAttrs T)(slot:Slot T name id)(hty:typeOf (.builtin id)=pure (.type "method_descriptor"))(hm:MtR X id r)(ho:PE X o to)(ha:PA X (e::es) t)
  (hbase:attributeBase o name X.env (eval o X.env)=eval o X.env:=by rfl)
  (hfew:((backTo cpos (starEach (e::es) X.env)).all (λx => !x.1) && (backToKw cpos (keywordEach [] X.env)).all (λx=>x.1.isSome)
   && decide ((e::es).length+([]:List Keyword).length+(if ([]:List Keyword).isEmpty then 0 else 1)<30))=true:=by rfl)
  (hline:(apos.endLine == cpos.line)=true:=by rfl) (hs:starEach (e::es) X.env=(false,eval e X.env)::starEach es X.env:=by rfl) (hplain:(backTo cpos (starEach es X.env)).any (·.1)=false:=by rfl):
  PE X (.Call (.Attribute o name apos) (e::es) [] cpos) (tBM X.K T r to t):=by
 intro pins s σ H Q I h;refine wpAny_Call_method_late hbase hfew hline rfl (thn (ho pins s σ H _ I h) λv s1 ⟨x,H1,I1,r1,ty,q1⟩ =>?_);obtain⟨h1,h2⟩:=zfF I1 r1 ty;refine⟨T,id,pa,slot,hty,h1,h2,?_⟩;have hA:=ha cpos pins s1 σ H1 _ I1 q1;rw[hs] at hA ⊢;refine Calls.callWith_builtin (by show (false || (backTo cpos (starEach es X.env)).any (·.1))=false; rw[hplain] <;> rfl) (Calls.evalArgs_plain ?_);exact thn hA λus s2 ⟨vs,H2,I2,r2,q2⟩=>hm pins s2 σ H2 x vs v us Q I2 r1 r2 q2
end
def MtM (X:Cx)(id:String)(r:V->List V->Hp->VK->Prop):Prop:=
 ∀(pins:List (Addr × Obj)) (s:Shared) (σ:St) (H:Hp) (x:V) (xs:List V) (v:Value) (us:List Value) (Q:VK),Inv X pins σ H s->RelV x v->Vals xs us->r x xs H Q->
  wpAny (model X.prog X.w) X.A (call (.builtin id) (v::us)) (EP X pins σ Q) X.xe s
def Vals.one:∀{x:V}{us:List Value},Vals [x] us->∃u,us=[u]/\RelV x u
 | _,_,.cons r .nil=>⟨_,rfl,r⟩
def Vals.zero:∀{us:List Value},Vals [] us->us=[]
 | _,.nil=>rfl
def Vals.dropLast {xs:List V}{us:List Value}(h:Vals xs us):Vals xs.dropLast us.dropLast:=by
 induction h with
 | nil=>exact .nil
 | cons r t ih=>
  cases t with
  | nil=>exact .nil
  | cons q t'=>exact .cons r ih
def Vals.reverse {xs:List V}{us:List Value}(h:Vals xs us):Vals xs.reverse us.reverse:=by
 induction h with
 | nil=>exact .nil
 | cons r t ih=>rw[List.reverse_cons,List.reverse_cons]; exact Vals.append ih (.cons r .nil)
def zcu {α:Type}(l:List α):l.eraseIdx (l.length - 1)=l.dropLast:=by
 induction l with
 | nil=>rfl
 | cons a r ih=>
  cases r with
  | nil=>rfl
  | cons b r=>
   have e:(a::b::r).length - 1=((b::r).length - 1)+1:=by
    have h1:(a::b::r).length=r.length+2:=rfl;have h2:(b::r).length=r.length+1:=rfl;omega
   rw[e,List.eraseIdx_cons_succ,ih]
   all_goals rfl
section
variable {X:Cx}{pins:List (Addr × Obj)}{σ:St}{H:Hp}{s:Shared}{l b:Addr}{xs ys zs:List V}
def Inv.lset {its its':List Value}{n:Nat}{f:Array Value->Array Value}{t':Nat}(I:Inv X pins σ H s)(hH:H l=some (.lst xs))
  (e:s.heap.get? l=some { cls :=.type "list",data :=.seq its.toArray n }) (hf:f its.toArray=its'.toArray) (hv:Vals ys its') (hz:ys.length<=sizeLine):
  Inv X pins σ (upd H l (.lst ys)) { s with heap:=s.heap.update l (Obj.mapSeq f),toks:=t' }:=by
 have q:=PySem.IsL.update e f;rw[hf] at q;refine I.write (x:=l) (e:=l) (by rw[hH]; exact trivial) (.inl rfl) (λb' u hb hu=>(Heap.get?_update_other s.heap (Obj.mapSeq f) (Ne.symm hb)).trans hu) ⟨_,q⟩ ?_;exact⟨hz,its',_,hv,q⟩
def Inv.lnew {its:List Value}{t':Nat}(I:Inv X pins σ H s)(hv:Vals ys its)(hz:ys.length<=sizeLine):
  Inv X pins σ (upd H s.heap.objs.size (.lst ys)) { s with heap:=s.heap.push { cls :=.type "list",data :=.seq its.toArray },toks:=t' }:=
 I.laid (λ_ _ q=>Heap.get?_push_of_some _ q) (Nat.le_refl _) ⟨hz,its,0,hv,Heap.get?_push_size _ rfl⟩
def Inv.fresh (I:Inv X pins σ H s):H s.heap.objs.size=none:=I.hok.fresh (Nat.le_refl _)
def Inv.lstM (I:Inv X pins σ H s)(hH:H l=some (.lst xs)):xs.length<=sizeLine/\∃(its:List Value) (n:Nat),Vals xs its/\xs.length=its.length/\s.heap.get? l=some { cls :=.type "list",data :=.seq its.toArray n }:=by
 obtain⟨z,its,n,r,e⟩:=I.hok l _ hH;exact⟨z,its,n,r,r.length,e⟩
end
section
variable {X:Cx}
def zd5:V->List V->Hp->VK->Prop:=λx vs H Q=>∃l xs y,x = .ref l/\vs=[y]/\H l=some (.lst xs)/\xs.length<sizeLine/\Q .non (upd H l (.lst (xs++[y])))
def zdB:MtM X "list.append" zd5:=by
 intro pins s σ H x vs v us Q I rx rv h;obtain⟨l,xs,y,rfl,rfl,hH,hz,q⟩:=h
 cases rx
 obtain⟨u,rfl,ru⟩:=rv.one;obtain⟨z,its,n,r,hl,e⟩:=I.lstM hH;refine call_meets F.slot_list_append ⟨_,e,rfl⟩ F.entry_list_append (F.args_list_append_2 _ _) (PySem.list_append l its.toArray n u (by rw[List.size_toArray]; omega)) ⟨e,?_⟩;refine⟨.non,_,I.lset (its':=its++[u]) hH e (by simp) (r.append (.cons ru .nil)) ?_,rfl,q⟩;rw[List.length_append,List.length_singleton];omega
def rPop:V->List V->Hp->VK->Prop:=λx vs H Q=>∃l xs y,x = .ref l/\vs=[]/\H l=some (.lst xs)/\xs[xs.length - 1]? = some y/\Q y (upd H l (.lst xs.dropLast))
def zj7:MtM X "list.pop" rPop:=by
 intro pins s σ H x vs v us Q I rx rv h;obtain⟨l,xs,y,rfl,rfl,hH,hy,q⟩:=h
 cases rx
 have hus:=rv.zero;subst hus;obtain⟨z,its,n,r,hl,e⟩:=I.lstM hH;obtain⟨u,hu,ru⟩:=r.get hy;have hy':its.toArray[its.toArray.size - 1]? = some u:=by
  show its.toArray[its.length - 1]? = some u;rw[<- Array.getElem?_toList, <- hl];exact hu
 refine call_meets F.slot_list_pop ⟨_,e,rfl⟩ F.entry_list_pop (F.args_list_pop_1 _) (MeetsSeq.list_pop_last l its.toArray n u hy' (by rw[List.size_toArray]; omega)) ⟨e,?_⟩;refine⟨y,_,I.lset (its':=its.dropLast) hH e ?_ r.dropLast ?_,ru,q⟩
 ·show its.toArray.eraseIdxIfInBounds (its.toArray.size - 1)=its.dropLast.toArray;rw[List.size_toArray,List.eraseIdxIfInBounds_toArray,zcu]
 ·rw[List.length_dropLast];omega
end
end L2
namespace Att
open PySem PySem.W PySem.Calls PyProof.Rows
def z7m {P:Params}{h:Heap}:∀(ns:List Int) (vs:List Value),WellAll P h vs (ns.map WData.int)->IntsAre vs ns:=by
 intro ns
 induction ns with
 | nil=>
  intro vs w;rw[List.map_nil] at w
  cases w
  exact .nil
 | cons n ns ih=>
  intro vs w;rw[List.map_cons] at w
  cases w with
  | cons a b=>
   cases a
   exact .cons _ _ (ih _ b)
def zcU {l:OpenLaw}{n:Nat}(hn:l.most=some n){P:Params}{h:Heap}{args:List WData}{vals:List Value}
  (hpre:l.row.toRowW.claim.pre args=true) (hwl:WellAll P h vals args):
  ∃a vs ns,vals=[Value.ref a]/\args=[WData.list (ns.map WData.int)]/\h.get? a=some { cls :=.type "list",data :=.seq vs.toArray }/\IntsAre vs ns/\ns.length<=n:=by
 have hsh:WShape.hasAll [] args [.list .int]=true:=(pre_splitW hpre).1;have hc:l.pre.holds [] { args:=args }=true:=(pre_splitW hpre).2;obtain⟨d,r,rfl,h1,h2⟩:=hasAllW_cons hsh;obtain rfl:=hasAllW_nil h2;obtain⟨xs,rfl,h3⟩:=hasW_list h1;obtain⟨ns,rfl⟩:=items_int h3;have hlen:ns.length<=n:=by
  unfold OpenLaw.pre at hc;have h4:(WTm.not (.lt (.lit (.int (n:Int))) (.len (.arg 0)))).holds [] { args:=[.list (ns.map .int)] }=true:=by
   have h4:=(holds_andW hc).1;rw[hn] at h4;exact h4
  have h5:=condW_of h4 (w_not (w_lt w_lit (w_len_list (w_arg rfl))));rw[List.length_map] at h5;refine Nat.le_of_not_lt λq =>?_;have q':(n:Int)<((ns.length:Nat):Int):=by omega
  first
   | (rw[decide_eq_true q'] at h5; exact absurd h5 (by decide))
   | (simp at h5; omega)
 cases hwl with
 | cons w1 w2=>
  cases w2
  cases w1 with
  | list ho hall=>exact⟨_,_,ns,rfl,rfl,ho,z7m ns _ hall,hlen⟩
def zde (l:OpenLaw)(args:List WData):l.row.toRowW.claim.post args (.bool true) args=true:=
 postW_of (r:=l.row.toRowW) (X:=(true == true))
  (show WShape.has [] (.bool true) .bool=true by first | rfl | decide | simp[WShape.has,WShape.arms,WShape.armsAll])
  (show (WTm.eq .res (.lit (.bool true))).value [] { args:=args,res:=some (.bool true),after:=args }=some (.bool (true == true)) from w_eq_bool (w_res rfl) w_lit) rfl
def zbf {l:OpenLaw}{n:Nat}{q:Program}{loose:List Str}{XP:(Str->Option Value)->Heap->Prop}{YP:World->Heap->Prop}{d:DefRec}
  (hn:l.most=some n) (hdf:d.params.defaults=[])
  (call:∀(w:World) (s₀ s₁:Shared) (mg mb:Str->Option Value) (fa:Addr) (o:Obj) (pm cd doc:Value) (a:Addr) (vs:List Value) (ns:List Int),
   Ground q loose [] XP w s₀ mg mb s₁.heap->YP w s₁.heap->
   s₁.heap.get? fa=some o->o.data = .func (docDef d.name d.params d.body d.scope pm cd doc)->s₁.heap.CodeRec cd d.name->mg d.name=some (.ref fa)->
   s₁.heap.get? a=some { cls :=.type "list",data :=.seq vs.toArray }->IntsAre vs ns->ns.length<=n->s₁.gens = #[]->
   codeAny (model l.prog w) callerA (.call (.ref fa) ⟨[.ref a],[]⟩) (λr s'=>r = .ok (.ret (.bool true))/\OldK s₁.heap s'.heap/\s'.os=s₁.os/\AllBare s'.gens) s₁):
  WalkO q loose XP YP l.row.toRowW d [] (λf vs=>PySem.call f vs):=by
 intro w s₀ s₁ mg mb G Y fa o pm cd doc dV kV ho hd hcd hD hmg hg args vals as hpre hlay hrd hwl hlo;obtain rfl:dV = .none:=Dflts.none hD hdf;obtain rfl:kV = .none:=Dflts.noKw hD;obtain⟨a,vs,ns,rfl,rfl,hobj,hints,hlen⟩:=zcU hn hpre hwl;refine enter_call (codeAny_mono (call w s₀ s₁ mg mb fa o pm cd doc a vs ns G Y ho (fd_plain hd) hcd hmg hobj hints hlen hg) λr s' hq =>?_);obtain⟨rfl,h2,h3,h4⟩:=hq;exact⟨.inl ⟨.bool true,.bool true,[],rfl,λ_=>rfl,.bool true,zde l _,λ_=>⟨List.Pairwise.nil,λ_ hm=>(nomatch hm)⟩⟩,h2,h3,h4⟩
end Att
namespace L2
open PySem PySem.Spec PyProof.Rows
def z9F:∀{vs:List Value}{ns:List Int},IntsAre vs ns->Vals (ns.map V.int) vs
 | _,_,.nil =>.nil
 | _,_,.cons n t h =>.cons ⟨t,rfl⟩ (z9F h)
def zbJ {α β:Type}[BEq α][LawfulBEq α]{a:α}{b:β}:∀{l:List (α × β)},l.lookup a=some b->(a,b)∈l
 | [],h=>by cases h
 | (c,d)::r,h=>by
  rw[List.lookup_cons] at h
  cases e:a == c with
  | true=>rw[e] at h; cases h; rw[eq_of_beq e]; exact .head _
  | false=>rw[e] at h; exact .tail _ (zbJ h)
def z8d {K:W.Frag}{c P:Addr}(h:zaM K c=some P):K.lookup P=none/\∃o vs,K.lookup c=some o/\o.cls = .type "code"/\o.data = .fields vs/\vs[11]? = some (.ref P):=by
 unfold zaM at h
 split at h
 ·rename_i vs _ hk
  split at h
  ·rename_i P' h11
   split at h
   ·rename_i hn
    cases h
    exact⟨by simpa using hn,_,vs,hk,rfl,rfl,h11⟩
   ·cases h
  ·cases h
 ·cases h
def z9G {K:W.Frag}{P:Addr}{t:Nat × Nat × Str}(h:(tsOf K).lookup P=some t):∃c,zaM K c=some P:=by
 obtain⟨p,_,e⟩:=List.mem_filterMap.mp (zbJ h)
 split at e
 ·split at e
  ·rename_i c _ _
   cases q:zaM K c with
   | none=>rw[q] at e; cases e
   | some P'=>rw[q] at e; cases e; exact⟨c,q⟩
  ·cases e
 ·cases e
def zfa {P:Program}{w:World}{K:W.Frag}{mg mb:Str->Option Value}{CX:CXT}{k:Nat}{fa a:Addr}{fd:FuncData}{x:Str}{sp:Sp}{s₁:Shared}{vs:List Value}{ns:List Int}
  (KX:K.In s₁.heap) (hns:s₁.heap.Ns mainGlobals mg) (hb:s₁.heap.Ns builtinsNs mb) (hbb:∀x:Str,x≠"__name__"->mb x=bootBuiltins x) (hlim:s₁.heap.NoLimit) (hbm:BmAt mg s₁.heap) (hg:s₁.gens = #[])
  (ha:s₁.heap.get? a=some { cls :=.type "list",data :=.seq vs.toArray }) (hi:IntsAre vs ns) (hl:ns.length<=sizeLine) (hr:Room k callerA)
  (hT:∀P t,(tsOf K).lookup P=some t->s₁.heap.get? P=some { cls :=.none,data :=.fields #[] })
  (F:∀base:Heap,K.In base->base.Ns mainGlobals mg->FnOk P w K mg base CX k fa fd [x] sp) (hbind:∀(s:Shared) (u:Value),BindsTo s fd ⟨[u],[]⟩ [(x,u)])
  (hsp:∀H:Hp,SqL K H a (ns.map V.int)->sp [.ref a] H (λv _=>v = .bl true) λ_ _ _=>False)
  (hCX:∀H e s',CX [] H s₁ (λ_ _ _=>False) e s'->False):
  codeAny (model P w) callerA (.call (.ref fa) ⟨[.ref a],[]⟩) (λr s'=>r = .ok (.ret (.bool true))/\OldK s₁.heap s'.heap/\s'.os=s₁.os/\AllBare s'.gens) s₁:=by
 have rv:=z9F hi;have lenV:=hi.length;have aT:(tsOf K).lookup a=none:=by
  cases q:(tsOf K).lookup a with
  | none=>rfl
  | some t=>
   have e:=hT a t q;rw[ha] at e; cases e
 have core:∀u:Option HO,SqL K (λb=>if b=a then u else ((tsOf K).lookup b).map λt =>.tbl (encT t)) a (ns.map V.int)->((u=none)\/(K.lookup a=none/\u=some (.frz { cls :=.type "list",data :=.seq vs.toArray } (.lst (ns.map V.int)))))->
   codeAny (model P w) callerA (.call (.ref fa) ⟨[.ref a],[]⟩) (λr s'=>r = .ok (.ret (.bool true))/\OldK s₁.heap s'.heap/\s'.os=s₁.os/\AllBare s'.gens) s₁:=by
  intro u hS hu;generalize hH:(λb=>if b=a then u else ((tsOf K).lookup b).map λt=>HO.tbl (encT t):Hp)=H at hS;have at_:∀{b v},H b=some v->(b=a/\u=some v)\/(b≠a/\∃t,(tsOf K).lookup b=some t/\v = .tbl (encT t)):=λ{b v} e=>by
   rw[<- hH] at e
   by_cases hb:b=a
   ·exact .inl ⟨hb,by rw[<- e]; exact(if_pos hb).symm⟩
   ·have e':=(if_neg hb).symm.trans e
    cases q:(tsOf K).lookup b with
    | none=>rw[q] at e'; cases e'
    | some t=>rw[q] at e'; cases e'; exact .inr ⟨hb,t,rfl,rfl⟩
  have hok:HOk P w H s₁.heap:=λb v e=>by
   rcases at_ e with ⟨rfl,z⟩ | ⟨_,t,q,rfl⟩
   ·rcases hu with hu | ⟨_,hu⟩
    ·rw[hu] at z; cases z
    ·rw[hu] at z
     cases z
     exact⟨ha,by rw[List.length_map]; exact hl,vs,_,rv,ha⟩
   ·exact .inl (hT b t q)
  have noA:∀{b:Addr}{o:Obj}{es:Array DictEntry}{ep:Nat},s₁.heap.get? b=some o->o.data = .dict es ep->H b=none:=λ{b o es ep} e d=>by
   cases q:H b with
   | none=>rfl
   | some v=>
    rcases at_ q with ⟨rfl,_⟩ | ⟨_,t,q,_⟩
    ·rw[ha] at e; cases e;have d':Data.seq vs.toArray _=Data.dict es ep:=d
     cases d'
    ·have:=hT b t q;rw[e] at this; cases this;have d':Data.fields _=Data.dict es ep:=d
     cases d'
  have noP:∀{b:Addr}{o:Obj},s₁.heap.get? b=some o->o.data = .plain->H b=none:=λ{b o} e d=>by
   cases q:H b with
   | none=>rfl
   | some v=>
    rcases at_ q with ⟨rfl,_⟩ | ⟨_,t,q,_⟩
    ·rw[ha] at e; cases e;have d':Data.seq vs.toArray _=Data.plain:=d
     cases d'
    ·have:=hT b t q;rw[e] at this; cases this;have d':Data.fields _=Data.plain:=d
     cases d'
  have nsK:∀{b:Addr}{m:Str->Option Value},s₁.heap.Ns b m->(hidT s₁.heap H).Ns b m:=λ{b m} ⟨o,es,ep,e,d,r⟩=>⟨o,es,ep,z9d e (noA e d),d,r⟩
  have hKb:K.In (hidT s₁.heap H):=λb o e=>z9d (KX b o e) (by
   cases q:H b with
   | none=>rfl
   | some v=>
    rcases at_ q with ⟨rfl,z⟩ | ⟨_,t,q,_⟩
    ·rcases hu with hu | ⟨hu,_⟩
     ·rw[hu] at z; cases z
     ·rw[hu] at e; cases e
    ·obtain⟨c,hc⟩:=z9G q;rw[(z8d hc).1] at e; cases e)
  have hM:Mod K mg (hidT s₁.heap H):=⟨hKb,nsK hns,⟨mb,nsK hb,hbb⟩,let ⟨mc,h1,h2⟩:=hlim; ⟨mc,nsK h1,h2⟩,let ⟨bm,ob,b1,b2,b3,b4,b5,b6⟩:=hbm; ⟨bm,ob,b1,b2,z9d b3 (noP b3 b6),b4,b5,b6⟩⟩
  have e0:Env0 P w K mg (hidT s₁.heap H) callerA [] s₁ H:=⟨rfl,hM,λb o e=>zgS e,Nat.le_of_eq (zdP _ _),trivial,λb hb=>absurd (show b∈([]:List Addr) from hb) (by simp),λPt t e=>⟨#[],by
   rw[<- hH];show (if Pt=a then u else ((tsOf K).lookup Pt).map λt=>HO.tbl (encT t))=_;rw[if_neg (λz=>by rw[z,aT] at e; cases e),e]; simp⟩,hok,.of_eq hg⟩
  refine codeAny_mono ((F _ hKb (nsK hns)).run callerA [] s₁ H ⟨[.ref a],[]⟩ [.ref a] [.ref a] _ _ hr e0 (hbind s₁ (.ref a)) (.cons rfl .nil) (hsp H hS)) λr s' h =>?_
  cases r with
  | error e=>exact(hCX H e s' h).elim
  | ok fl=>
   cases fl with
   | next=>exact False.elim h
   | brk=>exact False.elim h
   | cont=>exact False.elim h
   | ret v0=>
    obtain⟨v,H',os,bare,un,hok',r',q⟩:=h;have q':v = .bl true:=q;subst q';obtain rfl:v0=Value.bool true:=r';refine⟨rfl,⟨λb o e =>?_,λb o e=>un.there b o e (by simp)⟩,os,bare⟩
    cases q:H b with
    | none=>exact .inl (un.keep b o e q (by intro z; exact absurd (show b∈([]:List Addr) from z) (by simp)) (by simp))
    | some v=>
     rcases at_ q with ⟨rfl,z⟩ | ⟨_,t,q2,rfl⟩
     ·rcases hu with hu | ⟨_,hu⟩
      ·rw[hu] at z; cases z
      ·rw[hu] at z
       cases z
       obtain⟨e2,_⟩:=hok' _ _ (un.frzs _ _ _ q);rw[ha] at e
       cases e
       exact .inl e2
     ·have e1:=hT b t q2;rw[e] at e1
      cases e1
      obtain⟨more,q3⟩:=un.tbls b _ q;obtain⟨c,hc⟩:=z9G q2;obtain⟨_,oc,vc,c1,c2,c3,c4⟩:=z8d hc
      rcases hok' b _ q3 with z | ⟨l,c,_,_,c',_,_,_,_,_,_,z,_⟩
      ·exact .inl z
      ·exact .inr (.inl ⟨⟨_,oc,vc,KX _ _ c1,c2,c3,c4⟩,rfl, #[], #[l,c,.ref c'],rfl,by rw[z]; simp⟩)
 cases hk:K.lookup a with
 | some o=>
  have e:=KX a o hk;rw[ha] at e
  cases e
  exact core none (.inr ⟨_,vs.toArray,_,hk,rfl,rfl,rfl,by rw[List.size_toArray,lenV]; exact hl,by simpa using rv⟩) (.inl rfl)
 | none=>exact core _ (.inl (.inr ⟨_,if_pos rfl⟩)) (.inr ⟨hk,rfl⟩)
def zg5 {l:PySem.W.OpenLaw}{n k:Nat}{q:Program}{loose:List Str}{XP:(Str->Option Value)->Heap->Prop}{YP:World->Heap->Prop}{d:DefRec}{K:Params->W.Frag}{CX:World->CXT}{sp:World->Sp}{x:Str}
  (hn:l.most=some n) (hn2:n<=sizeLine) (hdf:d.params.defaults=[]) (hr:Room k callerA)
  (hY:∀(w:World) (h:Heap),YP w h->(K w.params).In h) (hT:∀(w:World) (h:Heap),YP w h->∀P t,(tsOf (K w.params)).lookup P=some t->h.get? P=some { cls :=.none,data :=.fields #[] })
  (F:∀(w:World) (mg:Str->Option Value) (fa:Addr) (h:Heap),(K w.params).In h->h.Ns mainGlobals mg->mg d.name=some (.ref fa)->
   ∃fd:FuncData,(∀(s:Shared) (u:Value),BindsTo s fd ⟨[u],[]⟩ [(x,u)])/\
    ∀base:Heap,(K w.params).In base->base.Ns mainGlobals mg->FnOk l.prog w (K w.params) mg base (CX w) k fa fd [x] (sp w))
  (hsp:∀(w:World) (H:Hp) (a:Addr) (ns:List Int),ns.length<=n->SqL (K w.params) H a (ns.map V.int)->sp w [.ref a] H (λv _=>v = .bl true) λ_ _ _=>False)
  (hCX:∀(w:World) (H:Hp) (s:Shared) (e:Value) (s':Shared),CX w [] H s (λ_ _ _=>False) e s'->False):
  PySem.W.WalkO q loose XP YP l.row.toRowW d [] (λf vs=>PySem.call f vs):=by
 refine Att.zbf hn hdf λw s₀ s₁ mg mb fa o pm cd doc a vs ns G Y ho hd hcd hmg hobj hints hlen hg =>?_;have KX:=hY w _ Y;obtain⟨fd,hb,hF⟩:=F w mg fa _ KX G.T.g hmg;exact zfa KX G.T.g G.T.b G.T.builtins G.T.nolimit G.T.bmain hg hobj hints (Nat.le_trans hlen hn2) hr (hT w _ Y) hF hb (λH hS=>hsp w H a ns hlen hS) λH e s'=>hCX w H s₁ e s'
def z4v (s:Stmt):Arguments:=match s with
 | .FunctionDef _ a _ _ _ _ _ _ _ _=>a
 | _=>{ posonlyargs:=[],args:=[],vararg:=none,kwonlyargs:=[],kw_defaults:=[],kwarg:=none,defaults:=[] }
def z33 (s:Stmt):List Stmt:=match s with
 | .FunctionDef _ _ b _ _ _ _ _ _ _=>b
 | _=>[]
def z01 (s:Stmt):Scope:=match s with
 | .FunctionDef _ _ _ _ _ _ sc _ _ _=>sc
 | _=>{ kind :=.function,names:=[],isGenerator:=false,isCoroutine:=false }
abbrev E0:XK:=λ_ _ _=>False
structure Fun (K:W.Frag)(x qual:Str)(st:Stmt)(f:Addr)(fd:FuncData):Prop where
 ex:∃(oc:Value) (od:Option Addr) (kV doc pm:Value) (an:Option Addr) (cdv ct:Value) (osl:Array (Option Value)),
  fd=PySem.W.fnOf x qual (z4v st) (z33 st) (z01 st) .none kV doc pm an cdv ct/\K.lookup f=some ⟨oc,od,.func fd,osl⟩/\PySem.W.codeIn K cdv qual=true
 kp:PySem.W.keepIn K (.ref f)=true
section
variable {P:Program}{w:World}{K:W.Frag}{mg:Str->Option Value}{base:Heap}
def Fun.binds {x qual:Str}{st:Stmt}{f:Addr}{fd:FuncData}{ps:List Str}(F:Fun K x qual st f fd)
  (h:∀(kV doc pm:Value) (an:Option Addr) (cdv ct:Value) (us:List Value),us.length=ps.length->bindArgs (PySem.W.fnOf x qual (z4v st) (z33 st) (z01 st) .none kV doc pm an cdv ct) ⟨us,[]⟩=pure (ps.zip us)):z8a K fd ps []:=by
 obtain⟨oc,od,kV,doc,pm,an,cdv,ct,osl,rfl,lk,hcd⟩:=F.ex;exact .all (h kV doc pm an cdv ct)
def zg0 {x qual:Str}{st:Stmt}{f:Addr}{oc:Value}{od an:Option Addr}{osl:Array (Option Value)}{kV doc pm cdv ct:Value}(l:K.lookup f=some ⟨oc,od,.func (PySem.W.fnOf x qual (z4v st) (z33 st) (z01 st) .none kV doc pm an cdv ct),osl⟩)
  (c:PySem.W.codeIn K cdv qual=true) (k:PySem.W.keepIn K (.ref f)=true):Fun K x qual st f (PySem.W.fnOf x qual (z4v st) (z33 st) (z01 st) .none kV doc pm an cdv ct):=⟨⟨oc,od,kV,doc,pm,an,cdv,ct,osl,rfl,l,c⟩,k⟩
end
def iteF {A B:Prop}(h:B):if false=true then A else B:=by
 rw[if_neg Bool.false_ne_true];exact h
def iteT {A B:Prop}(h:A):if true=true then A else B:=by
 rw[if_pos rfl];exact h
def Same (H H':Hp):Prop:=∀b o,H b=some o->H' b=some o
def Same.seq {K:W.Frag}{H H':Hp}{a:Addr}{xs:List V}(e:Same H H')(h:SqL K H a xs):SqL K H' a xs:=by
 rcases h with (h | ⟨o,h⟩) | h
 ·exact .inl (.inl (e _ _ h))
 ·exact .inl (.inr ⟨o,e _ _ h⟩)
 ·exact .inr h
end L2
set_option maxHeartbeats 4000000
namespace L2
open PySem PySem.Spec PyProof.Rows
open Builtin.Int (intBits)
abbrev Bt (n:Nat)(i:Int):Prop:=intBits i<=n
def Bt.le {m n:Nat}{i:Int}(h:Bt m i)(q:m<=n:=by decide):Bt n i:=Nat.le_trans h q
def z0s {n:Nat}{i:Int}(h:i.natAbs<2 ^ n):Bt n i:=PySem.intBits_le_iff.mpr h
def Bt.of_abs {n:Nat}{i j:Int}(h:Bt n j)(q:i.natAbs<=j.natAbs):Bt n i:=PySem.intBits_le_of_natAbs q h
def Bt.add {m n:Nat}{i j:Int}(h:Bt m i)(q:Bt n j):Bt (max m n+1) (i+j):=PySem.intBits_add_le h q
def Bt.sub {m n:Nat}{i j:Int}(h:Bt m i)(q:Bt n j):Bt (max m n+1) (i - j):=PySem.intBits_sub_le h q
def Bt.mul {m n:Nat}{i j:Int}(h:Bt m i)(q:Bt n j):Bt (m+n) (i*j):=PySem.intBits_mul_le h q
def Bt.neg {m:Nat}{i:Int}(h:Bt m i):Bt m (-i):=PySem.intBits_neg_le h
def zhl (i j:Int):Prop:=Bt 60000000 i/\Bt 60000000 j
def zjL (_ j:Int):Prop:=j≠0/\Bt 9000 j
def zdG {j:Int}(h0:j≠0)(h:Bt 9000 j):j.natAbs.log2<9000:=by
 have e:intBits j=j.natAbs.log2+1:=by
  unfold Builtin.Int.intBits;rw[if_neg (by simpa using h0)]
 have h':intBits j<=9000:=h;omega
section
variable {X:Cx}{a b c:Expr}{ta tb tc:TE}{pos:Pos}
def zgN:OpR X (binaryOp .Mult) (rI zhl λi j =>.int (i*j)):=opI λ_ _ _ _ _ _ _ hc q=>mul_int q (IntMulOk.of_le hc.1 hc.2 (by decide))
def zeR:OpR X (binaryOp .FloorDiv) (rI zjL λi j =>.int (i.fdiv j)):=opI λ_ _ _ _ _ _ _ hc q=>floordiv_int hc.1 q (.inl (PyProof.noPylong_of_log2 (zdG hc.1 hc.2)))
end
mutual
def Rp (K:W.Frag)(H:Hp):PyData->V->Prop
 | .none,v=>v = .non
 | .bool b,v=>v = .bl b
 | .int i,v=>v = .int i
 | .str x,v=>v = .str x
 | .list ds,v=>∃a xs,v = .ref a/\SqL K H a xs/\RpL K H ds xs
 | .tuple ds,v=>∃a xs,v = .ref a/\SqT K H a xs/\RpL K H ds xs
 | .dict _,_=>False
def RpL (K:W.Frag)(H:Hp):List PyData->List V->Prop
 | [],xs=>xs=[]
 | d::ds,xs=>∃x r,xs=x::r/\Rp K H d x/\RpL K H ds r
end
def Same.seqT {K:W.Frag}{H H':Hp}{a:Addr}{xs:List V}(e:Same H H')(h:SqT K H a xs):SqT K H' a xs:=by
 rcases h with (h | ⟨o,h⟩) | h
 ·exact .inl (.inl (e _ _ h))
 ·exact .inl (.inr ⟨o,e _ _ h⟩)
 ·exact .inr h
mutual
def Rp.same {K:W.Frag}{H H':Hp}(e:Same H H'):∀(d:PyData) {v:V},Rp K H d v->Rp K H' d v
 | .none,_,h=>by simpa[Rp] using h
 | .bool _,_,h=>by simpa[Rp] using h
 | .int _,_,h=>by simpa[Rp] using h
 | .str _,_,h=>by simpa[Rp] using h
 | .list ds,_,h=>by
  rw[Rp] at h ⊢;obtain⟨a,xs,h1,h2,h3⟩:=h;exact⟨a,xs,h1,e.seq h2,RpL.same e ds h3⟩
 | .tuple ds,_,h=>by
  rw[Rp] at h ⊢;obtain⟨a,xs,h1,h2,h3⟩:=h;exact⟨a,xs,h1,e.seqT h2,RpL.same e ds h3⟩
 | .dict _,_,h=>by simp[Rp] at h
def RpL.same {K:W.Frag}{H H':Hp}(e:Same H H'):∀(ds:List PyData) {xs:List V},RpL K H ds xs->RpL K H' ds xs
 | [],_,h=>by simpa[RpL] using h
 | d::ds,_,h=>by
  rw[RpL] at h ⊢;obtain⟨x,r,h1,h2,h3⟩:=h;exact⟨x,r,h1,Rp.same e d h2,RpL.same e ds h3⟩
end
section
variable {X:Cx}{pins:List (Addr × Obj)}{σ:St}{H:Hp}{s:Shared}
mutual
def Rp.reads (I:Inv X pins σ H s):∀(d:PyData) {v:V}{u:Value},Rp X.K H d v->RelV v u->∃as,Reads s.heap u d as
 | .none,v,u,h,r=>by
  rw[Rp] at h; subst h
  cases (show u=Value.none from r); exact⟨_,.none⟩
 | .bool b,v,u,h,r=>by
  rw[Rp] at h; subst h
  cases (show u=Value.bool b from r); exact⟨_,.bool b⟩
 | .int i,v,u,h,r=>by
  rw[Rp] at h; subst h;obtain⟨t,rfl⟩:=(show ∃t,u=Value.int i t from r); exact⟨_,.int i t⟩
 | .str x,v,u,h,r=>by
  rw[Rp] at h; subst h;obtain⟨t,rfl⟩:=(show ∃t,u=Value.str x t from r); exact⟨_,.str x t⟩
 | .list ds,v,u,h,r=>by
  rw[Rp] at h;obtain⟨a,xs,rfl,h2,h3⟩:=h
  cases (show u=Value.ref a from r)
  obtain⟨its,hv,⟨o,n,e,hc,_,hd⟩,_⟩:=I.list h2;obtain⟨as,q⟩:=RpL.reads I ds h3 hv;exact⟨_,.list e hc hd (by simpa using q)⟩
 | .tuple ds,v,u,h,r=>by
  rw[Rp] at h;obtain⟨a,xs,rfl,h2,h3⟩:=h
  cases (show u=Value.ref a from r)
  obtain⟨its,hv,⟨o,e,hc,n,hd⟩,_⟩:=I.tuple h2;obtain⟨as,q⟩:=RpL.reads I ds h3 hv;exact⟨_,.tuple e hc hd (by simpa using q)⟩
 | .dict _,v,u,h,r=>by simp[Rp] at h
def RpL.reads (I:Inv X pins σ H s):∀(ds:List PyData) {xs:List V}{us:List Value},RpL X.K H ds xs->Vals xs us->∃as,ReadsAll s.heap us ds as
 | [],xs,us,h,r=>by
  rw[RpL] at h; subst h
  cases r; exact⟨_,.nil⟩
 | d::ds,xs,us,h,r=>by
  rw[RpL] at h;obtain⟨x,t,rfl,h2,h3⟩:=h
  cases r with
  | cons r1 r2=>
   obtain⟨as,q⟩:=Rp.reads I d h2 r1;obtain⟨bs,q'⟩:=RpL.reads I ds h3 r2;exact⟨_,.cons q q'⟩
end
end
section
variable {X:Cx}
def rEqD (K:W.Frag)(neg:Bool):R2:=λx y H Q=>∃d e,Rp K H d x/\Rp K H e y/\PySem.SeqAt.shaped d=true/\PySem.SeqAt.shaped e=true/\Q (.bl (if neg then !PyData.eqv d e else PyData.eqv d e)) H
def ziE (hu:X.A.units+64<cLine):OpR X (compareOp .Eq) (rEqD X.K false):=by
 intro pins s σ H x y v u Q I rx ry h;obtain⟨d,e,h1,h2,h3,h4,q⟩:=h;obtain⟨as,r1⟩:=Rp.reads I d h1 rx;obtain⟨bs,r2⟩:=Rp.reads I e h2 ry;exact eq_dataH r1 r2 h3 h4 hu ⟨.bl (PyData.eqv d e),H,I,rfl,q⟩
def ziD (hu:X.A.units+64<cLine):OpR X (compareOp .NotEq) (rEqD X.K true):=by
 intro pins s σ H x y v u Q I rx ry h;obtain⟨d,e,h1,h2,h3,h4,q⟩:=h;obtain⟨as,r1⟩:=Rp.reads I d h1 rx;obtain⟨bs,r2⟩:=Rp.reads I e h2 ry;exact ne_dataH r1 r2 h3 h4 hu ⟨.bl (!PyData.eqv d e),H,I,rfl,q⟩
end
structure Cal (P:Program)(w:World)(K:W.Frag)(mg:Str->Option Value)(base:Heap)(CX:CXT)(k:Nat)(x:Str)(ps:List Str)(sp:Sp):Prop where
 ex:∃f fd,FnOk P w K mg base CX k f fd ps sp/\mg x=some (.ref f)/\PySem.W.keepIn K (.ref f)=true/\z8a K fd ps []
section
variable {X:Cx}{CX:CXT}{k:Nat}{ps:List Str}{sp:Sp}{E:XK}{x:Str}{p pos:Pos}{e:Expr}{es:List Expr}{t:TA}
def zkf (C:Cal X.prog X.w X.K X.mg X.base CX k x ps sp)(hr:Room k X.A)(hx:z6S CX X E)(ha:PA X (e::es) t)(hg:Gl X x:=by rfl)
  (hdb:(x == ("__debug__":Str))=false:=by decide) (he:starEach (e::es) X.env=(false,eval e X.env)::starEach es X.env:=by rfl) (hpl:(backTo pos (starEach es X.env)).any (·.1)=false:=by rfl):
  PE X (.Call (.Name x p) (e::es) [] pos) (zge sp [] E t):=by
 obtain⟨f,fd,F,hm,hk,hb⟩:=C.ex;exact zgI F hr hg hm hk hb .nil hx ha hdb he hpl
end
end L2
namespace L2
open PySem PySem.Spec PyProof.Rows
section
variable {P:Program}{w:World}{H:Hp}{h h':Heap}{a:Addr}{o:HO}
def HOk.track (x:HOk P w H h)(hn:H a=none)(new:z2o P w (upd H a o) h a o):HOk P w (upd H a o) h:=λb u e=>by
 by_cases hb:b=a
 ·subst hb; rw[z0t] at e; cases e; exact new
 ·rw[z0f hb] at e;exact(x b u e).stay (λc v _ q=>q) (λc q=>by rw[z0f (z0v q hn)]; exact q) λc xs q=>by rw[z0f (z0v q hn)]; exact q
def HOk.other (x:HOk P w H h)(hn:H a=none)(k:∀b u,b≠a->h.get? b=some u->h'.get? b=some u):HOk P w H h':=λb u e=>by
 have nit:∀c v,H c=some v->c≠a:=λc v q z=>by rw[z,hn] at q; cases q
 refine(x b u e).stay (λc v hc q=>k c v ?_ q) (λ_ q=>q) λ_ _ q=>q
 rcases hc with z | z
 ·rw[z]; exact nit b u e
 ·exact nit c _ z
end
end L2
namespace Mth
def z9o {t b:Int}(h:0<b):(0:Int)<(Int.gcd t b:Int)/\t=(Int.gcd t b:Int)*(t / (Int.gcd t b:Int))/\b=(Int.gcd t b:Int)*(b / (Int.gcd t b:Int))/\1<=b / (Int.gcd t b:Int)/\Int.gcd (t / (Int.gcd t b:Int)) (b / (Int.gcd t b:Int))=1:=by
 have p:=(Int.gcd_pos_iff (a:=t) (b:=b)).mpr (.inr (by omega));have e1:t=(Int.gcd t b:Int)*(t / (Int.gcd t b:Int)):=(Int.mul_ediv_cancel' (Int.gcd_dvd_left t b)).symm;have e2:b=(Int.gcd t b:Int)*(b / (Int.gcd t b:Int)):=(Int.mul_ediv_cancel' (Int.gcd_dvd_right t b)).symm;refine⟨by omega,e1,e2,?_,?_⟩
 ·rcases(show b / (Int.gcd t b:Int)<1\/1<=b / (Int.gcd t b:Int) by omega) with q | q
  ·have:(Int.gcd t b:Int)*(b / (Int.gcd t b:Int))<=0:=Int.mul_nonpos_of_nonneg_of_nonpos (by omega) (by omega);omega
  ·exact q
 ·have q:=Int.gcd_mul_left (Int.gcd t b:Int) (t / (Int.gcd t b:Int)) (b / (Int.gcd t b:Int));rw[<- e1, <- e2,Int.natAbs_natCast] at q;have q':Int.gcd t b*1=Int.gcd t b*Int.gcd (t / (Int.gcd t b:Int)) (b / (Int.gcd t b:Int)):=by rw[Nat.mul_one]; exact q
  exact(Nat.eq_of_mul_eq_mul_left p q').symm
def z3U {a b:Int}(hb:0<b):(a / b).natAbs<=a.natAbs:=by
 rw[<- Int.fdiv_eq_ediv_of_nonneg a (Int.le_of_lt hb)];exact PySem.natAbs_fdiv_le a b
end Mth
namespace L2
open PySem PySem.Spec PyProof.Rows
def z9y {i:Int}(h1 : -(2 ^ 64)<i)(h2:i<2 ^ 64):Bt 9000 i:=Nat.le_trans (PySem.intBits_le_64 h1 h2) (by decide)
def bt_k {i:Int}(h:i.natAbs<2 ^ 640):Bt 640 i:=z0s h
def bt_n {i:Int}(h0:0<=i)(h:i<2 ^ 640):Bt 640 i:=z0s (by omega)
def z0X {H:Hp}{p:Addr}(h:H p=none)(o:HO):Same H (upd H p o):=λb u q=>by rw[z0f (z0v q h)]; exact q
def PE.imp {X:Cx}{e:Expr}{t t':TE}(h:PE X e t)(i:∀σ H Q,t' σ H Q->t σ H Q):PE X e t':=λpins s σ H Q I q=>h pins s σ H Q I (i σ H Q q)
def OpR.imp {X:Cx}{f:Value->Value->Sem Value}{r r':R2}(h:OpR X f r)(i:∀x y H Q,r' x y H Q->r x y H Q):OpR X f r':=λpins s σ H x y v u Q I rx ry q=>h pins s σ H x y v u Q I rx ry (i x y H Q q)
section
variable {X:Cx}{es:List Expr}{t:TA}{pos:Pos}
def SlR.imp {r r':V->Option Int->Option Int->Hp->VK->Prop}(h:SlR X r)(i:∀x lo hi H Q,r' x lo hi H Q->r x lo hi H Q):SlR X r':=by
 unfold SlR at h ⊢
 intros
 apply h
 all_goals first | assumption | (apply i; assumption)
end
structure QE (X:Cx)(e:Expr)(t:TE):Prop where
 p:PE X e t
structure QT (X:Cx)(e:Expr)(t:TT):Prop where
 p:PT X e t
structure QW (X:Cx)(e:Expr)(t:TT):Prop where
 p:PW X e t
structure QA (X:Cx)(es:List Expr)(t:TA):Prop where
 p:PA X es t
structure QS (X:Cx)(st:Stmt)(t:TS):Prop where
 p:PS X st t
structure QSs (X:Cx)(st:List Stmt)(t:TS):Prop where
 p:PSs X st t
structure QG (X:Cx)(e:Expr)(t:TG):Prop where
 p:PG X e t
structure QI (X:Cx)(tg e:Expr)(t:TI):Prop where
 p:PI X tg e t
structure QO (X:Cx)(e:Option Expr)(t:TO):Prop where
 p:PO X e t
section
variable {X:Cx}{a b c e f o:Expr}{ta tb tc te:TE}{pos pos2 p2:Pos}{tA tB':TT}{rest:List Expr}{es:List Expr}{aa:TA}
def zib {i j pos}:QE X (.Constant (.int i) j pos) (tC (.int i)):=⟨zis⟩
def zk7 {i j pos}:QE X (.Constant (.bool i) j pos) (tC (.bl i)):=⟨zkh⟩
def qv (i:Nat){x:Str}{pos:Pos}(hN:X.N[i]? = some x:=by rfl)(hv:Vis X.env.scope x:=by first | exact Or.inl rfl | exact Or.inr (Or.inl rfl) | exact Or.inr (Or.inr rfl))(hd:(x == ("__debug__":Str))=false:=by decide)
  (hcd:(x == ("__classdict__":Str))=false:=by decide):QE X (.Name x pos) (tVar i):=⟨zfQ hN hv hd hcd⟩
def zk3 {op:Operator}{r:R2}(ho:OpR X (binaryOp op) r)(ha:QE X a ta)(hb:QE X b tb):QE X (.BinOp a op b pos) (tOp r ta tb):=⟨zkd ho ha.p hb.p⟩
def zk1 {op:UnaryOp}{r:V->Hp->VK->Prop}(ho:UnR X (unaryOp op) r)(ha:QE X a ta):QE X (.UnaryOp op a pos) (tUn r ta):=⟨zkb ho ha.p⟩
def zi8 (ha:QE X a ta):QE X (.UnaryOp .Not a pos) (zhx ta):=⟨zio ha.p⟩
def zi7 {op}{t:TE}(h:QE X a t):QE X (.BoolOp op [a] pos) t:=⟨zin h.p⟩
def zid (ha:QE X a ta)(hb:QE X (.BoolOp .And (b::rest) pos) tb):QE X (.BoolOp .And (a::b::rest) pos) (zhB ta tb):=⟨ziu ha.p hb.p⟩
def zk2 (ha:QE X a ta)(hb:QE X (.BoolOp .Or (b::rest) pos) tb):QE X (.BoolOp .Or (a::b::rest) pos) (tOrV ta tb):=⟨zkc ha.p hb.p⟩
def zgx {op:CmpOp}{r:R2}(ho:OpR X (compareOp op) r)(ha:QE X a ta)(hb:QE X b tb)(hm:behindInMarks op b=false):QE X (.Compare a [op] [b] pos) (tOp r ta tb):=⟨zgH ho ha.p hb.p hm⟩
def zgr {op:CmpOp}{r:R2}(ho:OpR X (compareOp op) r)(ha:QE X a ta)(hb:QE X b tb)(hm:behindInMarks op b=false):QT X (.Compare a [op] [b] pos) (zgd (tOp r ta tb)):=⟨zgz ho ha.p hb.p hm⟩
def zi2 {t:TE}(h:QE X e t)(he:∀whole,isTrue e X.env whole=(do let v <- whole; standAt e.pos; holding [v] (truthy v)):=by intro _; rfl):QT X e (tB t):=⟨zig h.p he⟩
def zi3 (ha:QT X a tA):QT X (.UnaryOp .Not a pos) (tNot tA):=⟨zih ha.p⟩
def zgq (ha:QT X a tA):QW X (.BoolOp .And [a] pos) tA:=⟨zgy ha.p⟩
def zi0 (ha:QT X a tA):QW X (.BoolOp .Or [a] pos) tA:=⟨zie ha.p⟩
def zi1 (ha:QT X a tA)(hb:QW X (.BoolOp .And (b::rest) pos) tB'):QW X (.BoolOp .And (a::b::rest) pos) (tAnd tA tB'):=⟨zif ha.p hb.p⟩
def zjY (ha:QT X a tA)(hb:QW X (.BoolOp .Or (b::rest) pos) tB'):QW X (.BoolOp .Or (a::b::rest) pos) (tOr tA tB'):=⟨zk8 ha.p hb.p⟩
def QW.pt {t:TT}(h:QW X e t):QT X e t:=⟨h.p.pt⟩
def z8S {x:Str}{v:V}{u:Value}(hg:Gl X x)(hm:X.mg x=none)(hv:bootBuiltins x=some u)(r:RelV v u)(hn:x≠"__name__":=by decide)(hd:(x == ("__debug__":Str))=false:=by decide):QE X (.Name x pos) (tC v):=⟨zgJ hg hm hv r hn hd⟩
def zbz:QA X [] tNil:=⟨zdu⟩
def z7e (ha:QE X e te)(hr:QA X es aa)(hs:starEach (e::es) X.env=(false,eval e X.env)::starEach es X.env:=by rfl):QA X (e::es) (z9H te aa):=⟨zaZ ha.p hr.p hs⟩
def zk5 {CX:CXT}{k:Nat}{ps:List Str}{sp:Sp}{E:XK}{x:Str}{pp:Pos}(C:Cal X.prog X.w X.K X.mg X.base CX k x ps sp)(hr:Room k X.A)(hx:z6S CX X E)(ha:QA X (e::es) aa)(hg:Gl X x:=by rfl)
  (hdb:(x == ("__debug__":Str))=false:=by decide) (he:starEach (e::es) X.env=(false,eval e X.env)::starEach es X.env:=by rfl) (hpl:(backTo pos (starEach es X.env)).any (·.1)=false:=by rfl):QE X (.Call (.Name x pp) (e::es) [] pos) (zge sp [] E aa):=⟨zkf C hr hx ha.p hg hdb he hpl⟩
def z8R {x:Str}{pp:Pos}{id:String}{r:List V->Hp->VK->Prop}(hc:z2p X (.builtin id) r)(hg:Gl X x)(hm:X.mg x=none)(hv:bootBuiltins x=some (.builtin id))(ha:QA X (e::es) aa)(hn:x≠"__name__":=by decide)(hdb:(x == ("__debug__":Str))=false:=by decide)
  (he:starEach (e::es) X.env=(false,eval e X.env)::starEach es X.env:=by rfl) (hpl:(backTo pos (starEach es X.env)).any (·.1)=false:=by rfl):QE X (.Call (.Name x pp) (e::es) [] pos) (tCB r aa):=⟨zeO hc hg hm hv ha.p hn hdb he hpl⟩
def z5J {x:Str}{pp:Pos}{id:String}{r:List V->Hp->VK->Prop}(hc:z2p X (.type id) r)(hg:Gl X x)(hm:X.mg x=none)(hv:bootBuiltins x=some (.type id))(ha:QA X (e::es) aa)(hn:x≠"__name__":=by decide)(hdb:(x == ("__debug__":Str))=false:=by decide)
  (he:starEach (e::es) X.env=(false,eval e X.env)::starEach es X.env:=by rfl) (hpl:(backTo pos (starEach es X.env)).any (·.1)=false:=by rfl):QE X (.Call (.Name x pp) (e::es) [] pos) (tCB r aa):=⟨zds hc hg hm hv ha.p hn hdb he hpl⟩
def zk4 {r:R2}(hr:IxR X r)(ha:QE X a ta)(hb:QE X b tb)(hs:zbi b):QE X (.Subscript a b pos) (tOp r ta tb):=⟨zke hr ha.p hb.p hs⟩
def zgw:QO X none zcM:=⟨zgE⟩
def zgv (h:QE X e te):QO X (some e) (zhw te):=⟨zgD h.p⟩
def zeG {r:V->Option Int->Option Int->Hp->VK->Prop}{lo hi:Option Expr}{tl th:TO}(hr:SlR X r)(he:QE X e te)(hl:QO X lo tl)(hu:QO X hi th):QE X (.Subscript e (.Slice lo hi none p2) pos) (tSl r te tl th):=⟨zeM hr he.p hl.p hu.p⟩
def zic {T id:String}{name:Str}{apos cpos:Pos}{r:V->List V->Hp->VK->Prop}(pa:PlainAttrs T)(slot:Slot T name id)(hty:typeOf (.builtin id)=pure (.type "method_descriptor"))(hm:MtR X id r)(ho:QE X o te)
  (hbase:attributeBase o name X.env (eval o X.env)=eval o X.env:=by rfl) (hline:(apos.endLine == cpos.line)=true:=by rfl):QE X (.Call (.Attribute o name apos) [] [] cpos) (tBM0 X.K T r te):=⟨zit pa slot hty hm ho.p hbase hline⟩
def zk6 {T id:String}{name:Str}{apos cpos:Pos}{r:V->List V->Hp->VK->Prop}(pa:PlainAttrs T)(slot:Slot T name id)(hty:typeOf (.builtin id)=pure (.type "method_descriptor"))(hm:MtR X id r)(ho:QE X o te)(ha:QA X (e::es) aa)
  (hbase:attributeBase o name X.env (eval o X.env)=eval o X.env:=by rfl)
  (hfew:((backTo cpos (starEach (e::es) X.env)).all (λx => !x.1) && (backToKw cpos (keywordEach [] X.env)).all (λx=>x.1.isSome)
   && decide ((e::es).length+([]:List Keyword).length+(if ([]:List Keyword).isEmpty then 0 else 1)<30))=true:=by rfl)
  (hline:(apos.endLine == cpos.line)=true:=by rfl) (hs:starEach (e::es) X.env=(false,eval e X.env)::starEach es X.env:=by rfl) (hplain:(backTo cpos (starEach es X.env)).any (·.1)=false:=by rfl):
  QE X (.Call (.Attribute o name apos) (e::es) [] cpos) (tBM X.K T r te aa):=⟨zkg pa slot hty hm ho.p ha.p hbase hfew hline hs hplain⟩
end
section
variable {X:Cx}{st:Stmt}{rest body a b:List Stmt}{t u tb:TS}{e tg c iter:Expr}{te:TE}{tc:TT}{pos:Pos}{g:TG}{wi:TI}{aa:TA}
def zgt:QSs X [] zhy:=⟨zgB⟩
def zeD (h1:QS X st t)(h2:QSs X rest u):QSs X (st::rest) (tSeq t u):=⟨zeH h1.p h2.p⟩
def zgs (h1:QS X st t):QSs X [st] t:=⟨zgA h1.p⟩
def zi4 (he:QE X e te):QS X (.Return (some e) pos) (tRet te):=⟨zij he.p⟩
def zda (he:QE X e te)(hs:swapsWith e none pos.line X.env=pure false:=by rfl):QS X (.Expr e pos) (zhz te):=⟨zgC he.p hs⟩
def zjZ (hc:QT X c tc)(ha:QSs X a t)(hb:QSs X b u):QS X (.If c a b pos) (tIfS tc t u):=⟨zk9 hc.p ha.p hb.p⟩
def zeE (hp:PassesOwn (model X.prog X.w) X.A X.env X.xe)(hc:QT X c tc)(hb:QSs X body tb):QS X (.While c body [] pos) (zfG tc tb):=⟨zeI hp hc.p hb.p⟩
def zfO (hp:PassesOwn (model X.prog X.w) X.A X.env X.xe)(hc:X.calm=true)(hi:QI X tg iter wi)(hg:QG X tg g)(hb:QSs X body tb)
  (hs:∀x,foldedSetIterable iter X.env x=pure x:=by intro _; rfl):QS X (.For tg iter body [] pos) (tFor wi g tb):=⟨zil hp hc hi.p hg.p hb.p hs⟩
def zdc {a:Expr}{p:Pos}(hg:Gl X "range")(hm:X.mg "range"=none)(ha:QA X [a] aa)(hs:starEach [a] X.env=[(false,eval a X.env)]:=by rfl):QI X tg (.Call (.Name "range" p) [a] [] pos) (zjq aa):=⟨zdq hg hm ha.p hs⟩
def zdb {a b:Expr}{p:Pos}(hg:Gl X "range")(hm:X.mg "range"=none)(ha:QA X [a,b] aa)(hs:starEach [a,b] X.env=[(false,eval a X.env),(false,eval b X.env)]:=by rfl)(hs2:starEach [b] X.env=[(false,eval b X.env)]:=by rfl):
  QI X tg (.Call (.Name "range" p) [a,b] [] pos) (zjp aa):=⟨zdp hg hm ha.p hs hs2⟩
end
end L2
namespace Mth
end Mth
namespace L2
open PySem PySem.Spec PyProof.Rows
end L2
namespace Mth
def g3 (x y b:Int):Int:=((Int.gcd ((Int.gcd b x:Nat):Int) y:Nat):Int)
def z70 (x y b:Int):g3 x y b ∣ b:=Int.dvd_trans (Int.gcd_dvd_left _ _) (Int.gcd_dvd_left b x)
def zfm (x y b:Int):g3 x y b ∣ x:=Int.dvd_trans (Int.gcd_dvd_left _ _) (Int.gcd_dvd_right b x)
def zfl (x y b:Int):g3 x y b ∣ y:=Int.gcd_dvd_right _ _
def zbT {x y b:Int}(h:0<b):0<g3 x y b:=by
 have p:=(Int.gcd_pos_iff (a:=b) (b:=x)).mpr (.inl (by omega));have p2:=(Int.gcd_pos_iff (a:=((Int.gcd b x:Nat):Int)) (b:=y)).mpr (.inl (by omega));unfold g3;omega
structure Plc (x y b u v t:Int):Prop where
 pos:1<=t
 cop:Int.gcd ((Int.gcd u v:Nat):Int) t=1
 cx:u*b=x*t
 cy:v*b=y*t
 lu:u.natAbs<=x.natAbs
 lv:v.natAbs<=y.natAbs
 lt:t.natAbs<=b.natAbs
def zbQ (a b c:Int):Int.gcd ((Int.gcd a b:Nat):Int) c=Nat.gcd (Nat.gcd a.natAbs b.natAbs) c.natAbs:=rfl
def zdk {x y b:Int}(h:0<b):Plc x y b (x / g3 x y b) (y / g3 x y b) (b / g3 x y b):=by
 have hg:=zbT (x:=x) (y:=y) h;have ex:x=g3 x y b*(x / g3 x y b):=(Int.mul_ediv_cancel' (zfm x y b)).symm;have ey:y=g3 x y b*(y / g3 x y b):=(Int.mul_ediv_cancel' (zfl x y b)).symm;have eb:b=g3 x y b*(b / g3 x y b):=(Int.mul_ediv_cancel' (z70 x y b)).symm;have ee:g3 x y b=((Nat.gcd (Nat.gcd b.natAbs x.natAbs) y.natAbs:Nat):Int):=rfl;refine⟨?_,?_,?_,?_,z3U hg,z3U hg,z3U hg⟩
 ·generalize b / g3 x y b=t at eb
  rcases(show t<1\/1<=t by omega) with q | q
  ·have:g3 x y b*t<=0:=Int.mul_nonpos_of_nonneg_of_nonpos (by omega) (by omega);omega
  ·exact q
 ·rw[zbQ];generalize hu:x / g3 x y b=u at ex;generalize hv:y / g3 x y b=v at ey;generalize ht:b / g3 x y b=t at eb;have nx:=congrArg Int.natAbs ex;have ny:=congrArg Int.natAbs ey;have nb:=congrArg Int.natAbs eb;rw[Int.natAbs_mul] at nx ny nb;have ng:(g3 x y b).natAbs=Nat.gcd (Nat.gcd b.natAbs x.natAbs) y.natAbs:=by rw[ee,Int.natAbs_natCast]
  generalize hG:(g3 x y b).natAbs=G at nx ny nb ng;have hGp:0<G:=by omega
  rw[nx,ny,nb,Nat.gcd_mul_left,Nat.gcd_mul_left] at ng;have e1:G*1=G*Nat.gcd (Nat.gcd t.natAbs u.natAbs) v.natAbs:=by rw[Nat.mul_one]; exact ng
  have e2:=Nat.eq_of_mul_eq_mul_left hGp e1;rw[Nat.gcd_comm (Nat.gcd u.natAbs v.natAbs), <- Nat.gcd_assoc];exact e2.symm
 ·have:x / g3 x y b*b=x / g3 x y b*(g3 x y b*(b / g3 x y b)):=congrArg _ eb;rw[this,Int.mul_left_comm, <- Int.mul_assoc, <- ex]
 ·have:y / g3 x y b*b=y / g3 x y b*(g3 x y b*(b / g3 x y b)):=congrArg _ eb;rw[this,Int.mul_left_comm, <- Int.mul_assoc, <- ey]
end Mth
namespace L2
open PySem PySem.Spec PyProof.Rows
structure Fly (P:Program)(w:World)(outer:List Env)(H:Hp)(h0:Heap)(Cv:Value)(H':Hp)(ea t:Addr)(B h:Heap):Prop where
 fl:Heap.FlyingW B outer ea Cv (.ref t) h
 un:Un (frs outer) [] H H' h0 h
 hok:HOk P w H' h
 trk:∀b o,H' b=some o->∃ob,B.get? b=some ob
 kep:∀b o,h0.get? b=some o->b ∉ frs outer->∃ob,B.get? b=some ob
def CXe (P:Program)(w:World):CXT:=λouter H s E e s'=>∃(ea t:Addr) (Cv:Value) (H':Hp) (B:Heap),e = .ref ea/\Fly P w outer H s.heap Cv H' ea t B s'.heap/\AllBare s'.gens/\s'.os=s.os/\E Cv none H'
section
variable {P:Program}{w:World}{outer:List Env}{H H':Hp}{h0 h h2:Heap}{Cv:Value}{ea t:Addr}{B:Heap}
def z2o.there {a:Addr}{o:HO}(x:z2o P w H h a o):∃ob,h.get? a=some ob:=by
 cases o with
 | lst xs=>obtain⟨_,_,_,_,e⟩:=x; exact⟨_,e⟩
 | tup xs=>obtain⟨_,_,_,⟨ob,e,_⟩,_⟩:=x; exact⟨_,e⟩
 | dK kvs=>obtain⟨_,_,_,_,o,_,_,e,_⟩:=x; exact⟨_,e⟩
 | dT kvs=>obtain⟨_,_,_,_,o,_,_,e,_⟩:=x; exact⟨_,e⟩
 | set S n=>obtain⟨o,_,_,_,e,_⟩:=x; exact⟨_,e⟩
 | ins C dx fs=>obtain⟨_,_,_,e,_⟩:=x; exact⟨_,e⟩
 | own y=>obtain⟨_,e⟩:=x; exact⟨_,e⟩
 | xd fs=>obtain⟨_,⟨_,_,_,e,_⟩,_⟩:=x; exact⟨_,e⟩
 | rng lo hi=>obtain⟨_,_,_,e⟩:=x; exact⟨_,e⟩
 | frz ob u=>obtain⟨e,_⟩:=x; exact⟨_,e⟩
 | tbl ps=>rcases x with e | ⟨_,_,_,_,_,_,_,_,_,_,_,e,_⟩ <;> exact⟨_,e⟩
 | met f y=>exact⟨_,(show h.get? a=some _ from x)⟩
 | ext φ=>obtain⟨_,⟨_,e⟩,_⟩:=x; exact⟨_,e⟩
end
section
variable {P:Program}{w:World}{K:W.Frag}{mg:Str->Option Value}{base:Heap}{N:List Str}{qual:Str}{sc:Scope}{f:Addr}{cdv:Value}{A:Around}{outer:List Env}{s:Shared}{H:Hp}{E:XK}
def Fun.okN {x:Str}{st:Stmt}{fd:FuncData}{ps:List Str}{k:Nat}{sp:Sp}(F:Fun K x qual st f fd)(S:z0h N ps (z01 st))(len:∀vs H Q E,sp vs H Q E->vs.length=ps.length)
  (hbody:∀(cdv:Value) (A:Around) (outer:List Env) (s:Shared) (H:Hp) (vs:List V) (Q:VK) (E:XK),Room k (A.deeper (envOfC qual (z01 st) s.heap.objs.size f cdv))->sp vs H Q E->
   ∃t,QSs ((cxOf (CXe P w) P w K mg base N qual (z01 st) f cdv A outer s H E).wish λ_ _=>False) (z33 st) t/\t { nx:=λ_ H'=>Q .non H',rt:=Q } (start N vs) H):FnOk P w K mg base (CXe P w) (k+1) f fd ps sp:=by
 obtain⟨oc,od,kV,doc,pm,an,cdv,ct,osl,rfl,lk,hcd⟩:=F.ex;refine zjs lk hcd S len λA outer s H vs Q E hr hsp =>?_;obtain⟨t,h,q⟩:=hbody cdv A outer s H vs Q E hr hsp;exact⟨t,h.p.nox,q⟩
def z0a {X:Cx}:z6S (CXe P w) X E0:=λ_ _ _ _ _ _ _ ⟨_,_,_,_,_,_,_,_,_,q⟩=>q.elim
end
def zkZ (a C:Addr)(h:Heap):Prop:=∃o,h.get? a=some o/\o.cls = .ref C/\∃vs,o.data = .fields vs
end L2
namespace L2
open PySem PySem.Spec PyProof.Rows
open Builtin.Str
section
variable {X:Cx}
def rAll (K:W.Frag):List V->Hp->VK->Prop:=λxs H Q=>∃(a:Addr) (bs:List Bool),xs=[.ref a]/\SqL K H a (bs.map V.bl)/\Q (.bl (bs.all id)) H
def zbk:∀(bs:List Bool) {us:List Value},Vals (bs.map V.bl) us->us=bs.map Value.bool
 | [],_,r=>by cases r; rfl
 | b::bs,_,r=>by
  cases r with
  | cons r1 r2=>
   rw[zbk bs r2]
   cases (show _=Value.bool b from r1)
   rfl
def zec (bs:List Bool):(List.range bs.length).all (λi=>bs[i]?.getD true)=bs.all id:=by
 apply Bool.eq_iff_iff.mpr;simp only[List.all_eq_true,List.mem_range,id]
 constructor
 ·intro h b hb;obtain⟨i,hi,e⟩:=List.mem_iff_getElem.mp hb;have:=h i hi;rw[List.getElem?_eq_getElem hi] at this;simpa[e] using this
 ·intro h i hi;rw[List.getElem?_eq_getElem hi];exact h _ (List.getElem_mem hi)
def ze8 (hc:X.calm=true):z2p X (.builtin "all") (rAll X.K):=by
 intro pins s σ H xs us Q I r h;obtain⟨a,bs,rfl,hs,q⟩:=h;obtain⟨u,rfl,ru⟩:=z6i r
 cases (show u=Value.ref a from ru)
 obtain⟨its,hv,pl,_⟩:=I.list hs
 cases zbk bs hv
 have hl:=pl.isList;refine call_all_walk (wpAny_pyIter_list hl ?_);have hne:a≠s.heap.objs.size:=by
  obtain⟨o,n,e,_⟩:=pl;exact Nat.ne_of_lt (Heap.lt_size e)
 refine⟨s.heap.objs.size,_,_,_,_,_,λi=>bs[i]?.getD true,rfl,Walks.list (A:=X.A.in1) (I.ok.hd hc) s.heap.objs.size a hne (bs.map Value.bool).toArray,⟨⟨_,Heap.get?_push_size _ rfl,rfl,rfl⟩,(pl.keeps λb o e=>Heap.get?_push_of_some _ e).isList⟩,?_,λh' tk hk =>?_⟩
 ·intro i v s' Q' E' hP hQ;have hP':(bs.map Value.bool)[i]? = some v:=by simpa using hP
  rw[List.getElem?_map] at hP';obtain⟨b,hb,rfl⟩:=Option.map_eq_some_iff.mp hP';have hQ':Q' (bs[i]?.getD true) s':=hQ;rw[hb] at hQ';exact wpAny_pure hQ'
 ·have e:(List.range (bs.map Value.bool).toArray.size).all (λi=>bs[i]?.getD true)=bs.all id:=by
   rw[List.size_toArray,List.length_map];exact zec bs
  rw[e];refine⟨.bl _,H,I.kept (t':=tk) λb o eb=>hk b o ?_ (Heap.get?_push_of_some _ eb),rfl,q⟩;intro z;rw[List.mem_singleton.mp z] at eb;exact absurd (Heap.lt_size eb) (Nat.lt_irrefl _)
def rSlS:V->Option Int->Option Int->Hp->VK->Prop:=λx lo hi H Q=>∃y,x = .str y/\y.length<=sizeLine/\Q (.str (Txt.slice y lo hi)) H
def zhE:SlR X rSlS:=by
 intro pins s σ H x v vl vu lo hi sl Q I rx hs pl pu h;obtain⟨y,rfl,hz,q⟩:=h;obtain⟨t,rfl⟩:=rx;refine⟨"str",_,F.slot_str_getitem.lookup,typeIs_str _ _ _,?_⟩;obtain⟨o,ho,hc,hd⟩:=hs;have fin:∀(l u:Option (Int × Tok)),l.map (·.1)=lo->u.map (·.1)=hi->vl=partValue l->vu=partValue u->wpAny (model X.prog X.w) X.A (getItem (.str y t) (.ref sl)) (EP X pins σ Q) X.xe s:=λl u e1 e2 e3 e4=>by
  subst e1 e2 e3 e4;exact wpAny_getItem_str_slice (l:=l) (u:=u) (st:=none) ⟨o,ho,hc,hd⟩ rfl (post_val_or_str ⟨Nat.le_trans (Txt.slice_le y _ _) hz,λt' k=>⟨.str _,H,I.tok k,⟨t',rfl⟩,q⟩⟩)
 cases pl with
 | none=>
  cases pu with
  | none=>exact fin none none rfl rfl rfl rfl
  | int j u=>exact fin none (some (j,u)) rfl rfl rfl rfl
 | int i w=>
  cases pu with
  | none=>exact fin (some (i,w)) none rfl rfl rfl rfl
  | int j u=>exact fin (some (i,w)) (some (j,u)) rfl rfl rfl rfl
def Its (x:Str):It:=⟨λi _=>i<x.cps.size,λi H v H'=>H'=H/\∃c,x.cps[i]? = some c/\v = .str ⟨#[c]⟩,λi _=>x.cps.size<=i⟩
def zbl {P:Program}{w:World}{K:W.Frag}{tg:Expr}(x:Str)(t:Tok)(it:Addr){ty:String}(hty:["enumerate","zip","dict_itemiterator","dict_reverseitemiterator","odict_iterator","itertools.zip_longest","itertools.pairwise"].contains ty=false)
  (W:∀A':Around,A'.handled=none->Walks P w A' it [it] [it] x.cps.size (SignAt x) (λi h=>h.IsStrIter it ty x t i)) (hs:∀(A:Around) (i:Nat) (s:Shared) (Q:Value->Shared->Prop) (E:Value->Shared->Prop),s.heap.IsStrIter it ty x t i->Q (.ref it) s->wpAny (model P w) A (pyIter (.ref it)) Q E s):
  Turn P w K tg (Its x) [it] it (λi h=>i<=x.cps.size/\h.IsStrIter it ty x t i) where
 mem:=by simp
 obj:=λi h st b hb=>by
  have e:b=it:=by simpa using hb
  subst e;obtain⟨_,o,e,c,d⟩:=st;exact⟨o,e,λv z=>by rw[d] at z; cases z⟩
 keep:=λi h h' st k=>⟨st.1,(W { } rfl).frame i h h' st.2 k⟩
 item:=by
  intro X hP hw hK hc i pins s σ H E I hf st hg;subst hP hw hK;obtain⟨f0,f1,f2,f3,f4,f5⟩:=hf it (by simp);refine(W X.A (I.ok.hd hc)).item i s _ _ hg st.2 λv h' tk hv st' kk =>?_;obtain⟨c,u,hc',rfl⟩:=hv;have I1:Inv X pins σ H { s with heap:=h',toks:=tk }:=I.turned (λb o hb e=>kk b o (by simpa using hb) e) f0 f1 f3 f4 f5;obtain⟨o,e1,e2,e3⟩:=id st';exact⟨_,rfl,zdR (s:={ s with heap:=h',toks:=tk }) e1 e2 e3 hty ⟨.str ⟨#[c]⟩,H,I1,⟨u,rfl⟩,⟨rfl,c,hc',rfl⟩,⟨hg,st'⟩,λb hb=>(hf b hb).1⟩⟩
 done:=by
  intro X hP hw hK hc i pins s σ H E I hf st hg;subst hP hw hK;obtain⟨f0,f1,f2,f3,f4,f5⟩:=hf it (by simp);have e:i=x.cps.size:=Nat.le_antisymm st.1 hg;subst e;exact(W X.A (I.ok.hd hc)).done s _ _ st.2 λh' tk kk=>⟨rfl,I.turned (λb o hb e=>kk b o (by simpa using hb) e) f0 f1 f3 f4 f5⟩
 self:=λA i s Q E st h=>hs A i s Q E st.2 h
variable {tg:Expr}
def zi9 {es:List Expr}{aa:TA}{pos:Pos}(h:QA X es aa):QE X (.List es pos) (tLst aa):=⟨ziq h.p⟩
def z7Z:MtR X "list.append" zd5:=zdB
end
end L2
namespace Tx
open PySem PySem.NumText PyProof.Rows L2
abbrev st (l:List Nat):Str:=⟨l.toArray⟩
end Tx
namespace L2
open PySem PySem.Spec PyProof.Rows Tx
end L2
namespace L2
open PySem PySem.Spec PyProof.Rows
end L2
namespace Tx
open PySem PySem.NumText PyProof.Rows L2
open Builtin.Str
end Tx
namespace L2
open PySem PySem.Spec PyProof.Rows Tx
end L2
namespace Tx
open PySem PySem.NumText PyProof.Rows L2
end Tx
namespace L2
open PySem PySem.Spec PyProof.Rows Tx
end L2
namespace Mth
end Mth
namespace L2
open PySem PySem.Spec PyProof.Rows
section
variable {prog:Program}{w:World}{A:Around}{R:Result->Shared->Prop}{s:Shared}
def zfD (M:Model)(A:Around)(ct:Option Expr)(env:Env)(Q:Bool->Shared->Prop)(E:Value->Shared->Prop)(s:Shared):Prop:=
 match ct with
 | none=>Q true s
 | some c=>wpAny M A (isTrue c env (eval c env)) Q E s
def z6P {elt target iter:Expr}{ct:Option Expr}{scope:Scope}{pos:Pos}{it acc:Value}{env:Env}(I:Nat->Shared->Prop)
  (turn:∀n s,I n s->wpAny (model prog w) A (pyNext it) (λr s1=>match r with
   | none=>R (.ok .next) s1
   | some v=>wpAny (model prog w) A (letOwnedTupleGo target it v) (λ_ s5=>wpAny (model prog w) A (assign target env v) (λ_ s2=>zfD (model prog w) A ct env (λok s3=>if ok=true then wpAny (model prog w) A (eval elt env) (λx s4=>
     wpAny (model prog w) A (call (.builtin "list.append") [acc,x]) (λ_ s6=>∃m,m<n/\I m s6) (notedBy (model prog w) A env λe s'=>R (.error e) s') s4)
     (notedBy (model prog w) A env λe s'=>R (.error e) s') s3 else ∃m,m<n/\I m s3) (notedBy (model prog w) A env λe s'=>R (.error e) s') s2) (notedBy (model prog w) A env λe s'=>R (.error e) s') s5) (notedBy (model prog w) A env λe s'=>R (.error e) s') s1) (notedBy (model prog w) A env λe s'=>R (.error e) s') s)
  (n:Nat) (h:I n s):
  codeAny (model prog w) A (.compLoop (.ListComp elt [⟨target,iter,ct.toList,0⟩] scope pos) 0 it acc env) R s:=by
 refine codeAny_loop rfl I (λn s hI =>?_) n h;show wpAny _ _ ((compTurn (.ListComp elt [⟨target,iter,ct.toList,0⟩] scope pos) 0 it acc env).onRaise (λx=>do noteFrame x env; theTreesLotGoes x)) _ _ s;refine wpAny_noted ?_;rw[compTurn_list];refine wpAny_bind (wpAny_standAt (wpAny_bind (wpAny_mono (turn n s hI) (λr s1 h1 =>?_) λ_ _ h'=>h')))
 cases r with
 | none=>exact wpAny_pure h1
 | some v=>
  refine wpAny_bind (wpAny_mono h1 (λ_ s5 h5 =>?_) λ_ _ h'=>h');refine wpAny_bind (wpAny_mono h5 (λ_ s2 h2 =>?_) λ_ _ h'=>h')
  cases ct with
  | none=>
   refine wpAny_bind (wpAny_mono (wpAny_tests_nil (Q:=λok s3=>ok=true/\s3=s2) ⟨rfl,rfl⟩) (λok s3 h3 =>?_) λ_ _ h'=>h');obtain⟨rfl,rfl⟩:=h3;have h2':=h2;simp only[zfD,if_true] at h2';exact wpAny_bind (wpAny_bind (wpAny_mono h2' (λx s4 h4=>wpAny_bind (wpAny_mono h4 (λ_ s6 h6=>wpAny_pure (wpAny_pure ⟨rfl,h6⟩)) λ_ _ h'=>h')) λ_ _ h'=>h'))
  | some c=>
   refine wpAny_bind (wpAny_tests_one (wpAny_mono (show wpAny (model prog w) A (isTrue c env (eval c env)) _ _ _ from h2) (λokb s3 h3 =>?_) λ_ _ h'=>h'))
   cases okb with
   | false=>exact wpAny_pure ⟨rfl,by simpa using h3⟩
   | true=>
    have h3':=h3;simp only[if_true] at h3';exact wpAny_bind (wpAny_bind (wpAny_mono h3' (λx s4 h4=>wpAny_bind (wpAny_mono h4 (λ_ s6 h6=>wpAny_pure (wpAny_pure ⟨rfl,h6⟩)) λ_ _ h'=>h')) λ_ _ h'=>h'))
end
def z2J (env:Env)(names:List (Str × NameKind))(acc:List (Str × Addr)):List (Str × Addr):=names.foldl (λc x=>if x.2 == .free then (x.1,(env.cells.lookup x.1).getD 0)::c else c) acc
def z8w {α β:Type}{f:α->β->Sem (ForInStep β)}{g:α->β->β}:∀(l:List α) (b:β),(∀x∈l,∀c,f x c=pure (.yield (g x c)))->forIn l b f=(pure (l.foldl (λc x=>g x c) b):Sem β)
 | [],b,_=>rfl
 | x::l,b,h=>by
  rw[List.forIn_cons,h x List.mem_cons_self,pure_bind];exact z8w l (g x b) λy hy=>h y (List.mem_cons_of_mem _ hy)
def z4w {scope:Scope}{env:Env}(h:∀x∈scope.names,x.2 = .free->∃c,env.cells.lookup x.1=some c):closureFor scope env=pure (z2J env scope.names []):=by
 simp only[closureFor];rw[z8w (g:=λx c=>if x.2 == .free then (x.1,(env.cells.lookup x.1).getD 0)::c else c) scope.names [] (λx hx c=>by
  obtain⟨n,kind⟩:=x
  by_cases hk:kind = .free
  ·subst hk;obtain⟨a,ha⟩:=h _ hx rfl;have e:cellOf env n=pure a:=by unfold cellOf; rw[ha]
   simp[e,ha]
  ·have:(kind == NameKind.free)=false:=by simpa using hk
   simp[this])]
 rfl
def zb7 {env:Env}{y:Str}{c:Addr}:∀{names:List (Str × NameKind)}{acc:List (Str × Addr)},(y,c)∈z2J env names acc↔(y,c)∈acc\/((y,NameKind.free)∈names/\c=(env.cells.lookup y).getD 0)
 | [],acc=>by simp[z2J]
 | (n,k)::r,acc=>by
  show (y,c)∈z2J env r (if k == .free then (n,(env.cells.lookup n).getD 0)::acc else acc)↔_;rw[zb7]
  by_cases hk:k = .free
  ·subst hk;simp only[beq_self_eq_true,if_true,List.mem_cons,Prod.mk.injEq]
   constructor
   ·rintro((⟨rfl,rfl⟩ | h) | ⟨h1,h2⟩)
    ·exact .inr ⟨.inl (by simp),rfl⟩
    ·exact .inl h
    ·exact .inr ⟨.inr h1,h2⟩
   ·rintro(h | ⟨⟨rfl,_⟩ | h1,h2⟩)
    ·exact .inl (.inr h)
    ·exact .inl (.inl ⟨rfl,h2⟩)
    ·exact .inr ⟨h1,h2⟩
  ·have:(k == NameKind.free)=false:=by simpa using hk
   simp only[this,Bool.false_eq_true,if_false,List.mem_cons,Prod.mk.injEq]
   constructor
   ·rintro(h | ⟨h1,h2⟩)
    ·exact .inl h
    ·exact .inr ⟨.inr h1,h2⟩
   ·rintro(h | ⟨⟨_,h⟩ | h1,h2⟩)
    ·exact .inl h
    ·exact absurd h.symm hk
    ·exact .inr ⟨h1,h2⟩
def z1s {β:Type}{y:Str}{c:β}:∀{l:List (Str × β)},l.lookup y=some c->(y,c)∈l
 | [],h=>by simp at h
 | (n,j)::r,h=>by
  rw[List.lookup_cons] at h
  by_cases e:y=n
  ·subst e;simp at h;subst h;exact List.mem_cons_self
  ·have:(y == n)=false:=by simpa using e
   rw[this] at h;exact List.mem_cons_of_mem _ (z1s h)
def z4N {β:Type}{y:Str}{c:β}:∀{l:List (Str × β)},(y,c)∈l->∃d,l.lookup y=some d
 | (n,j)::r,h=>by
  rw[List.lookup_cons]
  by_cases e:y=n
  ·subst e;simp
  ·have:(y == n)=false:=by simpa using e
   rw[this]
   rcases List.mem_cons.mp h with h | h
   ·exact absurd (congrArg Prod.fst h) e
   ·exact z4N h
def z3W {env:Env}:∀{names:List (Str × NameKind)}{x:Str}{k:NameKind},(names.map λ(n,k)=>if (k == NameKind.free && env.scope.kind == .function && env.kindOf n == some .cell) then (n,NameKind.cell) else (n,k)).lookup x=some k->
  names.lookup x=some k\/(k = .cell/\names.lookup x=some .free)
 | [],_,_,h=>by simp at h
 | (n,j)::r,x,k,h=>by
  have ih := @z3W env r x k;have h':List.lookup x ((if (j == NameKind.free && env.scope.kind == .function && env.kindOf n == some .cell)=true then (n,NameKind.cell) else (n,j))::(r.map λ(n,k)=>if (k == NameKind.free && env.scope.kind == .function && env.kindOf n == some .cell) then (n,NameKind.cell) else (n,k)))=some k:=h
  by_cases hc:(j == NameKind.free && env.scope.kind == .function && env.kindOf n == some .cell)=true
  ·rw[if_pos hc] at h';have hj:j = .free:=by
    have:=hc;simp only[Bool.and_eq_true,beq_iff_eq] at this;exact this.1.1
   cases hx:x == n with
   | true=>
    simp only[List.lookup_cons,hx] at h' ⊢;exact .inr ⟨(Option.some.inj h').symm,by rw[hj]⟩
   | false=>
    simp only[List.lookup_cons,hx] at h' ⊢;exact ih h'
  ·rw[if_neg hc] at h'
   cases hx:x == n with
   | true=>
    simp only[List.lookup_cons,hx] at h' ⊢;exact .inl h'
   | false=>
    simp only[List.lookup_cons,hx] at h' ⊢;exact ih h'
def z3m {env:Env}:∀{names:List (Str × NameKind)}{x:Str},names.lookup x=some .free->
  (names.map λ(n,k)=>if (k == NameKind.free && env.scope.kind == .function && env.kindOf n == some .cell) then (n,NameKind.cell) else (n,k)).lookup x=some .cell\/
  (names.map λ(n,k)=>if (k == NameKind.free && env.scope.kind == .function && env.kindOf n == some .cell) then (n,NameKind.cell) else (n,k)).lookup x=some .free
 | [],_,h=>by simp at h
 | (n,j)::r,x,h=>by
  have ih := @z3m env r x;show List.lookup x ((if (j == NameKind.free && env.scope.kind == .function && env.kindOf n == some .cell)=true then (n,NameKind.cell) else (n,j))::_)=_\/List.lookup x ((if (j == NameKind.free && env.scope.kind == .function && env.kindOf n == some .cell)=true then (n,NameKind.cell) else (n,j))::_)=_
  cases hx:x == n with
  | true=>
   simp only[List.lookup_cons,hx] at h
   cases h
   by_cases hc:(NameKind.free == NameKind.free && env.scope.kind == .function && env.kindOf n == some .cell)=true
   ·rw[if_pos hc]; simp[List.lookup_cons,hx]
   ·rw[if_neg hc]; simp[List.lookup_cons,hx]
  | false=>
   simp only[List.lookup_cons,hx] at h
   by_cases hc:(j == NameKind.free && env.scope.kind == .function && env.kindOf n == some .cell)=true
   ·rw[if_pos hc]; simp only[List.lookup_cons,hx]; exact ih h
   ·rw[if_neg hc]; simp only[List.lookup_cons,hx]; exact ih h
@[reducible] def Cx.compG (X:Cx)(scope:Scope)(N':List Str)(C:Addr)(s:Shared)(H:Hp)(fp:List Addr):Cx:=
 { X with N:=N',s₀:=s,H₀:=H,env:=compEnvC scope (z2J X.env scope.names []) C X.env,outer:=X.stack,stack:=X.stack,ex:=fp,pn:=[],fn:=λy=>((z2J X.env scope.names []).lookup y).isNone,xe:=λ_ _=>False }
def z76:TT:=λ_ H Q=>Q true H
def LcG (J:It)(g:TG)(tc:TT)(te:TE)(Q:VK)(σ0:St)(H1:Hp):Prop:=∃W:Nat->Nat->List V->St->Hp->Prop,(∃m,W 0 m [] σ0 H1)/\∀i m ys σ H,W i m ys σ H->
 ys.length<sizeLine/\((J.stop i H/\∀p,H p=none->Q (.ref p) (upd H p (.lst ys)))\/(J.go i H/\∀x H',J.yld i H x H'->g x σ H' λσ1 H1=>tc σ1 H1 λb H2=>if b=true then te σ1 H2 λy H3=>∃m',m'<m/\W (i+1) m' (ys++[y]) σ1 H3 else ∃m',m'<m/\W (i+1) m' ys σ1 H2))
def tLcG (wi:TI)(g:TG)(tc:TT)(te:TE)(nt:Nat)(js:List Nat):TE:=λσ H Q=>wi σ H λJ H1=>LcG J g tc te Q (List.replicate nt none++js.map λj=>(σ[j]?).getD none) H1
def z9v (N' xn:List Str)(nt:Nat)(js:List Nat)(names onames:List (Str × NameKind)):Bool:=
 N'.length == nt+js.length && (js.zipIdx.all λp=>match N'[nt+p.2]? with
  | some y=>xn[p.1]? == some y && names.lookup y == some .free
  | none=>false) && names.all (λx=>x.2 != .cell && (x.2 != .local || names.lookup x.1 == some .local) && (x.2 != .free || ((onames.lookup x.1 == some .cell || onames.lookup x.1 == some .free))))
section
variable {X:Cx}{pins:List (Addr × Obj)}{σ:St}{H:Hp}{s:Shared}
structure z4f (X:Cx)(N':List Str)(nt:Nat)(js:List Nat)(scope:Scope):Prop where
 len:N'.length=nt+js.length
 cap:∀k j,js[k]? = some j->∃y,N'[nt+k]? = some y/\X.N[j]? = some y/\scope.names.lookup y=some .free
 nocell:∀y∈scope.names,y.2 ≠ .cell
 loc:∀y∈scope.names,y.2 = .local->scope.names.lookup y.1=some .local
 free:∀y∈scope.names,y.2 = .free->X.env.kindOf y.1=some .cell\/X.env.kindOf y.1=some .free
def z9v.ok {N' xn:List Str}{nt:Nat}{js:List Nat}{scope osc:Scope}(hxn:X.N=xn)(hosc:X.env.scope=osc)(h:z9v N' xn nt js scope.names osc.names=true):z4f X N' nt js scope:=by
 unfold z9v at h;simp only[Bool.and_eq_true,beq_iff_eq] at h;obtain⟨⟨h1,h2⟩,h3⟩:=h;rw[List.all_eq_true] at h2 h3;have h3':∀y∈scope.names,y.2 ≠ .cell/\(y.2 = .local->scope.names.lookup y.1=some .local)/\(y.2 = .free->osc.names.lookup y.1=some .cell\/osc.names.lookup y.1=some .free):=λy hy=>by
  have:=h3 y hy;simp only[Bool.and_eq_true,Bool.or_eq_true,bne_iff_ne,beq_iff_eq] at this;refine⟨this.1.1,λz =>?_,λz =>?_⟩
  ·rcases this.1.2 with q | q
   ·exact absurd z q
   ·exact q
  ·rcases this.2 with q | q
   ·exact absurd z q
   ·exact q
 refine⟨h1,λk j hk =>?_,λy hy=>(h3' y hy).1,λy hy=>(h3' y hy).2.1,λy hy z =>?_⟩
 ·have hm:(j,k)∈js.zipIdx:=by
   rw[List.mem_zipIdx_iff_getElem?];exact hk
  have:=h2 (j,k) hm
  cases e:N'[nt+k]? with
  | none=>simp only[e] at this; cases this
  | some y=>
   simp only[e,Bool.and_eq_true,beq_iff_eq] at this;exact⟨y,rfl,by rw[hxn]; exact this.1,this.2⟩
 ·show X.env.scope.names.lookup y.1=some .cell\/X.env.scope.names.lookup y.1=some .free;rw[hosc];exact(h3' y hy).2.2 z
def z4f.cells {N':List Str}{nt:Nat}{js:List Nat}{scope:Scope}(c:z4f X N' nt js scope)(I:Inv X pins σ H s):∀x∈scope.names,x.2 = .free->∃a,X.env.cells.lookup x.1=some a:=λx hx hf=>I.ok.has x.1 (c.free x hx hf)
def z4f.clo {N':List Str}{nt:Nat}{js:List Nat}{scope:Scope}(c:z4f X N' nt js scope)(I:Inv X pins σ H s){y:Str}{a:Addr}(h:(z2J X.env scope.names []).lookup y=some a):X.env.cells.lookup y=some a/\(y,NameKind.free)∈scope.names:=by
 rcases zb7.mp (z1s h) with z | ⟨z1,z2⟩
 ·simp at z
 ·obtain⟨b,hb⟩:=c.cells I (y,.free) z1 rfl;have hb':X.env.cells.lookup y=some b:=hb;rw[hb'] at z2;exact⟨by rw[hb',z2]; rfl,z1⟩
def z4f.has {N':List Str}{nt:Nat}{js:List Nat}{scope:Scope}(c:z4f X N' nt js scope)(I:Inv X pins σ H s){y:Str}(h:(y,NameKind.free)∈scope.names):∃a,(z2J X.env scope.names []).lookup y=some a:=
 z4N (c:=(X.env.cells.lookup y).getD 0) (zb7.mpr (.inr ⟨h,rfl⟩))
def Inv.compG {scope:Scope}{N':List Str}{nt:Nat}{js:List Nat}{C:Addr}{fp:List Addr}{h1:Heap}{t1:Nat}(I:Inv X pins σ H s)(hk:scope.kind = .function)(c:z4f X N' nt js scope)
  (hC:s.heap.objs.size<=C) (hfp:∀b∈fp,FpOk X pins H b) (hfo:∀b∈fp,b<s.heap.objs.size) (keep:∀b o,s.heap.get? b=some o->h1.get? b=some o) (hns:∃m,h1.Ns C m) (hc:X.calm=true):
  Inv (X.compG scope N' C s H fp) [] (List.replicate nt none++js.map λj=>(σ[j]?).getD none) H { s with heap:=h1,toks:=t1 }:=by
 have nofs:∀b∈fp,b ∉ frs X.stack:=λb hb z=>by
  rcases List.mem_cons.mp (I.stkSub b z) with q | q
  ·exact(hfp b hb).2.1 q
  ·exact(hfp b hb).2.2.1 q
 have nobase:∀b o,X.base.get? b=some o->b ∉ fp:=λb o e hb=>by
  have e2:=(I.ok.bs b o e).1
  rcases(hfp b hb).2.2.2.1 with z | z
  ·exact I.ok.noex b o e z
  ·exact absurd (Nat.lt_of_lt_of_le (Heap.lt_size e2) z) (Nat.lt_irrefl _)
 have kd:∀{y:Str},((compEnvC scope (z2J X.env scope.names []) C X.env).kindOf y=some .cell\/(compEnvC scope (z2J X.env scope.names []) C X.env).kindOf y=some .free)->(y,NameKind.free)∈scope.names:=λ{y} q=>by
  rcases q with q | q
  ·rcases z3W (env:=X.env) q with z | ⟨_,z⟩
   ·exact absurd rfl (c.nocell _ (z1s z))
   ·exact z1s z
  ·rcases z3W (env:=X.env) q with z | ⟨z,_⟩
   ·exact z1s z
   ·cases z
 have cell:∀{a:Addr}{v:Option Value},s.heap.IsCell a v->h1.IsCell a v:=λ⟨o,ho,hd⟩=>⟨o,keep _ _ ho,hd⟩
 obtain⟨m1,hm1⟩:=hns;refine⟨⟨I.ok.mod,hk,I.ok.glob,I.ok.blt,hC,(λy z a e1 e2=>I.ok.inj y z a (c.clo I e1).1 (c.clo I e2).1),(λy q=>c.has I (kd q)),(λy a hf e =>?_),(λ_=>I.ok.hd hc),I.ok.frames,.inl rfl,(λb hb=>⟨Nat.ne_of_lt (Nat.lt_of_lt_of_le (hfo b hb) hC),(λy a e=>(hfp b hb).2.2.2.2.1 y a (c.clo I e).1)⟩),(λb o e=>⟨I.bk b o e,(I.bs b o e).2⟩),Nat.le_trans I.ok.bsz I.sz,nobase,nofs,I.stack,I.stkFree,I.tbs⟩,
  rfl,I.bare,Un.kept keep,⟨m1,hm1,(λi y v e1 e2 hv =>?_)⟩,(λy a e =>?_),I.hok.fresh hC,(λy a e=>I.freeC y a (c.clo I e).1),(λp hp=>by simp at hp),I.hok.kept keep,?_⟩
 ·have hf':((z2J X.env scope.names []).lookup y).isNone=true:=hf;have e':(z2J X.env scope.names []).lookup y=some a:=e;rw[e'] at hf'
  cases hf'
 ·rcases Nat.lt_or_ge i nt with hi | hi
  ·rw[List.getElem?_append_left (by simpa using hi),List.getElem?_replicate] at e2;rw[if_pos hi] at e2
   cases e2
  ·rw[List.getElem?_append_right (by simpa using hi),List.length_replicate,List.getElem?_map] at e2
   cases ej:js[i - nt]? with
   | none=>rw[ej] at e2; cases e2
   | some j=>
    rw[ej] at e2;obtain⟨y',q1,q2,q3⟩:=c.cap _ _ ej;have hi':nt+(i - nt)=i:=by omega
    rw[hi'] at q1;have e1':N'[i]? = some y:=e1;rw[q1] at e1'
    cases e1'
    have e2:some ((σ[j]?).getD none)=some (some v):=e2;have hσ:σ[j]? = some (some v):=by
     cases ez:σ[j]? with
     | none=>rw[ez] at e2; cases e2
     | some z=>rw[ez] at e2; exact congrArg some (Option.some.inj e2)
    have hkX:=c.free _ (z1s q3) rfl;obtain⟨m,hn,hl⟩:=I.loc;obtain⟨u,r,l⟩:=hl j y v q2 hσ (.inr hkX);refine⟨u,r,.inr ⟨z3m (env:=X.env) q3,?_⟩⟩
    rcases l with ⟨l,_⟩ | ⟨_,a,ha,hcell⟩
    ·have l':X.env.kindOf y=some .local:=l
     rcases hkX with z | z
     ·rw[l'] at z; cases z
     ·rw[l'] at z; cases z
    ·obtain⟨b,hb⟩:=c.has I (z1s q3);have:=(c.clo I hb).1;rw[ha] at this
     cases this
     exact⟨a,hb,cell hcell⟩
 ·obtain⟨v,z⟩:=I.cell y a (c.clo I e).1;exact⟨v,cell z⟩
 ·show (List.replicate nt none++js.map λj=>(σ[j]?).getD none).length=N'.length;rw[List.length_append,List.length_replicate,List.length_map,c.len]
def zir {elt iter target:Expr}{ct:Option Expr}{pos:Pos}{scope:Scope}{wi:TI}{g:TG}{tc:TT}{te:TE}{N':List Str}{nt:Nat}{js:List Nat}(hc:X.calm=true)(hi:PI X target iter wi)(hk:scope.kind = .function)(cp:z4f X N' nt js scope)
  (hg:∀(C:Addr) (s:Shared) (H:Hp) (fp:List Addr),PG (X.compG scope N' C s H fp) target g)
  (ht:match ct with
   | none=>tc=z76
   | some c=>∀(C:Addr) (s:Shared) (H:Hp) (fp:List Addr),PT (X.compG scope N' C s H fp) c tc)
  (he:∀(C:Addr) (s:Shared) (H:Hp) (fp:List Addr),PE (X.compG scope N' C s H fp) elt te) (hs:∀x,foldedSetIterable iter X.env x=pure x:=by intro _; rfl):PE X (.ListComp elt [⟨target,iter,ct.toList,0⟩] scope pos) (tLcG wi g tc te nt js):=by
 intro pins s σ H Q I h;rw[eval_ListComp];refine wpAny_comprehension_free (use:=none) rfl hs (z4w (cp.cells I)) hk cp.loc (thn (hi pins s σ H _ I h) λv s1 h1=>thn h1 λitv s2 h2 =>?_);obtain⟨it,fp,tn,J,H2,e,I2,T,st2,f2,W,⟨m0,w0⟩,turn⟩:=h2;subst e;have hfo:∀b∈fp,b<s2.heap.objs.size:=λb hb=>by
  obtain⟨o,e,_⟩:=T.obj _ _ st2 b hb;exact Heap.lt_size e
 refine wpAny_newObj_type (wpAny_newFunctionEnv cp.nocell (by intro y hy; simp at hy) (λg1 hns1 hsb1 =>?_) hk);dsimp only at hns1 hsb1 ⊢;generalize hG2:s2.heap.push { cls :=.type "list",dict:=none,data :=.seq ([]:List Value).toArray }=G2 at hns1 hsb1 ⊢;have hC:G2.objs.size=s2.heap.objs.size+1:=by rw[<- hG2,Heap.size_push]
 have hDC:s2.heap.objs.size≠G2.objs.size:=by rw[hC]; exact Nat.ne_of_lt (Nat.lt_succ_self _)
 have below:∀b,b<s2.heap.objs.size->b≠G2.objs.size/\b≠s2.heap.objs.size:=λb hb=>⟨by rw[hC]; exact Nat.ne_of_lt (Nat.lt_succ_of_lt hb),Nat.ne_of_lt hb⟩
 have old:∀b o,s2.heap.get? b=some o->g1.get? b=some o:=λb o e=>hsb1.extBut b o (below b (Heap.lt_size e)).1 (Heap.get?_push_of_some _ (hG2 ▸ Heap.get?_push_of_some _ e));have hacc:g1.get? s2.heap.objs.size=some { cls :=.type "list",data :=.seq ([]:List Value).toArray 0 }:=hsb1.extBut _ _ hDC (Heap.get?_push_of_some _ (hG2 ▸ Heap.get?_push_size _ rfl));have hCge:s2.heap.objs.size<=G2.objs.size:=by rw[hC]; exact Nat.le_succ _
 have cellD:∀y a,X.env.cells.lookup y=some a->a<s2.heap.objs.size:=λy a e=>by
  obtain⟨v,o,ho,_⟩:=I2.cell y a e;exact Heap.lt_size ho
 generalize hCC:G2.objs.size=C at*;generalize hDD:s2.heap.objs.size=D at*
 let Y:Cx:=X.compG scope N' C s2 H2 fp
 have IY:Inv Y [] (List.replicate nt none++js.map λj=>(σ[j]?).getD none) H2 { s2 with heap:=g1,toks:=s2.toks+([]:List (Str × Value)).length }:=I2.compG hk cp (by rw[hDD]; exact hCge) f2 (by rw[hDD]; exact hfo) old ⟨_,hns1⟩ hc;have fpD:∀b∈fp,b≠D:=λb hb=>(below b (hfo b hb)).2;have fpC:∀b∈fp,b≠C:=λb hb=>(below b (hfo b hb)).1;have H2D:H2 D=none:=I2.hok.fresh (by rw[hDD]; exact Nat.le_refl _);have Dnf:D ∉ frs X.stack:=λz=>by
  obtain⟨_,o,e,_⟩:=I2.stack.mem z;exact absurd (Heap.lt_size e) (by rw[hDD]; exact Nat.lt_irrefl _)
 have stat:∀{H':Hp}{pl:List (Addr × Obj)},(∀b∈fp,H' b=none)->(∀p∈pl,p.1=D)->∀b∈fp,FpOk Y pl H' b:=λhn hp b hb=>⟨hn b hb,fpC b hb,(λz=>IY.ok.exfs b hb z),.inl hb,(λy a e=>(f2 b hb).2.2.2.2.1 y a (cp.clo I2 e).1),λp hp' z=>fpD b hb (z.symm.trans (hp p (by simpa[Y] using hp')))⟩
 have loop:∀s3:Shared,s3={ s2 with heap:=g1,toks:=s2.toks+([]:List (Str × Value)).length }->
   codeAny (model X.prog X.w) X.A (.compLoop (.ListComp elt [⟨target,iter,ct.toList,0⟩] scope pos) 0 (.ref it) (.ref D) (compEnvC scope (z2J X.env scope.names []) C X.env)) (compPost (model X.prog X.w) X.A X.xe none (EP X pins σ Q) (.ref D) C) s3:=by
  intro s3 e3;refine z6P (λn s'=>∃i ys its σ' H',Inv Y [] σ' H' s'/\s'.heap.get? D=some { cls :=.type "list",data :=.seq (its:List Value).toArray its.length }/\Vals ys its/\H' D=none/\tn i s'.heap/\(∀b∈fp,H' b=none)/\W i n ys σ' H') ?_ m0 ⟨0,[],[],_,H2,e3 ▸ IY,?_,.nil,H2D,?_,λb hb=>(f2 b hb).1,w0⟩
  ·rintro n s4 ⟨i,ys,its,σ4,H4,I4,hD4,hv4,hn4,st4,fr4,w4⟩;obtain⟨hsz,step⟩:=turn i n ys σ4 H4 w4;have hl4:ys.length=its.length:=hv4.length;have I4p:Inv Y [(D,{ cls :=.type "list",data :=.seq its.toArray its.length })] σ4 H4 s4:=I4.pins_of λp hp=>by
    rw[List.mem_singleton.mp hp];exact⟨hD4,hn4,hDC,Dnf,λv z=>by cases z⟩
   have one:∀p∈[((D:Addr),({ cls :=.type "list",data :=.seq its.toArray its.length }:Obj))],p.1=D:=λp hp=>by rw[List.mem_singleton.mp hp]
   rcases step with ⟨stop,qn⟩ | ⟨go,step⟩
   ·refine wpAny_mono (T.done Y rfl rfl rfl hc i _ s4 σ4 H4 (λ_ _=>False) I4p (stat fr4 one) st4 stop) (λr s5 hr =>?_) λ_ _ z=>z.elim;obtain⟨rfl,I5⟩:=hr;have hD5:s5.heap.get? D=some { cls :=.type "list",data :=.seq its.toArray its.length }:=(I5.pin (D,_) (by simp)).1;obtain⟨m5,hm5,_⟩:=I5.loc;refine⟨m5,hm5,λh' sb =>?_⟩;have U:Un (frs X.stack) fp H2 H4 s2.heap s5.heap:=I5.base;have nC:∀b o,s2.heap.get? b=some o->b≠C:=λb o e=>(below b (hDD ▸ Heap.lt_size e)).1;have nD:∀b o,s2.heap.get? b=some o->b≠D:=λb o e=>(below b (hDD ▸ Heap.lt_size e)).2;have ex:∀b o,b≠C->s5.heap.get? b=some o->h'.get? b=some o:=λb o n e=>sb.extBut b o n e;have U':Un (frs X.stack) fp H2 (upd H4 D (.lst ys)) s2.heap h':=⟨λb o e n hb hx'=>ex b o (nC b o e) (U.keep b o e n hb hx'),λb o e n hb hx'=>by
      obtain⟨sl,q⟩:=U.slot b o e n hb hx';exact⟨sl,ex b _ (nC b o e) q⟩,λb o e n hx'=>by rw[z0f (nD b o e)]; exact U.free b o e n hx',λb o e hx'=>by
      obtain⟨o',q⟩:=U.there b o e hx';exact⟨o',ex b _ (nC b o e) q⟩,λb xs e=>by rw[z0f (z0v (U.tups b xs e) hn4)]; exact U.tups b xs e,λb o xs e=>by rw[z0f (z0v (U.frzs b o xs e) hn4)]; exact U.frzs b o xs e,λb ps e=>by
      obtain⟨more,q⟩:=U.tbls b ps e;exact⟨more,by rw[z0f (z0v q hn4)]; exact q⟩⟩
    have ok1:HOk X.prog X.w H4 h':=HOk.other I5.hok I5.free λb u n e=>ex b u n e;have ok2:HOk X.prog X.w (upd H4 D (.lst ys)) h':=ok1.track hn4 ⟨Nat.le_of_lt hsz,its,_,hv4,ex D _ hDC hD5⟩;exact⟨.ref D,upd H4 D (.lst ys),I2.call' (s':={ s5 with heap:=h' }) I5.os U' ok2 I5.bare (λb hb=>⟨(f2 b hb).2.2.2.1,(f2 b hb).2.1,(f2 b hb).2.2.2.2.1,(f2 b hb).2.2.2.2.2⟩),rfl,qn D hn4⟩
   ·refine wpAny_mono (T.item Y rfl rfl rfl hc i _ s4 σ4 H4 (λ_ _=>False) I4p (stat fr4 one) st4 go) (λr s5 hr =>?_) λ_ _ z=>z.elim;obtain⟨u,rfl,h5⟩:=hr;refine wpAny_mono h5 (λ_ s6 h6 =>?_) λ_ _ z=>z.elim;obtain⟨xv,H6,I6,r6,y6,st6,fr6⟩:=h6;have I6p:=I6.pinned (stat fr6 one) (T.obj _ _ st6);have after:∀{σ8:St}{H8:Hp}{s8:Shared},Inv Y _ σ8 H8 s8->_:=λ{σ8 H8 s8} (I8:Inv Y ([(D,{ cls :=.type "list",data :=.seq its.toArray its.length })]++z6G fp s6.heap) σ8 H8 s8)=>
     (show (s8.heap.get? D=some { cls :=.type "list",data :=.seq its.toArray its.length }/\H8 D=none)/\tn (i+1) s8.heap/\(∀b∈fp,H8 b=none)/\Inv Y [] σ8 H8 s8 from by
      have pD:=I8.pin (D,{ cls :=.type "list",data :=.seq its.toArray its.length }) (by simp);refine⟨⟨pD.1,pD.2.1⟩,T.keep _ _ _ st6 λb hb o e=>(I8.pin (b,o) (List.mem_append_right _ (List.mem_append_right _ (z3a hb e)))).1,λb hb =>?_,I8.pins_of (pins':=[]) λp hp=>by simp at hp⟩;obtain⟨o,e,d⟩:=T.obj _ _ st6 b hb;exact(I8.pin (b,o) (List.mem_append_right _ (List.mem_append_right _ (z3a hb e)))).2.1)
    refine wpAny_mono (hg C s2 H2 fp _ s6 σ4 H6 xv u _ I6p r6 (step xv H6 y6)) (λ_ s7 h7 =>?_) λ_ _ z=>z.elim;obtain⟨σ7,H7,I7,q7⟩:=h7;have yes:∀s7' H7',Inv Y _ σ7 H7' s7'->(te σ7 H7' λy H3=>∃m',m'<n/\W (i+1) m' (ys++[y]) σ7 H3)->_:=λs7' H7' (I7':Inv Y ([(D,{ cls :=.type "list",data :=.seq its.toArray its.length })]++z6G fp s6.heap) σ7 H7' s7') qe=>
     wpAny_mono (Q':=λyv s8=>wpAny (model X.prog X.w) X.A (call (.builtin "list.append") [.ref D,yv]) (λ_ s6=>∃m,m<n/\∃i ys its σ' H',Inv Y [] σ' H' s6/\s6.heap.get? D=some { cls :=.type "list",data :=.seq (its:List Value).toArray its.length }/\Vals ys its/\H' D=none/\tn i s6.heap/\(∀b∈fp,H' b=none)/\W i m ys σ' H') (notedBy (model X.prog X.w) X.A (compEnvC scope (z2J X.env scope.names []) C X.env) λe s'=>compPost (model X.prog X.w) X.A X.xe none (EP X pins σ Q) (.ref D) C (.error e) s') s8) (he C s2 H2 fp _ s7' σ7 H7' _ I7' qe) (λyv s8 h8=>by
      obtain⟨y,H8,I8,r8,m',hm',w8⟩:=h8;obtain⟨⟨pD1,pD2⟩,st8,fr8,I8u⟩:=after I8;refine append_at (hsz:=by rw[List.size_toArray, <- hl4]; exact Nat.le_of_lt hsz) pD1 λh9 sb9 hD9 =>?_;refine⟨m',hm',i+1,ys++[y],its++[yv],σ7,H8,I8u.turned (it:=D) (t':=s8.toks) (λb o n e=>sb9.extBut b o n e) pD2 hDC (.inr (by rw[hDD]; exact Nat.le_refl _)) (λy a e z=>by
        have:=cellD y a (cp.clo I2 e).1;rw[z] at this;exact Nat.lt_irrefl _ this) (λp hp=>by simp[Y] at hp),?_,Vals.append hv4 (.cons r8 .nil),pD2,T.keep _ _ _ st8 λb hb o e=>sb9.extBut b o (fpD b hb) e,fr8,w8⟩
      show h9.get? D=_;rw[hD9];simp) (E':=notedBy (model X.prog X.w) X.A (compEnvC scope (z2J X.env scope.names []) C X.env) λe s'=>compPost (model X.prog X.w) X.A X.xe none (EP X pins σ Q) (.ref D) C (.error e) s') (λ_ _ z=>z.elim)
    cases ct with
    | none=>
     have ht':tc=z76:=ht;subst ht';simp only[zfD,if_true];have q7':if true=true then te σ7 H7 λy H3=>∃m',m'<n/\W (i+1) m' (ys++[y]) σ7 H3 else ∃m',m'<n/\W (i+1) m' ys σ7 H7:=q7
     rw[if_pos rfl] at q7';exact yes s7 H7 I7 q7'
    | some c=>
     refine wpAny_mono (ht C s2 H2 fp _ s7 σ7 H7 _ I7 q7) (λb s8 h8 =>?_) λ_ _ z=>z.elim;obtain⟨H8,I8,q8⟩:=h8
     cases b with
     | true=>
      rw[if_pos rfl] at q8 ⊢;exact yes s8 H8 I8 q8
     | false=>
      rw[if_neg Bool.false_ne_true] at q8 ⊢;obtain⟨m',hm',w8⟩:=q8;obtain⟨⟨pD1,pD2⟩,st8,fr8,I8u⟩:=after I8;exact⟨m',hm',i+1,ys,its,σ7,H8,I8u,pD1,hv4,pD2,st8,fr8,w8⟩
  ·rw[e3]; exact hacc
  ·rw[e3]; exact T.keep _ _ _ st2 λb _ o e=>old b o e
 exact codeAny_compStart_list (loop _ rfl) (T.self _ 0 _ _ _ (T.keep _ _ _ st2 λb _ o e=>old b o e) (loop _ rfl))
def zia {elt iter target:Expr}{ct:Option Expr}{pos:Pos}{scope:Scope}{wi:TI}{g:TG}{tc:TT}{te:TE}{N':List Str}{nt:Nat}{js:List Nat}(hc:X.calm=true)(hi:QI X target iter wi)(hk:scope.kind = .function)(cp:z4f X N' nt js scope)
  (hg:∀(C:Addr) (s:Shared) (H:Hp) (fp:List Addr),QG (X.compG scope N' C s H fp) target g)
  (ht:match ct with
   | none=>tc=z76
   | some c=>∀(C:Addr) (s:Shared) (H:Hp) (fp:List Addr),QT (X.compG scope N' C s H fp) c tc)
  (he:∀(C:Addr) (s:Shared) (H:Hp) (fp:List Addr),QE (X.compG scope N' C s H fp) elt te) (hs:∀x,foldedSetIterable iter X.env x=pure x:=by intro _; rfl):QE X (.ListComp elt [⟨target,iter,ct.toList,0⟩] scope pos) (tLcG wi g tc te nt js):=by
 refine⟨zir hc hi.p hk cp (λC s H fp=>(hg C s H fp).p) ?_ (λC s H fp=>(he C s H fp).p) hs⟩
 cases ct with
 | none=>exact ht
 | some c=>exact λC s H fp=>(ht C s H fp).p
def zk0 {i:Nat}{x:Str}{pos:Pos}(hN:X.N.Nodup)(hi:X.N[i]? = some x)(hx:X.env.scope.names.lookup x=some .local):QG X (.Name x pos) (z6x i):=⟨zdr hN hi (.inl hx) (.inr hx)⟩
end
def zcF:∀(ns:List Int) {us:List Value},Vals (ns.map V.int) us->∃l:List (Int × Tok),us=l.map (λp=>Value.int p.1 p.2)/\l.map (·.1)=ns
 | [],_,r=>by cases r; exact⟨[],rfl,rfl⟩
 | n::ns,_,r=>by
  cases r with
  | cons r1 r2=>
   obtain⟨t,rfl⟩:=(show ∃t,_=Value.int n t from r1)
   obtain⟨l,rfl,hl⟩:=zcF ns r2;exact⟨(n,t)::l,rfl,by rw[List.map_cons,hl]⟩
def z8E (bt:Nat->Nat->Bool):∀k,argBest bt k<=k
 | 0=>Nat.le_refl _
 | k+1=>by
  rw[argBest]
  split
  ·exact Nat.le_refl _
  ·exact Nat.le_succ_of_le (z8E bt k)
def z7K (f:Nat->Int):∀k j,j<=k->f j<=f (argBest (λi j=>decide (f i > f j)) k)
 | 0,j,h=>by
  have:j=0:=by omega
  subst this;exact Int.le_refl _
 | k+1,j,h=>by
  have ih:=z7K f k;rw[argBest]
  by_cases hb:f (k+1) > f (argBest (λi j=>decide (f i > f j)) k)
  ·rw[if_pos (decide_eq_true hb)]
   rcases Nat.lt_or_ge j (k+1) with hj | hj
   ·have:=ih j (by omega); omega
   ·have:j=k+1:=by omega
    subst this;exact Int.le_refl _
  ·rw[if_neg (by rw[decide_eq_false hb]; exact Bool.false_ne_true)]
   rcases Nat.lt_or_ge j (k+1) with hj | hj
   ·exact ih j (by omega)
   ·have:j=k+1:=by omega
    subst this;omega
section
variable {X:Cx}
def z2p.imp {f:Value}{r r':List V->Hp->VK->Prop}(h:z2p X f r)(i:∀xs H Q,r' xs H Q->r xs H Q):z2p X f r':=λpins s σ H xs us Q I rv q=>h pins s σ H xs us Q I rv (i xs H Q q)
end
section
variable {X:Cx}{pins:List (Addr × Obj)}{σ:St}{H:Hp}{s:Shared}
def zik {elt iter target:Expr}{ct:Option Expr}{pos spos py:Pos}{y:Str}{iy:Nat}(hN:X.N.Nodup)(hiy:X.N[iy]? = some y)(hly:X.env.scope.names.lookup y=some .local){scope:Scope}{wi:TI}{g:TG}{tc:TT}{te:TE}{N':List Str}{nt:Nat}{js:List Nat}(hc:X.calm=true)(hi:PI X target iter wi)(hk:scope.kind = .function)(cp:z4f X N' nt js scope)
  (hg:∀(C:Addr) (s:Shared) (H:Hp) (fp:List Addr),PG (X.compG scope N' C s H fp) target g)
  (ht:match ct with
   | none=>tc=z76
   | some c=>∀(C:Addr) (s:Shared) (H:Hp) (fp:List Addr),PT (X.compG scope N' C s H fp) c tc)
  (he:∀(C:Addr) (s:Shared) (H:Hp) (fp:List Addr),PE (X.compG scope N' C s H fp) elt te) (hsw:swapsWith (.ListComp elt [⟨target,iter,ct.toList,0⟩] scope pos) (some (.Name y py)) spos.line X.env=pure true:=by rfl) (hs:∀x,foldedSetIterable iter X.env x=pure x:=by intro _; rfl):PS X (.Assign [.Name y py] (.ListComp elt [⟨target,iter,ct.toList,0⟩] scope pos) spos) (tAsg (tLcG wi g tc te nt js) (z6x iy)):=by
 intro pins s σ H Dn I h;rw[exec_Assign_Name_used _ _ _ _ hsw];refine wpAny_bind (wpAny_standAt (wpAny_bind ?_));show wpAny _ X.A (do let _ <- comprehension (.ListComp elt [⟨target,iter,ct.toList,0⟩] scope pos) scope X.env _ (newList []) false (eval iter X.env) (some (assign (.Name y py) X.env))) _ _ s;refine wpAny_bind (wpAny_mono (wpAny_comprehension_free (use:=some (assign (.Name y py) X.env)) (Q:=λ_ s'=>SP X pins Dn .next s') rfl hs (z4w (cp.cells I)) hk cp.loc (thn (hi pins s σ H _ I h) λv s1 h1=>thn h1 λitv s2 h2 =>?_)) (λ_ s' hq=>wpAny_pure (wpAny_pure hq)) λ_ _ e=>e);obtain⟨it,fp,tn,J,H2,e,I2,T,st2,f2,W,⟨m0,w0⟩,turn⟩:=h2;subst e;have hfo:∀b∈fp,b<s2.heap.objs.size:=λb hb=>by
  obtain⟨o,e,_⟩:=T.obj _ _ st2 b hb;exact Heap.lt_size e
 refine wpAny_newObj_type (wpAny_newFunctionEnv cp.nocell (by intro y hy; simp at hy) (λg1 hns1 hsb1 =>?_) hk);dsimp only at hns1 hsb1 ⊢;generalize hG2:s2.heap.push { cls :=.type "list",dict:=none,data :=.seq ([]:List Value).toArray }=G2 at hns1 hsb1 ⊢;have hC:G2.objs.size=s2.heap.objs.size+1:=by rw[<- hG2,Heap.size_push]
 have hDC:s2.heap.objs.size≠G2.objs.size:=by rw[hC]; exact Nat.ne_of_lt (Nat.lt_succ_self _)
 have below:∀b,b<s2.heap.objs.size->b≠G2.objs.size/\b≠s2.heap.objs.size:=λb hb=>⟨by rw[hC]; exact Nat.ne_of_lt (Nat.lt_succ_of_lt hb),Nat.ne_of_lt hb⟩
 have old:∀b o,s2.heap.get? b=some o->g1.get? b=some o:=λb o e=>hsb1.extBut b o (below b (Heap.lt_size e)).1 (Heap.get?_push_of_some _ (hG2 ▸ Heap.get?_push_of_some _ e));have hacc:g1.get? s2.heap.objs.size=some { cls :=.type "list",data :=.seq ([]:List Value).toArray 0 }:=hsb1.extBut _ _ hDC (Heap.get?_push_of_some _ (hG2 ▸ Heap.get?_push_size _ rfl));have hCge:s2.heap.objs.size<=G2.objs.size:=by rw[hC]; exact Nat.le_succ _
 have cellD:∀y a,X.env.cells.lookup y=some a->a<s2.heap.objs.size:=λy a e=>by
  obtain⟨v,o,ho,_⟩:=I2.cell y a e;exact Heap.lt_size ho
 generalize hCC:G2.objs.size=C at*;generalize hDD:s2.heap.objs.size=D at*
 let Y:Cx:=X.compG scope N' C s2 H2 fp
 have IY:Inv Y [] (List.replicate nt none++js.map λj=>(σ[j]?).getD none) H2 { s2 with heap:=g1,toks:=s2.toks+([]:List (Str × Value)).length }:=I2.compG hk cp (by rw[hDD]; exact hCge) f2 (by rw[hDD]; exact hfo) old ⟨_,hns1⟩ hc;have fpD:∀b∈fp,b≠D:=λb hb=>(below b (hfo b hb)).2;have fpC:∀b∈fp,b≠C:=λb hb=>(below b (hfo b hb)).1;have H2D:H2 D=none:=I2.hok.fresh (by rw[hDD]; exact Nat.le_refl _);have Dnf:D ∉ frs X.stack:=λz=>by
  obtain⟨_,o,e,_⟩:=I2.stack.mem z;exact absurd (Heap.lt_size e) (by rw[hDD]; exact Nat.lt_irrefl _)
 have stat:∀{H':Hp}{pl:List (Addr × Obj)},(∀b∈fp,H' b=none)->(∀p∈pl,p.1=D)->∀b∈fp,FpOk Y pl H' b:=λhn hp b hb=>⟨hn b hb,fpC b hb,(λz=>IY.ok.exfs b hb z),.inl hb,(λy a e=>(f2 b hb).2.2.2.2.1 y a (cp.clo I2 e).1),λp hp' z=>fpD b hb (z.symm.trans (hp p (by simpa[Y] using hp')))⟩
 have loop:∀s3:Shared,s3={ s2 with heap:=g1,toks:=s2.toks+([]:List (Str × Value)).length }->
   codeAny (model X.prog X.w) X.A (.compLoop (.ListComp elt [⟨target,iter,ct.toList,0⟩] scope pos) 0 (.ref it) (.ref D) (compEnvC scope (z2J X.env scope.names []) C X.env)) (compPost (model X.prog X.w) X.A X.xe (some (assign (.Name y py) X.env)) (λ_ s'=>SP X pins Dn .next s') (.ref D) C) s3:=by
  intro s3 e3;refine z6P (λn s'=>∃i ys its σ' H',Inv Y [] σ' H' s'/\s'.heap.get? D=some { cls :=.type "list",data :=.seq (its:List Value).toArray its.length }/\Vals ys its/\H' D=none/\tn i s'.heap/\(∀b∈fp,H' b=none)/\W i n ys σ' H') ?_ m0 ⟨0,[],[],_,H2,e3 ▸ IY,?_,.nil,H2D,?_,λb hb=>(f2 b hb).1,w0⟩
  ·rintro n s4 ⟨i,ys,its,σ4,H4,I4,hD4,hv4,hn4,st4,fr4,w4⟩;obtain⟨hsz,step⟩:=turn i n ys σ4 H4 w4;have hl4:ys.length=its.length:=hv4.length;have I4p:Inv Y [(D,{ cls :=.type "list",data :=.seq its.toArray its.length })] σ4 H4 s4:=I4.pins_of λp hp=>by
    rw[List.mem_singleton.mp hp];exact⟨hD4,hn4,hDC,Dnf,λv z=>by cases z⟩
   have one:∀p∈[((D:Addr),({ cls :=.type "list",data :=.seq its.toArray its.length }:Obj))],p.1=D:=λp hp=>by rw[List.mem_singleton.mp hp]
   rcases step with ⟨stop,qn⟩ | ⟨go,step⟩
   ·refine wpAny_mono (T.done Y rfl rfl rfl hc i _ s4 σ4 H4 (λ_ _=>False) I4p (stat fr4 one) st4 stop) (λr s5 hr =>?_) λ_ _ z=>z.elim;obtain⟨rfl,I5⟩:=hr;have hD5:s5.heap.get? D=some { cls :=.type "list",data :=.seq its.toArray its.length }:=(I5.pin (D,_) (by simp)).1;obtain⟨m5,hm5,_⟩:=I5.loc;have U:Un (frs X.stack) fp H2 H4 s2.heap s5.heap:=I5.base;have nC:∀b o,s2.heap.get? b=some o->b≠C:=λb o e=>(below b (hDD ▸ Heap.lt_size e)).1;have nD:∀b o,s2.heap.get? b=some o->b≠D:=λb o e=>(below b (hDD ▸ Heap.lt_size e)).2;have U':Un (frs X.stack) fp H2 (upd H4 D (.lst ys)) s2.heap s5.heap:=⟨U.keep,U.slot,λb o e n hx'=>by rw[z0f (nD b o e)]; exact U.free b o e n hx',U.there,λb xs e=>by rw[z0f (z0v (U.tups b xs e) hn4)]; exact U.tups b xs e,λb o xs e=>by rw[z0f (z0v (U.frzs b o xs e) hn4)]; exact U.frzs b o xs e,λb ps e=>by
      obtain⟨more,q⟩:=U.tbls b ps e;exact⟨more,by rw[z0f (z0v q hn4)]; exact q⟩⟩
    have ok2:HOk X.prog X.w (upd H4 D (.lst ys)) s5.heap:=HOk.track I5.hok hn4 ⟨Nat.le_of_lt hsz,its,_,hv4,hD5⟩;have I6:Inv X pins σ (upd H4 D (.lst ys)) s5:=I2.call' (s':=s5) I5.os U' ok2 I5.bare (λb hb=>⟨(f2 b hb).2.2.2.1,(f2 b hb).2.1,(f2 b hb).2.2.2.2.1,(f2 b hb).2.2.2.2.2⟩);show wpAny _ X.A (assign (.Name y py) X.env (.ref D)) _ _ _;refine wpAny_assign_Name (z9J I6 hN hiy (.inl hly) (show RelV (.ref D) (.ref D) from rfl) (λs7 I7 hs7 =>?_) (.inr hly));obtain⟨c7,sb7,hc7⟩:=hs7;have lt2:X.env.locals<D:=by rw[<- hDD]; exact I2.lt
    have c7C:c7≠C:=by
     rcases hc7 with z | z
     ·rw[z]; exact Nat.ne_of_lt (Nat.lt_of_lt_of_le lt2 hCge)
     ·exact Nat.ne_of_lt (Nat.lt_of_lt_of_le (cellD _ _ z) hCge)
    refine⟨m5,hm5.sameBut sb7 (Ne.symm c7C),λh' sb =>?_⟩;refine⟨_,_,I7.turned (it:=C) (t':=s7.toks) (λb o n e=>sb.extBut b o n e) (by rw[z0f (Ne.symm hDC)]; exact I5.free) (Nat.ne_of_gt (Nat.lt_of_lt_of_le lt2 hCge)) (.inr (Nat.le_trans I2.sz (by rw[hDD]; exact hCge))) (λx a e z =>?_) (λp hp z =>?_),qn D hn4⟩
    ·have:=cellD x a e;rw[z] at this;exact absurd (Nat.lt_of_lt_of_le this hCge) (Nat.lt_irrefl _)
    ·have:=Heap.lt_size (I2.pin p hp).1;rw[z,hDD] at this;exact absurd (Nat.lt_of_lt_of_le this hCge) (Nat.lt_irrefl _)
   ·refine wpAny_mono (T.item Y rfl rfl rfl hc i _ s4 σ4 H4 (λ_ _=>False) I4p (stat fr4 one) st4 go) (λr s5 hr =>?_) λ_ _ z=>z.elim;obtain⟨u,rfl,h5⟩:=hr;refine wpAny_mono h5 (λ_ s6 h6 =>?_) λ_ _ z=>z.elim;obtain⟨xv,H6,I6,r6,y6,st6,fr6⟩:=h6;have I6p:=I6.pinned (stat fr6 one) (T.obj _ _ st6);have after:∀{σ8:St}{H8:Hp}{s8:Shared},Inv Y _ σ8 H8 s8->_:=λ{σ8 H8 s8} (I8:Inv Y ([(D,{ cls :=.type "list",data :=.seq its.toArray its.length })]++z6G fp s6.heap) σ8 H8 s8)=>
     (show (s8.heap.get? D=some { cls :=.type "list",data :=.seq its.toArray its.length }/\H8 D=none)/\tn (i+1) s8.heap/\(∀b∈fp,H8 b=none)/\Inv Y [] σ8 H8 s8 from by
      have pD:=I8.pin (D,{ cls :=.type "list",data :=.seq its.toArray its.length }) (by simp);refine⟨⟨pD.1,pD.2.1⟩,T.keep _ _ _ st6 λb hb o e=>(I8.pin (b,o) (List.mem_append_right _ (List.mem_append_right _ (z3a hb e)))).1,λb hb =>?_,I8.pins_of (pins':=[]) λp hp=>by simp at hp⟩;obtain⟨o,e,d⟩:=T.obj _ _ st6 b hb;exact(I8.pin (b,o) (List.mem_append_right _ (List.mem_append_right _ (z3a hb e)))).2.1)
    refine wpAny_mono (hg C s2 H2 fp _ s6 σ4 H6 xv u _ I6p r6 (step xv H6 y6)) (λ_ s7 h7 =>?_) λ_ _ z=>z.elim;obtain⟨σ7,H7,I7,q7⟩:=h7;have yes:∀s7' H7',Inv Y _ σ7 H7' s7'->(te σ7 H7' λy H3=>∃m',m'<n/\W (i+1) m' (ys++[y]) σ7 H3)->_:=λs7' H7' (I7':Inv Y ([(D,{ cls :=.type "list",data :=.seq its.toArray its.length })]++z6G fp s6.heap) σ7 H7' s7') qe=>
     wpAny_mono (Q':=λyv s8=>wpAny (model X.prog X.w) X.A (call (.builtin "list.append") [.ref D,yv]) (λ_ s6=>∃m,m<n/\∃i ys its σ' H',Inv Y [] σ' H' s6/\s6.heap.get? D=some { cls :=.type "list",data :=.seq (its:List Value).toArray its.length }/\Vals ys its/\H' D=none/\tn i s6.heap/\(∀b∈fp,H' b=none)/\W i m ys σ' H') (notedBy (model X.prog X.w) X.A (compEnvC scope (z2J X.env scope.names []) C X.env) λe s'=>compPost (model X.prog X.w) X.A X.xe (some (assign (.Name y py) X.env)) (λ_ s'=>SP X pins Dn .next s') (.ref D) C (.error e) s') s8) (he C s2 H2 fp _ s7' σ7 H7' _ I7' qe) (λyv s8 h8=>by
      obtain⟨y,H8,I8,r8,m',hm',w8⟩:=h8;obtain⟨⟨pD1,pD2⟩,st8,fr8,I8u⟩:=after I8;refine append_at (hsz:=by rw[List.size_toArray, <- hl4]; exact Nat.le_of_lt hsz) pD1 λh9 sb9 hD9 =>?_;refine⟨m',hm',i+1,ys++[y],its++[yv],σ7,H8,I8u.turned (it:=D) (t':=s8.toks) (λb o n e=>sb9.extBut b o n e) pD2 hDC (.inr (by rw[hDD]; exact Nat.le_refl _)) (λy a e z=>by
        have:=cellD y a (cp.clo I2 e).1;rw[z] at this;exact Nat.lt_irrefl _ this) (λp hp=>by simp[Y] at hp),?_,Vals.append hv4 (.cons r8 .nil),pD2,T.keep _ _ _ st8 λb hb o e=>sb9.extBut b o (fpD b hb) e,fr8,w8⟩
      show h9.get? D=_;rw[hD9];simp) (E':=notedBy (model X.prog X.w) X.A (compEnvC scope (z2J X.env scope.names []) C X.env) λe s'=>compPost (model X.prog X.w) X.A X.xe (some (assign (.Name y py) X.env)) (λ_ s'=>SP X pins Dn .next s') (.ref D) C (.error e) s') (λ_ _ z=>z.elim)
    cases ct with
    | none=>
     have ht':tc=z76:=ht;subst ht';simp only[zfD,if_true];have q7':if true=true then te σ7 H7 λy H3=>∃m',m'<n/\W (i+1) m' (ys++[y]) σ7 H3 else ∃m',m'<n/\W (i+1) m' ys σ7 H7:=q7
     rw[if_pos rfl] at q7';exact yes s7 H7 I7 q7'
    | some c=>
     refine wpAny_mono (ht C s2 H2 fp _ s7 σ7 H7 _ I7 q7) (λb s8 h8 =>?_) λ_ _ z=>z.elim;obtain⟨H8,I8,q8⟩:=h8
     cases b with
     | true=>
      rw[if_pos rfl] at q8 ⊢;exact yes s8 H8 I8 q8
     | false=>
      rw[if_neg Bool.false_ne_true] at q8 ⊢;obtain⟨m',hm',w8⟩:=q8;obtain⟨⟨pD1,pD2⟩,st8,fr8,I8u⟩:=after I8;exact⟨m',hm',i+1,ys,its,σ7,H8,I8u,pD1,hv4,pD2,st8,fr8,w8⟩
  ·rw[e3]; exact hacc
  ·rw[e3]; exact T.keep _ _ _ st2 λb _ o e=>old b o e
 exact codeAny_compStart_list (loop _ rfl) (T.self _ 0 _ _ _ (T.keep _ _ _ st2 λb _ o e=>old b o e) (loop _ rfl))
def zi5 {elt iter target:Expr}{ct:Option Expr}{pos spos py:Pos}{y:Str}{iy:Nat}(hN:X.N.Nodup)(hiy:X.N[iy]? = some y)(hly:X.env.scope.names.lookup y=some .local){scope:Scope}{wi:TI}{g:TG}{tc:TT}{te:TE}{N':List Str}{nt:Nat}{js:List Nat}(hc:X.calm=true)(hi:QI X target iter wi)(hk:scope.kind = .function)(cp:z4f X N' nt js scope)
  (hg:∀(C:Addr) (s:Shared) (H:Hp) (fp:List Addr),QG (X.compG scope N' C s H fp) target g)
  (ht:match ct with
   | none=>tc=z76
   | some c=>∀(C:Addr) (s:Shared) (H:Hp) (fp:List Addr),QT (X.compG scope N' C s H fp) c tc)
  (he:∀(C:Addr) (s:Shared) (H:Hp) (fp:List Addr),QE (X.compG scope N' C s H fp) elt te) (hsw:swapsWith (.ListComp elt [⟨target,iter,ct.toList,0⟩] scope pos) (some (.Name y py)) spos.line X.env=pure true:=by rfl) (hs:∀x,foldedSetIterable iter X.env x=pure x:=by intro _; rfl):QS X (.Assign [.Name y py] (.ListComp elt [⟨target,iter,ct.toList,0⟩] scope pos) spos) (tAsg (tLcG wi g tc te nt js) (z6x iy)):=by
 refine⟨zik hN hiy hly hc hi.p hk cp (λC s H fp=>(hg C s H fp).p) ?_ (λC s H fp=>(he C s H fp).p) hsw hs⟩
 cases ct with
 | none=>exact ht
 | some c=>exact λC s H fp=>(ht C s H fp).p
end
end L2
namespace Pu
open PySem PySem.Spec PyProof.Rows L2
inductive D where
 | non | bl (b:Bool) | int (i:Int) | str (x:Str) | tup (l:List D) | lst (l:List D) | dct (ks vs:List D) | fn (n:Nat) | exc (x:Str)
instance:Inhabited D:=⟨.non⟩
def z6M:Nat->Str
 | 0=>"turn_by" | 1=>"turn_among" | 2=>"step_of" | 3=>"step_among" | _=>""
def kD:Key->D
 | .inl i =>.int i
 | .inr x =>.str x
section
variable (K:W.Frag)(mg:Str->Option Value)
mutual
/-- the value v stands for d,in the heap G -/
def RD (G:Hp):D->V->Prop
 | .non,v=>v = .non
 | .bl b,v=>v = .bl b
 | .int i,v=>v = .int i
 | .str x,v=>v = .str x
 | .tup ds,v=>∃a xs,v = .ref a/\SqT K G a xs/\RDs G ds xs
 | .lst ds,v=>∃a xs,v = .ref a/\SqL K G a xs/\RDs G ds xs
 | .dct ks vs,v=>∃a xs,v = .ref a/\RDs G vs xs/\((∃kvs:List (Key × V),G a=some (.dK kvs)/\ks=kvs.map (λp=>kD p.1)/\xs=kvs.map (·.2))\/∃kvs:List (List Key × V),G a=some (.dT kvs)/\ks=kvs.map (λp =>.tup (p.1.map kD))/\xs=kvs.map (·.2))
 | .fn n,v=>∃f,v = .ref f/\mg (z6M n)=some (.ref f)
 | .exc x,v=>∃ea C,v = .ref ea/\G ea=some (.ext (zkZ ea C))/\mg x=some (.ref C)
def RDs (G:Hp):List D->List V->Prop
 | [],xs=>xs=[]
 | d::ds,xs=>∃x r,xs=x::r/\RD G d x/\RDs G ds r
end
end
section
variable {K:W.Frag}{mg:Str->Option Value}{G G' H H':Hp}
def Same.refl':Same H H:=λ_ _ h=>h
def z0c {A B C:Hp}(h:Same A B)(h':Same B C):Same A C:=λa o e=>h' a o (h a o e)
def z2s {a:Addr}{xs:List V}(e:Same G G')(h:SqL K G a xs):SqL K G' a xs:=by
 rcases h with (h | ⟨o,h⟩) | h
 ·exact .inl (.inl (e _ _ h))
 ·exact .inl (.inr ⟨o,e _ _ h⟩)
 ·exact .inr h
def z2r {a:Addr}{xs:List V}(e:Same G G')(h:SqT K G a xs):SqT K G' a xs:=by
 rcases h with (h | ⟨o,h⟩) | h
 ·exact .inl (.inl (e _ _ h))
 ·exact .inl (.inr ⟨o,e _ _ h⟩)
 ·exact .inr h
mutual
def RD.same (e:Same G G'):∀(d:D) {v:V},RD K mg G d v->RD K mg G' d v
 | .non,_,h=>by simpa[RD] using h
 | .bl _,_,h=>by simpa[RD] using h
 | .int _,_,h=>by simpa[RD] using h
 | .str _,_,h=>by simpa[RD] using h
 | .fn _,_,h=>by rw[RD] at h ⊢; exact h
 | .exc _,_,h=>by
  rw[RD] at h ⊢;obtain⟨ea,C,h1,h2,h3⟩:=h;exact⟨ea,C,h1,e _ _ h2,h3⟩
 | .tup ds,_,h=>by
  rw[RD] at h ⊢;obtain⟨a,xs,h1,h2,h3⟩:=h;exact⟨a,xs,h1,z2r e h2,RDs.same e ds h3⟩
 | .lst ds,_,h=>by
  rw[RD] at h ⊢;obtain⟨a,xs,h1,h2,h3⟩:=h;exact⟨a,xs,h1,z2s e h2,RDs.same e ds h3⟩
 | .dct ks vs,_,h=>by
  rw[RD] at h ⊢;obtain⟨a,xs,h1,h3,h4⟩:=h;refine⟨a,xs,h1,RDs.same e vs h3,?_⟩
  rcases h4 with ⟨kvs,q,r⟩ | ⟨kvs,q,r⟩
  ·exact .inl ⟨kvs,e _ _ q,r⟩
  ·exact .inr ⟨kvs,e _ _ q,r⟩
def RDs.same (e:Same G G'):∀(ds:List D) {xs:List V},RDs K mg G ds xs->RDs K mg G' ds xs
 | [],_,h=>by simpa[RDs] using h
 | d::ds,_,h=>by
  rw[RDs] at h ⊢;obtain⟨x,r,h1,h2,h3⟩:=h;exact⟨x,r,h1,RD.same e d h2,RDs.same e ds h3⟩
end
def RDs.nil:RDs K mg G [] []:=by rw[RDs]
def RDs.cons {d:D}{v:V}{ds:List D}{vs:List V}(h:RD K mg G d v)(t:RDs K mg G ds vs):RDs K mg G (d::ds) (v::vs):=by rw[RDs]; exact⟨v,vs,rfl,h,t⟩
def RDs.len:∀{ds:List D}{vs:List V},RDs K mg G ds vs->vs.length=ds.length
 | [],_,h=>by rw[RDs] at h; subst h; rfl
 | _::_,_,h=>by
  rw[RDs] at h;obtain⟨x,r,rfl,_,h3⟩:=h;simp[RDs.len h3]
def RDs.app:∀{ds es:List D}{vs us:List V},RDs K mg G ds vs->RDs K mg G es us->RDs K mg G (ds++es) (vs++us)
 | [],_,_,_,h,k=>by rw[RDs] at h; subst h; exact k
 | _::_,_,_,_,h,k=>by
  rw[RDs] at h;obtain⟨x,r,rfl,h2,h3⟩:=h;exact RDs.cons h2 (RDs.app h3 k)
def RDs.get:∀{ds:List D}{vs:List V}{i:Nat}{d:D},RDs K mg G ds vs->ds[i]? = some d->∃v,vs[i]? = some v/\RD K mg G d v
 | [],_,_,_,_,e=>by simp at e
 | _::_,_,0,_,h,e=>by
  rw[RDs] at h;obtain⟨x,r,rfl,h2,h3⟩:=h;simp at e; subst e;exact⟨x,rfl,h2⟩
 | _::_,_,i+1,_,h,e=>by
  rw[RDs] at h;obtain⟨x,r,rfl,h2,h3⟩:=h;obtain⟨v,e1,e2⟩:=RDs.get (i:=i) h3 (by simpa using e);exact⟨v,by simpa using e1,e2⟩
def RDs.getV:∀{ds:List D}{vs:List V}{i:Nat}{v:V},RDs K mg G ds vs->vs[i]? = some v->∃d,ds[i]? = some d/\RD K mg G d v
 | [],_,_,_,h,e=>by rw[RDs] at h; subst h; simp at e
 | _::_,_,0,_,h,e=>by
  rw[RDs] at h;obtain⟨x,r,rfl,h2,h3⟩:=h;simp at e; subst e;exact⟨_,rfl,h2⟩
 | _::_,_,i+1,_,h,e=>by
  rw[RDs] at h;obtain⟨x,r,rfl,h2,h3⟩:=h;obtain⟨v,e1,e2⟩:=RDs.getV (i:=i) h3 (by simpa using e);exact⟨v,by simpa using e1,e2⟩
def RDs.take:∀{ds:List D}{vs:List V}(n:Nat),RDs K mg G ds vs->RDs K mg G (ds.take n) (vs.take n)
 | _,_,0,_=>by simp; exact RDs.nil
 | [],_,_+1,h=>by rw[RDs] at h; subst h; exact RDs.nil
 | _::_,_,n+1,h=>by
  rw[RDs] at h;obtain⟨x,r,rfl,h2,h3⟩:=h;exact RDs.cons h2 (RDs.take n h3)
def RDs.drop:∀{ds:List D}{vs:List V}(n:Nat),RDs K mg G ds vs->RDs K mg G (ds.drop n) (vs.drop n)
 | _,_,0,h=>by simpa using h
 | [],_,_+1,h=>by rw[RDs] at h; subst h; exact RDs.nil
 | _::_,_,n+1,h=>by
  rw[RDs] at h;obtain⟨x,r,rfl,h2,h3⟩:=h;exact RDs.drop n h3
def RDs.rev {ds:List D}{vs:List V}(h:RDs K mg G ds vs):RDs K mg G ds.reverse vs.reverse:=by
 induction ds generalizing vs with
 | nil=>rw[RDs] at h; subst h; exact RDs.nil
 | cons d ds ih=>
  rw[RDs] at h;obtain⟨x,r,rfl,h2,h3⟩:=h;rw[List.reverse_cons,List.reverse_cons];exact RDs.app (ih h3) (RDs.cons h2 RDs.nil)
def RDs.at {ds:List D}{vs:List V}{i:Int}{d:D}(h:RDs K mg G ds vs)(e:atI ds i=some d):∃v,atI vs i=some v/\RD K mg G d v:=by
 unfold atI at e ⊢;rw[h.len]
 cases q:ixN ds.length i with
 | none=>rw[q] at e; cases e
 | some j=>
  rw[q] at e;exact h.get e
def RDs.cut {ds:List D}{vs:List V}(lo hi:Option Int)(h:RDs K mg G ds vs):RDs K mg G ((ds.drop (HT.sIx ds.length 0 lo)).take (HT.sIx ds.length ds.length hi - HT.sIx ds.length 0 lo)) (cutV vs lo hi):=by
 unfold cutV;rw[h.len];exact(h.drop _).take _
end
inductive B where
 | n | s (d:D) | o (d:D)
abbrev Env:=List B
def B.get:B->Option D
 | .n=>none
 | .s d=>some d
 | .o d=>some d
def Env.get (ρ:Env)(i:Nat):Option D:=match ρ,i with
 | [],_=>none
 | b::_,0=>b.get
 | _::r,i+1=>Env.get r i
def Env.get_eq:∀(ρ:Env) (i:Nat),Env.get ρ i=(ρ[i]?).bind B.get
 | [],i=>by simp[Env.get]
 | b::r,0=>by simp[Env.get]
 | b::r,i+1=>by simp[Env.get,Env.get_eq r i]
abbrev DK:=D->Prop
abbrev XP:=Str->Prop
structure Fn where
 run:List D->DK->XP->Prop
 mono:∀ds (Q Q':DK) (X X':XP),(∀d,Q d->Q' d)->(∀x,X x->X' x)->run ds Q X->run ds Q' X'
structure Ex where
 run:Env->DK->XP->Prop
 mono:∀ρ (Q Q':DK) (X X':XP),(∀d,Q d->Q' d)->(∀x,X x->X' x)->run ρ Q X->run ρ Q' X'
structure Sm where
 run:Env->(Env->Prop)->DK->XP->Prop
 mono:∀ρ (N N':Env->Prop) (Q Q':DK) (X X':XP),(∀ρ,N ρ->N' ρ)->(∀d,Q d->Q' d)->(∀x,X x->X' x)->run ρ N Q X->run ρ N' Q' X'
def onV (o:Option D)(Q:DK):Prop:=match o with
 | some d=>Q d
 | none=>False
def Ex.c (d:D):Ex:=⟨λ_ Q _=>Q d,λ_ _ _ _ _ m _ q=>m _ q⟩
def Ex.v (i:Nat):Ex:=⟨λρ Q _=>onV (ρ.get i) Q,λρ Q Q' _ _ m _ q=>by
 show onV (ρ.get i) Q';have q':onV (ρ.get i) Q:=q
 cases e:ρ.get i with
 | none=>rw[e] at q'; exact q'
 | some d=>rw[e] at q'; exact m _ q'⟩
def runs:List Ex->Env->(List D->Prop)->XP->Prop
 | [],_,Q,_=>Q []
 | e::es,ρ,Q,X=>e.run ρ (λd=>runs es ρ (λds=>Q (d::ds)) X) X
def z4L:∀(es:List Ex) (ρ:Env) (Q Q':List D->Prop) (X X':XP),(∀d,Q d->Q' d)->(∀x,X x->X' x)->runs es ρ Q X->runs es ρ Q' X'
 | [],_,_,_,_,_,m,_,q=>m _ q
 | e::es,ρ,Q,Q',X,X',m,mx,q=>e.mono ρ _ _ X X' (λd q1=>z4L es ρ _ _ X X' (λds q2=>m _ q2) mx q1) mx q
def Ex.op (f:Fn)(es:List Ex):Ex:=⟨λρ Q X=>runs es ρ (λds=>f.run ds Q X) X,λρ Q Q' X X' m mx q=>z4L es ρ _ _ X X' (λds q1=>f.mono ds Q Q' X X' m mx q1) mx q⟩
def tst (d:D)(A B:Prop):Prop:=match d with
 | .bl b=>(b=true->A)/\(b=false->B)
 | _=>False
def z4g {d:D}{A A' B B':Prop}(ha:A->A')(hb:B->B')(h:tst d A B):tst d A' B':=by
 cases d with
 | bl b=>exact⟨λe=>ha (h.1 e),λe=>hb (h.2 e)⟩
 | _=>exact h.elim
def z8c {d:D}{A B:Prop}(h:tst d A B):∃b,d = .bl b/\(b=true->A)/\(b=false->B):=by
 cases d with
 | bl b=>exact⟨b,rfl,h⟩
 | _=>exact h.elim
def Ex.and (a b:Ex):Ex:=⟨λρ Q X=>a.run ρ (λd=>tst d (b.run ρ Q X) (Q (.bl false))) X,λρ Q Q' X X' m mx q=>a.mono ρ _ _ X X' (λd q1=>z4g (b.mono ρ Q Q' X X' m mx) (m _) q1) mx q⟩
def Ex.or (a b:Ex):Ex:=⟨λρ Q X=>a.run ρ (λd=>tst d (Q (.bl true)) (b.run ρ Q X)) X,λρ Q Q' X X' m mx q=>a.mono ρ _ _ X X' (λd q1=>z4g (m _) (b.mono ρ Q Q' X X' m mx) q1) mx q⟩
def Ex.not (a:Ex):Ex:=⟨λρ Q X=>a.run ρ (λd=>match d with | .bl b=>Q (.bl (!b)) | _=>False) X,λρ Q Q' X X' m mx q=>a.mono ρ _ _ X X' (λd q1=>by
 cases d with
 | bl b=>exact m _ q1
 | _=>exact q1.elim) mx q⟩
def Ex.ifx (c a b:Ex):Ex:=⟨λρ Q X=>c.run ρ (λd=>tst d (a.run ρ Q X) (b.run ρ Q X)) X,λρ Q Q' X X' m mx q=>c.mono ρ _ _ X X' (λd q1=>z4g (a.mono ρ Q Q' X X' m mx) (b.mono ρ Q Q' X X' m mx) q1) mx q⟩
inductive Tg where
 | nm (i:Nat) | tp (is:List Nat)
def zbp:List Nat->List D->Env->Env
 | i::is,d::ds,ρ=>zbp is ds (ρ.set i (.s d))
 | _,_,ρ=>ρ
def Tg.put (t:Tg)(d:D)(ρ:Env)(K:Env->Prop):Prop:=match t,d with
 | .nm i,d=>K (ρ.set i (.s d))
 | .tp is,.tup ds=>is.length=ds.length/\K (zbp is ds ρ)
 | _,_=>False
def Tg.put_mono {t:Tg}{d:D}{ρ:Env}{K K':Env->Prop}(m:∀ρ,K ρ->K' ρ)(h:t.put d ρ K):t.put d ρ K':=by
 cases t with
 | nm i=>exact m _ h
 | tp is=>
  cases d with
  | tup ds=>exact⟨h.1,m _ h.2⟩
  | _=>exact h.elim
def z0d:D->Option (List D)
 | .lst l=>some l
 | .tup l=>some l
 | .str x=>some (x.cps.toList.map λc =>.str ⟨#[c]⟩)
 | _=>none
def onL (o:Option (List D))(Q:List D->Prop):Prop:=match o with
 | some l=>Q l
 | none=>False
def z8X {o:Option (List D)}{Q Q':List D->Prop}(m:∀l,Q l->Q' l)(h:onL o Q):onL o Q':=by
 cases o with
 | none=>exact h
 | some l=>exact m _ h
def z4E (f:D->(Option D->Prop)->Prop):List D->(List D->Prop)->Prop
 | [],N=>N []
 | x::xs,N=>f x λo=>z4E f xs λr=>N (o.toList++r)
def z3c {f f':D->(Option D->Prop)->Prop}(hf:∀x K K',(∀o,K o->K' o)->f x K->f' x K'):∀(xs:List D) (N N':List D->Prop),(∀l,N l->N' l)->z4E f xs N->z4E f' xs N'
 | [],_,_,m,q=>m _ q
 | x::xs,N,N',m,q=>hf x _ _ (λo q1=>z3c hf xs _ _ (λr q2=>m _ q2) q1) q
def z1b (nt:Nat)(js:List Nat)(ρ:Env):Env:=List.replicate nt .n++js.map λj=>(ρ[j]?).getD .n
def z4F (t:Tg)(c:Option Ex)(elt:Ex)(ρ:Env)(x:D)(K:Option D->Prop):Prop:=
 t.put x ρ λρ'=>match c with
  | none=>elt.run ρ' (λd=>K (some d)) (λ_=>False)
  | some c=>c.run ρ' (λb=>tst b (elt.run ρ' (λd=>K (some d)) (λ_=>False)) (K none)) (λ_=>False)
def z4e {t:Tg}{c:Option Ex}{elt:Ex}{ρ:Env}(x:D)(K K':Option D->Prop)(m:∀o,K o->K' o)(h:z4F t c elt ρ x K):z4F t c elt ρ x K':=by
 refine Tg.put_mono (λρ' q =>?_) h
 cases c with
 | none=>exact elt.mono ρ' _ _ _ _ (λd q1=>m _ q1) (λ_ z=>z) q
 | some c=>exact c.mono ρ' _ _ _ _ (λb q1=>z4g (elt.mono ρ' _ _ _ _ (λd q2=>m _ q2) (λ_ z=>z)) (m _) q1) (λ_ z=>z) q
def Ex.comp (nt:Nat)(js:List Nat)(t:Tg)(src:Ex)(c:Option Ex)(elt:Ex):Ex:=
 ⟨λρ Q X=>src.run ρ (λd=>onL (z0d d) λl=>l.length<sizeLine/\z4E (z4F t c elt (z1b nt js ρ)) l λr=>Q (.lst r)) X,λρ Q Q' X X' m mx q=>
  src.mono ρ _ _ X X' (λd q1=>z8X (λl q2=>⟨q2.1,z3c z4e l _ _ (λr q3=>m _ q3) q2.2⟩) q1) mx q⟩
def Sm.skip:Sm:=⟨λρ N _ _=>N ρ,λ_ _ _ _ _ _ _ m _ _ q=>m _ q⟩
def Sm.seq (a b:Sm):Sm:=⟨λρ N Q X=>a.run ρ (λρ'=>b.run ρ' N Q X) Q X,λρ N N' Q Q' X X' mn m mx q=>a.mono ρ _ _ Q Q' X X' (λρ' q1=>b.mono ρ' N N' Q Q' X X' mn m mx q1) m mx q⟩
mutual
def noL:D->Bool
 | .lst _=>false
 | .tup l=>noLs l
 | .dct ks vs=>noLs vs
 | _=>true
def noLs:List D->Bool
 | []=>true
 | d::ds=>noL d && noLs ds
end
mutual
def noD:D->Bool
 | .dct _ _=>false
 | .tup l=>noDs l
 | .lst l=>noDs l
 | _=>true
def noDs:List D->Bool
 | []=>true
 | d::ds=>noD d && noDs ds
end
def zhF (d:D):B->Prop
 | .o (.lst _)=>noL d=true
 | .o (.dct _ _)=>noD d=true
 | _=>True
def Safe (d:D):Env->Prop
 | []=>True
 | b::r=>zhF d b/\Safe d r
def zfE (d:D)(ρ:Env):Prop:=match d with
 | .lst l=>∀x∈l,Safe x ρ
 | .dct _ vs=>∀x∈vs,Safe x ρ
 | _=>False
def Sm.set (i:Nat)(e:Ex):Sm:=⟨λρ N _ X=>e.run ρ (λd=>Safe d (ρ.set i .n)/\N (ρ.set i (.s d))) X,λρ N N' Q Q' X X' mn m mx q=>e.mono ρ _ _ X X' (λd q1=>⟨q1.1,mn _ q1.2⟩) mx q⟩
def Sm.own (i:Nat)(e:Ex):Sm:=⟨λρ N _ X=>e.run ρ (λd=>zfE d (ρ.set i .n)/\N (ρ.set i (.o d))) X,λρ N N' Q Q' X X' mn m mx q=>e.mono ρ _ _ X X' (λd q1=>⟨q1.1,mn _ q1.2⟩) mx q⟩
def demB:B->B
 | .o d =>.s d
 | b=>b
def dem:List Nat->Env->Env
 | [],ρ=>ρ
 | j::js,ρ=>dem js (ρ.set j (demB ((ρ[j]?).getD .n)))
def visB:B->B
 | .o _ =>.n
 | b=>b
def vis (ρ:Env):Env:=ρ.map visB
def Sm.setx (js:List Nat)(i:Nat)(e:Ex):Sm:=⟨λρ N _ X=>e.run (vis (dem js ρ)) (λd=>N ((dem js ρ).set i (.s d))) X,λρ N N' Q Q' X X' mn m mx q=>e.mono _ _ _ X X' (λd q1=>mn _ q1) mx q⟩
def Sm.ifs (c:Ex)(a b:Sm):Sm:=⟨λρ N Q X=>c.run ρ (λd=>tst d (a.run ρ N Q X) (b.run ρ N Q X)) X,λρ N N' Q Q' X X' mn m mx q=>c.mono ρ _ _ X X' (λd q1=>z4g (a.mono ρ N N' Q Q' X X' mn m mx) (b.mono ρ N N' Q Q' X X' mn m mx) q1) mx q⟩
def Sm.ret (e:Ex):Sm:=⟨λρ _ Q X=>e.run ρ Q X,λρ N N' Q Q' X X' mn m mx q=>e.mono ρ _ _ X X' m mx q⟩
def Sm.retN:Sm:=⟨λ_ _ Q _=>Q .non,λρ N N' Q Q' X X' mn m mx q=>m _ q⟩
def Sm.ex (e:Ex):Sm:=⟨λρ N _ X=>e.run ρ (λ_=>N ρ) X,λρ N N' Q Q' X X' mn m mx q=>e.mono ρ _ _ X X' (λ_ q1=>mn _ q1) mx q⟩
def Sm.raise (x:Str):Sm:=⟨λ_ _ _ X=>X x,λρ N N' Q Q' X X' mn m mx q=>mx _ q⟩
def wh (c:Ex)(b:Sm)(N:Env->Prop)(Q:DK)(X:XP):Nat->Env->Prop
 | 0,_=>False
 | n+1,ρ=>c.run ρ (λd=>tst d (b.run ρ (wh c b N Q X n) Q X) (N ρ)) X
def zcC {c:Ex}{b:Sm}{N N':Env->Prop}{Q Q':DK}{X X':XP}(mn:∀ρ,N ρ->N' ρ)(m:∀d,Q d->Q' d)(mx:∀x,X x->X' x):∀(n:Nat) (ρ:Env),wh c b N Q X n ρ->wh c b N' Q' X' n ρ
 | 0,_,q=>q
 | n+1,ρ,q=>c.mono ρ _ _ X X' (λd q1=>z4g (b.mono ρ _ _ Q Q' X X' (λρ' q2=>zcC mn m mx n ρ' q2) m mx) (mn ρ) q1) mx q
def Sm.wh (c:Ex)(b:Sm):Sm:=⟨λρ N Q X=>∃n,Pu.wh c b N Q X n ρ,λρ N N' Q Q' X X' mn m mx ⟨n,q⟩=>⟨n,zcC mn m mx n ρ q⟩⟩
def forL (t:Tg)(b:Sm)(N:Env->Prop)(Q:DK)(X:XP):List D->Env->Prop
 | [],ρ=>N ρ
 | x::xs,ρ=>t.put x ρ λρ'=>b.run ρ' (forL t b N Q X xs) Q X
def z7u {t:Tg}{b:Sm}{N N':Env->Prop}{Q Q':DK}{X X':XP}(mn:∀ρ,N ρ->N' ρ)(m:∀d,Q d->Q' d)(mx:∀x,X x->X' x):∀(l:List D) (ρ:Env),forL t b N Q X l ρ->forL t b N' Q' X' l ρ
 | [],_,q=>mn _ q
 | x::xs,ρ,q=>Tg.put_mono (λρ' q1=>b.mono ρ' _ _ Q Q' X X' (λρ2 q2=>z7u mn m mx xs ρ2 q2) m mx q1) q
def Sm.for_ (js:List Nat)(t:Tg)(src:Ex)(b:Sm):Sm:=⟨λρ N Q X=>src.run (vis (dem js ρ)) (λd=>onL (z0d d) λl=>forL t b N Q X l (dem js ρ)) X,λρ N N' Q Q' X X' mn m mx q=>src.mono _ _ _ X X' (λd q1=>z8X (λl q2=>z7u mn m mx l _ q2) q1) mx q⟩
def onR (ds:List D)(K:List D->Prop):Prop:=match ds with
 | [.int j]=>(-(2 ^ 62)<=j/\j<2 ^ 62)/\K ((List.range j.toNat).map λ(k:Nat) =>.int (k:Int))
 | [.int i,.int j]=>((-(2 ^ 62)<=i/\i<2 ^ 62) /\ -(2 ^ 62)<=j/\j<2 ^ 62)/\K ((List.range (j - i).toNat).map λ(k:Nat) =>.int (i+(k:Int)))
 | _=>False
def zeU {ds:List D}{K K':List D->Prop}(m:∀l,K l->K' l)(h:onR ds K):onR ds K':=by
 unfold onR at h ⊢
 split at h
 ·exact⟨h.1,m _ h.2⟩
 ·exact⟨h.1,m _ h.2⟩
 ·exact h.elim
def Sm.forr (es:List Ex)(t:Tg)(b:Sm):Sm:=⟨λρ N Q X=>runs es ρ (λds=>onR ds λl=>forL t b N Q X l ρ) X,λρ N N' Q Q' X X' mn m mx q=>z4L es ρ _ _ X X' (λd q1=>zeU (λl q2=>z7u mn m mx l _ q2) q1) mx q⟩
def ownL (ρ:Env)(i:Nat)(K:List D->Prop):Prop:=match ρ[i]? with
 | some (.o (.lst l))=>K l
 | _=>False
def z9W {ρ:Env}{i:Nat}{K K':List D->Prop}(m:∀l,K l->K' l)(h:ownL ρ i K):ownL ρ i K':=by
 unfold ownL at h ⊢
 split <;> rename_i e
 ·rw[e] at h; exact m _ h
 ·split at h
  ·rename_i l e'; exact(e l e').elim
  ·exact h
def Sm.app (i:Nat)(e:Ex):Sm:=⟨λρ N _ X=>ownL ρ i λl=>e.run ρ (λd=>l.length<sizeLine/\Safe d ρ/\N (ρ.set i (.o (.lst (l++[d]))))) X,λρ N N' Q Q' X X' mn m mx q=>z9W (λl q1=>e.mono ρ _ _ X X' (λd q2=>⟨q2.1,q2.2.1,mn _ q2.2.2⟩) mx q1) q⟩
def popL (l:List D)(K:List D->D->Prop):Prop:=match l[l.length - 1]? with
 | some d=>K l.dropLast d
 | none=>False
def zdi {l:List D}{K K':List D->D->Prop}(m:∀l d,K l d->K' l d)(h:popL l K):popL l K':=by
 unfold popL at h ⊢
 split <;> rename_i e
 ·rw[e] at h; exact m _ _ h
 ·rw[e] at h; exact h
def Sm.pop (i:Nat):Sm:=⟨λρ N _ _=>ownL ρ i λl=>popL l λl' _=>N (ρ.set i (.o (.lst l'))),λρ N N' Q Q' X X' mn m mx q=>z9W (λl q1=>zdi (λ_ _ q2=>mn _ q2) q1) q⟩
def isLs (d:D)(K:List D->Prop):Prop:=match d with
 | .lst l=>K l
 | _=>False
def zdK {d:D}{K K':List D->Prop}(m:∀j,K j->K' j)(h:isLs d K):isLs d K':=by
 cases d with
 | lst l=>exact m _ h
 | _=>exact h.elim
def isI (d:D)(K:Int->Prop):Prop:=match d with
 | .int i=>K i
 | _=>False
def zbN {d:D}{K K':Int->Prop}(m:∀j,K j->K' j)(h:isI d K):isI d K':=by
 cases d with
 | int i=>exact m _ h
 | _=>exact h.elim
def Fn.mk' (np nn:Nat)(b:Sm):Fn:=⟨λds Q X=>ds.length=np/\b.run (ds.map B.s++List.replicate (nn - np) .n) (λ_=>Q .non) Q X,λds Q Q' X X' m mx q=>⟨q.1,b.mono _ _ _ Q Q' X X' (λ_ q1=>m _ q1) m mx q.2⟩⟩
def Fn.mkN (np nn:Nat)(b:Sm):Fn:=⟨λds Q _=>ds.length=np/\b.run (ds.map B.s++List.replicate (nn - np) .n) (λ_=>Q .non) Q (λ_=>False),λds Q Q' X X' m mx q=>⟨q.1,b.mono _ _ _ Q Q' _ _ (λ_ q1=>m _ q1) m (λ_ z=>z) q.2⟩⟩
def Sm.calm (b:Sm):Sm:=⟨λρ N Q _=>b.run ρ N Q (λ_=>False),λρ N N' Q Q' X X' mn m mx q=>b.mono ρ N N' Q Q' _ _ mn m (λ_ z=>z) q⟩
end Pu
namespace Pu
open PySem PySem.Spec PyProof.Rows L2
def AbE (K:W.Frag)(mg:Str->Option Value)(G:Hp)(ρ:Pu.Env)(σ:L2.St):Prop:=∀i d,ρ.get i=some d->∃v,σ[i]? = some (some v)/\RD K mg G d v
def Gr (G H G':Hp):Prop:=Same G G'/\∀a o,G' a=some o->(∃u,G a=some u)\/H a=none
def Gr.refl {G H:Hp}:Gr G H G:=⟨Same.refl',λa o e =>.inl ⟨o,e⟩⟩
def Gr.trans {G H G1 H1 G2:Hp}(h:Gr G H G1)(k:Same H H1)(h':Gr G1 H1 G2):Gr G H G2:=⟨z0c h.1 h'.1,λa o e=>by
 rcases h'.2 a o e with ⟨u,q⟩ | q
 ·exact h.2 a u q
 ·refine .inr ?_
  cases z:H a with
  | none=>rfl
  | some w=>rw[k a w z] at q; cases q⟩
def Gr.new {G H:Hp}{p:Addr}{o:HO}(g:Same G H)(hp:H p=none):Gr G H (upd G p o):=by
 have gp:G p=none:=by
  cases e:G p with
  | none=>rfl
  | some u=>rw[g p u e] at hp; cases hp
 refine⟨z0X gp o,λa u e =>?_⟩
 by_cases ha:a=p
 ·subst ha; exact .inr hp
 ·rw[z0f ha] at e; exact .inl ⟨u,e⟩
def Kt (K:W.Frag)(mg:Str->Option Value)(G H:Hp)(Q0:DK)(Q:VK):Prop:=∀d v G' H',Q0 d->Gr G H G'->Same G' H'->Same H H'->RD K mg G' d v->Q v H'
def Kts (K:W.Frag)(mg:Str->Option Value)(G H:Hp)(Q0:List D->Prop)(Q:List V->Hp->Prop):Prop:=∀ds vs G' H',Q0 ds->Gr G H G'->Same G' H'->Same H H'->RDs K mg G' ds vs->Q vs H'
def Kx (mg:Str->Option Value)(H:Hp)(X0:XP)(E:XK):Prop:=∀x C H',X0 x->mg x=some (.ref C)->Same H H'->E (.ref C) none H'
def tx (K:W.Frag)(mg:Str->Option Value)(E:XK)(e:Ex):TE:=λσ H Q=>∃G ρ Q0 X0,Same G H/\AbE K mg G ρ σ/\e.run ρ Q0 X0/\Kt K mg G H Q0 Q/\Kx mg H X0 E
def txa (K:W.Frag)(mg:Str->Option Value)(E:XK)(es:List Ex):TA:=λσ H Q=>∃G ρ Q0 X0,Same G H/\AbE K mg G ρ σ/\runs es ρ Q0 X0/\Kts K mg G H Q0 Q/\Kx mg H X0 E
def tt (K:W.Frag)(mg:Str->Option Value)(E:XK)(e:Ex):TT:=λσ H Q=>∃G ρ Q0 X0,Same G H/\AbE K mg G ρ σ/\e.run ρ Q0 X0/\(∀d G' H',Q0 d->Gr G H G'->Same G' H'->Same H H'->∃b,d = .bl b/\Q b H')/\Kx mg H X0 E
section
variable {K:W.Frag}{mg:Str->Option Value}{G G' H H':Hp}{ρ:Pu.Env}{σ:L2.St}{Q0:DK}{Q:VK}{X0:XP}{E:XK}
def AbE.same (h:AbE K mg G ρ σ)(g:Same G G'):AbE K mg G' ρ σ:=λi d e=>by
 obtain⟨v,h1,h2⟩:=h i d e;exact⟨v,h1,h2.same g⟩
def Kt.same (h:Kt K mg G H Q0 Q)(g:Gr G H G')(k:Same H H'):Kt K mg G' H' Q0 Q:=λd v G1 H1 q a b c r=>h d v G1 H1 q (g.trans k a) b (z0c k c) r
def Kx.same (h:Kx mg H X0 E)(k:Same H H'):Kx mg H' X0 E:=λx C H1 q m c=>h x C H1 q m (z0c k c)
def Kx.no {E:XK}:Kx mg H (λ_=>False) E:=λ_ _ _ z=>z.elim
def Kt.now {d:D}{v:V}(h:Kt K mg G H Q0 Q)(g:Same G H)(q:Q0 d)(r:RD K mg G d v):Q v H:=h d v G H q Gr.refl g Same.refl' r
def Kt.new {d:D}{p:Addr}{o:HO}{v:V}(h:Kt K mg G H Q0 Q)(g:Same G H)(hp:H p=none)(q:Q0 d)(r:RD K mg (upd G p o) d v):Q v (upd H p o):=by
 have gp:G p=none:=by
  cases e:G p with
  | none=>rfl
  | some u=>rw[g p u e] at hp; cases hp
 refine h d v (upd G p o) (upd H p o) q (Gr.new g hp) (λb u e =>?_) (z0X hp o) r
 by_cases hb:b=p
 ·subst hb; rw[z0t] at e ⊢; exact e
 ·rw[z0f hb] at e ⊢; exact g b u e
def z2N (g:Same G H){p:Addr}(hp:H p=none):G p=none:=by
 cases e:G p with
 | none=>rfl
 | some u=>rw[g p u e] at hp; cases hp
end
def Lk2 (K:W.Frag)(mg:Str->Option Value)(F:Fn)(r:R2):Prop:=∀(G H:Hp) (d1 d2:D) (v1 v2:V) (Q0:DK) (X0:XP) (Q:VK),Same G H->RD K mg G d1 v1->RD K mg G d2 v2->F.run [d1,d2] Q0 X0->Kt K mg G H Q0 Q->r v1 v2 H Q
def Lk1 (K:W.Frag)(mg:Str->Option Value)(F:Fn)(r:V->Hp->VK->Prop):Prop:=∀(G H:Hp) (d:D) (v:V) (Q0:DK) (X0:XP) (Q:VK),Same G H->RD K mg G d v->F.run [d] Q0 X0->Kt K mg G H Q0 Q->r v H Q
def LkN (K:W.Frag)(mg:Str->Option Value)(F:Fn)(r:List V->Hp->VK->Prop):Prop:=∀(G H:Hp) (ds:List D) (vs:List V) (Q0:DK) (X0:XP) (Q:VK),Same G H->RDs K mg G ds vs->F.run ds Q0 X0->Kt K mg G H Q0 Q->r vs H Q
section
variable {K:W.Frag}{mg:Str->Option Value}{E:XK}{σ:L2.St}{H:Hp}{Q:VK}{a b c:Ex}{F:Fn}{es:List Ex}
def tx2 {r:R2}(lk:Lk2 K mg F r)(h:tx K mg E (.op F [a,b]) σ H Q):tOp r (tx K mg E a) (tx K mg E b) σ H Q:=by
 obtain⟨G,ρ,Q0,X0,hs,ab,hr,hk,hx⟩:=h;refine⟨G,ρ,λd=>b.run ρ (λd'=>F.run [d,d'] Q0 X0) X0,X0,hs,ab,hr,?_,hx⟩;intro d v G1 H1 hb g1 g2 g3 rd;refine⟨G1,ρ,λd'=>F.run [d,d'] Q0 X0,X0,g2,ab.same g1.1,hb,?_,hx.same g3⟩;intro d' v' G2 H2 hF k1 k2 k3 rd';exact lk G2 H2 d d' v v' Q0 X0 Q k2 (rd.same k1.1) rd' hF (hk.same (g1.trans g3 k1) (z0c g3 k3))
def tx1 {r:V->Hp->VK->Prop}(lk:Lk1 K mg F r)(h:tx K mg E (.op F [a]) σ H Q):tUn r (tx K mg E a) σ H Q:=by
 obtain⟨G,ρ,Q0,X0,hs,ab,hr,hk,hx⟩:=h;refine⟨G,ρ,λd=>F.run [d] Q0 X0,X0,hs,ab,hr,?_,hx⟩;intro d v G1 H1 hF g1 g2 g3 rd;exact lk G1 H1 d v Q0 X0 Q g2 rd hF (hk.same g1 g3)
def txN {r:List V->Hp->VK->Prop}(lk:LkN K mg F r)(h:tx K mg E (.op F es) σ H Q):tCB r (txa K mg E es) σ H Q:=by
 obtain⟨G,ρ,Q0,X0,hs,ab,hr,hk,hx⟩:=h;refine⟨G,ρ,λds=>F.run ds Q0 X0,X0,hs,ab,hr,?_,hx⟩;intro ds vs G1 H1 hF g1 g2 g3 rd;exact lk G1 H1 ds vs Q0 X0 Q g2 rd hF (hk.same g1 g3)
end
def QE.imp {X:Cx}{e:Expr}{t t':TE}(h:QE X e t)(i:∀σ H Q,t' σ H Q->t σ H Q):QE X e t':=⟨h.p.imp i⟩
def QT.imp {X:Cx}{e:Expr}{t t':TT}(h:QT X e t)(i:∀σ H Q,t' σ H Q->t σ H Q):QT X e t':=⟨λpins s σ H Q I q=>h.p pins s σ H Q I (i σ H Q q)⟩
def QA.imp {X:Cx}{e:List Expr}{t t':TA}(h:QA X e t)(i:∀σ H Q,t' σ H Q->t σ H Q):QA X e t':=⟨λpos pins s σ H Q I q=>h.p pos pins s σ H Q I (i σ H Q q)⟩
def QW.imp {X:Cx}{e:Expr}{t t':TT}(h:QW X e t)(i:∀σ H Q,t' σ H Q->t σ H Q):QW X e t':=⟨λw pins s σ H Q I q=>h.p w pins s σ H Q I (i σ H Q q)⟩
def QS.imp {X:Cx}{e:Stmt}{t t':TS}(h:QS X e t)(i:∀D σ H,t' D σ H->t D σ H):QS X e t':=⟨λpins s σ H D I q=>h.p pins s σ H D I (i D σ H q)⟩
def QSs.imp {X:Cx}{e:List Stmt}{t t':TS}(h:QSs X e t)(i:∀D σ H,t' D σ H->t D σ H):QSs X e t':=⟨λpins s σ H D I q=>h.p pins s σ H D I (i D σ H q)⟩
def QI.imp {X:Cx}{tg e:Expr}{t t':TI}(h:QI X tg e t)(i:∀σ H R,t' σ H R->t σ H R):QI X tg e t':=⟨λpins s σ H R I q=>h.p pins s σ H R I (i σ H R q)⟩
abbrev QX (X:Cx)(E:XK)(e:Expr)(x:Ex):Prop:=QE X e (tx X.K X.mg E x)
abbrev QXT (X:Cx)(E:XK)(e:Expr)(x:Ex):Prop:=QT X e (tt X.K X.mg E x)
abbrev QXW (X:Cx)(E:XK)(e:Expr)(x:Ex):Prop:=QW X e (tt X.K X.mg E x)
abbrev QXA (X:Cx)(E:XK)(es:List Expr)(x:List Ex):Prop:=QA X es (txa X.K X.mg E x)
section
variable {X:Cx}{E:XK}{e a b c:Expr}{x y z:Ex}{pos:Pos}{es:List Expr}{xs:List Ex}{rest:List Expr}
def qx_c {d:D}{v:V}(h:QE X e (tC v))(r:∀G,RD X.K X.mg G d v):QX X E e (.c d):=QE.imp h λσ H Q ⟨G,ρ,Q0,X0,hs,ab,hr,hk,hx⟩=>hk.now hs hr (r G)
def qx_v {i:Nat}(h:QE X e (tVar i)):QX X E e (.v i):=QE.imp h λσ H Q ⟨G,ρ,Q0,X0,hs,ab,hr,hk,hx⟩=>by
 have hr':onV (ρ.get i) Q0:=hr
 cases q:ρ.get i with
 | none=>rw[q] at hr'; exact hr'.elim
 | some d=>
  rw[q] at hr';obtain⟨v,h1,h2⟩:=ab i d q;exact⟨v,h1,hk.now hs hr' h2⟩
def z02 {i:Int}{j:Nat}:QX X E (.Constant (.int i) j pos) (.c (.int i)):=qx_c zib λ_=>by rw[RD]
def z5d {i:Bool}{j:Nat}:QX X E (.Constant (.bool i) j pos) (.c (.bl i)):=qx_c zk7 λ_=>by rw[RD]
def z03 {op:Operator}{F:Fn}{r:R2}(ho:OpR X (binaryOp op) r)(lk:Lk2 X.K X.mg F r)(ha:QX X E a x)(hb:QX X E b y):QX X E (.BinOp a op b pos) (.op F [x,y]):=QE.imp (zk3 ho ha hb) λ_ _ _ h=>tx2 lk h
def zeB {op:UnaryOp}{F:Fn}{r:V->Hp->VK->Prop}(ho:UnR X (unaryOp op) r)(lk:Lk1 X.K X.mg F r)(ha:QX X E a x):QX X E (.UnaryOp op a pos) (.op F [x]):=QE.imp (zk1 ho ha) λ_ _ _ h=>tx1 lk h
def z7c {op:CmpOp}{F:Fn}{r:R2}(ho:OpR X (compareOp op) r)(lk:Lk2 X.K X.mg F r)(ha:QX X E a x)(hb:QX X E b y)(hm:behindInMarks op b=false):QX X E (.Compare a [op] [b] pos) (.op F [x,y]):=QE.imp (zgx ho ha hb hm) λ_ _ _ h=>tx2 lk h
def zg8 {t:TE}{σ:L2.St}{H:Hp}{Q:Bool->Hp->Prop}(m:∀Q,tx X.K X.mg E x σ H Q->t σ H Q)(h:tt X.K X.mg E x σ H Q):zgd t σ H Q:=by
 obtain⟨G,ρ,Q0,X0,hs,ab,hr,hk,hx⟩:=h;refine m _ ⟨G,ρ,Q0,X0,hs,ab,hr,λd v G' H' q g1 g2 g3 rd =>?_,hx⟩;obtain⟨b,rfl,q'⟩:=hk d G' H' q g1 g2 g3;rw[RD] at rd;exact⟨b,rd,q'⟩
def z0K {op:CmpOp}{F:Fn}{r:R2}(ho:OpR X (compareOp op) r)(lk:Lk2 X.K X.mg F r)(ha:QX X E a x)(hb:QX X E b y)(hm:behindInMarks op b=false):QXT X E (.Compare a [op] [b] pos) (.op F [x,y]):=QT.imp (zgr ho ha hb hm) λσ H Q h=>zg8 (λ_ h=>tx2 lk h) h
def z2D (h:QX X E e x)(he:∀whole,isTrue e X.env whole=(do let v <- whole; standAt e.pos; holding [v] (truthy v)):=by intro _; rfl):QXT X E e x:=QT.imp (zi2 h he) λσ H Q h=>by
 obtain⟨G,ρ,Q0,X0,hs,ab,hr,hk,hx⟩:=h;refine⟨G,ρ,Q0,X0,hs,ab,hr,λd v G' H' q g1 g2 g3 rd =>?_,hx⟩;obtain⟨b,rfl,q'⟩:=hk d G' H' q g1 g2 g3;rw[RD] at rd;exact⟨b,rd,q'⟩
def zhY (ha:QX X E a x):QX X E (.UnaryOp .Not a pos) (.not x):=QE.imp (zi8 ha) λσ H Q ⟨G,ρ,Q0,X0,hs,ab,hr,hk,hx⟩=>by
 refine⟨G,ρ,_,X0,hs,ab,hr,λd v G' H' q g1 g2 g3 rd =>?_,hx⟩
 cases d with
 | bl b=>
  rw[RD] at rd;exact⟨b,rd,hk (.bl !b) (.bl !b) G' H' q g1 g2 g3 (by rw[RD])⟩
 | _=>exact q.elim
def z3l (ha:QXT X E a x):QXT X E (.UnaryOp .Not a pos) (.not x):=QT.imp (zi3 ha) λσ H Q ⟨G,ρ,Q0,X0,hs,ab,hr,hk,hx⟩=>by
 refine⟨G,ρ,_,X0,hs,ab,hr,λd G' H' q g1 g2 g3 =>?_,hx⟩
 cases d with
 | bl b=>
  obtain⟨b',e,q'⟩:=hk (.bl !b) G' H' q g1 g2 g3
  cases e
  exact⟨b,rfl,q'⟩
 | _=>exact q.elim
def zbx {op}(h:QX X E a x):QX X E (.BoolOp op [a] pos) x:=zi7 h
def zd9 (ha:QX X E a x)(hb:QX X E (.BoolOp .And (b::rest) pos) y):QX X E (.BoolOp .And (a::b::rest) pos) (.and x y):=QE.imp (zid ha hb) λσ H Q ⟨G,ρ,Q0,X0,hs,ab,hr,hk,hx⟩=>by
 refine⟨G,ρ,_,X0,hs,ab,hr,λd v G' H' q g1 g2 g3 rd =>?_,hx⟩;obtain⟨k,rfl,q1,q2⟩:=z8c q;rw[RD] at rd;refine⟨k,rd,?_⟩
 cases k with
 | true=>exact iteT ⟨G',ρ,Q0,X0,g2,ab.same g1.1,q1 rfl,hk.same g1 g3,hx.same g3⟩
 | false=>exact iteF (hk (.bl false) (.bl false) G' H' (q2 rfl) g1 g2 g3 (by rw[RD]))
def zjX (ha:QX X E a x)(hb:QX X E (.BoolOp .Or (b::rest) pos) y):QX X E (.BoolOp .Or (a::b::rest) pos) (.or x y):=QE.imp (zk2 ha hb) λσ H Q ⟨G,ρ,Q0,X0,hs,ab,hr,hk,hx⟩=>by
 refine⟨G,ρ,_,X0,hs,ab,hr,λd v G' H' q g1 g2 g3 rd =>?_,hx⟩;obtain⟨k,rfl,q1,q2⟩:=z8c q;rw[RD] at rd;refine⟨k,rd,?_⟩
 cases k with
 | true=>exact iteT (hk (.bl true) (.bl true) G' H' (q1 rfl) g1 g2 g3 (by rw[RD]))
 | false=>exact iteF ⟨G',ρ,Q0,X0,g2,ab.same g1.1,q2 rfl,hk.same g1 g3,hx.same g3⟩
def z3B (ha:QXT X E a x):QXW X E (.BoolOp .And [a] pos) x:=zgq ha
def z7d (ha:QXT X E a x):QXW X E (.BoolOp .Or [a] pos) x:=zi0 ha
def z4M (ha:QXT X E a x)(hb:QXW X E (.BoolOp .And (b::rest) pos) y):QXW X E (.BoolOp .And (a::b::rest) pos) (.and x y):=QW.imp (zi1 ha hb) λσ H Q ⟨G,ρ,Q0,X0,hs,ab,hr,hk,hx⟩=>by
 refine⟨G,ρ,_,X0,hs,ab,hr,λd G' H' q g1 g2 g3 =>?_,hx⟩;obtain⟨k,rfl,q1,q2⟩:=z8c q;refine⟨k,rfl,?_⟩
 cases k with
 | true=>exact iteT ⟨G',ρ,Q0,X0,g2,ab.same g1.1,q1 rfl,λd G2 H2 q k1 k2 k3=>hk d G2 H2 q (g1.trans g3 k1) k2 (z0c g3 k3),hx.same g3⟩
 | false=>
  obtain⟨b',e,q'⟩:=hk (.bl false) G' H' (q2 rfl) g1 g2 g3
  cases e
  exact iteF q'
def z8l (ha:QXT X E a x)(hb:QXW X E (.BoolOp .Or (b::rest) pos) y):QXW X E (.BoolOp .Or (a::b::rest) pos) (.or x y):=QW.imp (zjY ha hb) λσ H Q ⟨G,ρ,Q0,X0,hs,ab,hr,hk,hx⟩=>by
 refine⟨G,ρ,_,X0,hs,ab,hr,λd G' H' q g1 g2 g3 =>?_,hx⟩;obtain⟨k,rfl,q1,q2⟩:=z8c q;refine⟨k,rfl,?_⟩
 cases k with
 | false=>exact iteF ⟨G',ρ,Q0,X0,g2,ab.same g1.1,q2 rfl,λd G2 H2 q k1 k2 k3=>hk d G2 H2 q (g1.trans g3 k1) k2 (z0c g3 k3),hx.same g3⟩
 | true=>
  obtain⟨b',e,q'⟩:=hk (.bl true) G' H' (q1 rfl) g1 g2 g3
  cases e
  exact iteT q'
def z04:QXA X E [] []:=QA.imp zbz λσ H Q ⟨G,ρ,Q0,X0,hs,ab,hr,hk,hx⟩=>hk [] [] G H hr Gr.refl hs Same.refl' RDs.nil
def z00 (ha:QX X E e x)(hr:QXA X E es xs)(hs:starEach (e::es) X.env=(false,eval e X.env)::starEach es X.env:=by rfl):QXA X E (e::es) (x::xs):=QA.imp (z7e ha hr hs) λσ H Q ⟨G,ρ,Q0,X0,hs,ab,hr,hk,hx⟩=>by
 refine⟨G,ρ,_,X0,hs,ab,hr,λd v G' H' q g1 g2 g3 rd =>?_,hx⟩;refine⟨G',ρ,_,X0,g2,ab.same g1.1,q,λds vs G2 H2 q' k1 k2 k3 rds =>?_,hx.same g3⟩;exact hk (d::ds) (v::vs) G2 H2 q' (g1.trans g3 k1) k2 (z0c g3 k3) (RDs.cons (rd.same k1.1) rds)
def spP (K:W.Frag)(mg:Str->Option Value)(F:Fn):Sp:=λvs H Q E=>∃G ds Q0 X0,Same G H/\RDs K mg G ds vs/\F.run ds Q0 X0/\Kt K mg G H Q0 Q/\Kx mg H X0 E
def z0k {CX:CXT}{k:Nat}{ps:List Str}{F:Fn}{f:Str}{pp:Pos}(C:Cal X.prog X.w X.K X.mg X.base CX k f ps (spP X.K X.mg F))(hr:Room k X.A)(hx:z6S CX X E)(ha:QXA X E (e::es) xs)(hg:Gl X f:=by rfl)
  (hdb:(f == ("__debug__":Str))=false:=by decide) (he:starEach (e::es) X.env=(false,eval e X.env)::starEach es X.env:=by rfl) (hpl:(backTo pos (starEach es X.env)).any (·.1)=false:=by rfl):QX X E (.Call (.Name f pp) (e::es) [] pos) (.op F xs):=
 QE.imp (zk5 C hr hx ha hg hdb he hpl) λσ H Q ⟨G,ρ,Q0,X0,hs,ab,hr,hk,hx⟩=>by
  refine⟨G,ρ,_,X0,hs,ab,hr,λds vs G' H' q g1 g2 g3 rds =>?_,hx⟩;show spP X.K X.mg F (vs++[]) H' Q E;rw[List.append_nil];exact⟨G',ds,Q0,X0,g2,rds,q,hk.same g1 g3,hx.same g3⟩
def z2A {f:Str}{pp:Pos}{id:String}{F:Fn}{r:List V->Hp->VK->Prop}(hc:z2p X (.builtin id) r)(lk:LkN X.K X.mg F r)(hg:Gl X f)(hm:X.mg f=none)(hv:bootBuiltins f=some (.builtin id))(ha:QXA X E (e::es) xs)(hn:f≠"__name__":=by decide)(hdb:(f == ("__debug__":Str))=false:=by decide)
  (he:starEach (e::es) X.env=(false,eval e X.env)::starEach es X.env:=by rfl) (hpl:(backTo pos (starEach es X.env)).any (·.1)=false:=by rfl):QX X E (.Call (.Name f pp) (e::es) [] pos) (.op F xs):=
 QE.imp (z8R hc hg hm hv ha hn hdb he hpl) λ_ _ _ h=>txN lk h
def zd8 {f:Str}{pp:Pos}{id:String}{F:Fn}{r:List V->Hp->VK->Prop}(hc:z2p X (.type id) r)(lk:LkN X.K X.mg F r)(hg:Gl X f)(hm:X.mg f=none)(hv:bootBuiltins f=some (.type id))(ha:QXA X E (e::es) xs)(hn:f≠"__name__":=by decide)(hdb:(f == ("__debug__":Str))=false:=by decide)
  (he:starEach (e::es) X.env=(false,eval e X.env)::starEach es X.env:=by rfl) (hpl:(backTo pos (starEach es X.env)).any (·.1)=false:=by rfl):QX X E (.Call (.Name f pp) (e::es) [] pos) (.op F xs):=
 QE.imp (z5J hc hg hm hv ha hn hdb he hpl) λ_ _ _ h=>txN lk h
end
def z7M (K:W.Frag)(mg:Str->Option Value)(G H:Hp)(a:Addr):D->Prop
 | .lst ds=>∃xs,H a=some (.lst xs)/\RDs K mg G ds xs
 | .dct ks vs=>∃xs,RDs K mg G vs xs/\((∃kvs:List (Key × V),H a=some (.dK kvs)/\ks=kvs.map (λp=>kD p.1)/\xs=kvs.map (·.2))\/∃kvs:List (List Key × V),H a=some (.dT kvs)/\ks=kvs.map (λp =>.tup (p.1.map kD))/\xs=kvs.map (·.2))
 | _=>False
structure AbS (K:W.Frag)(mg:Str->Option Value)(H0 G0 G:Hp)(ρ:Pu.Env)(σ:L2.St)(H:Hp):Prop where
 len:σ.length=ρ.length
 s0:Same H0 H
 g0:Same G0 G
 g:Same G H
 nw:∀a o,G a=some o->(∃u,G0 a=some u)\/H0 a=none
 sh:∀(i:Nat) (d:D),ρ[i]? = some (B.s d)->∃v,σ[i]? = some (some v)/\RD K mg G d v
 ow:∀(i:Nat) (d:D),ρ[i]? = some (B.o d)->∃a,σ[i]? = some (some (V.ref a))/\G a=none/\H0 a=none/\z7M K mg G H a d
 ne:∀(i j:Nat) (d d':D) (a:Addr),i≠j->ρ[i]? = some (B.o d)->ρ[j]? = some (B.o d')->σ[i]? = some (some (V.ref a))->σ[j]? = some (some (V.ref a))->False
open Classical in
def plus (G H:Hp)(O:Addr->Prop):Hp:=λa=>if O a then H a else G a
open Classical in
def minus (G:Hp)(O:Addr->Prop):Hp:=λa=>if O a then none else G a
section
variable {K:W.Frag}{mg:Str->Option Value}{H0 G0 G G' H H' H1:Hp}{ρ:Pu.Env}{σ:L2.St}{O:Addr->Prop}
def z6m (g:Same G H):Same (plus G H O) H:=λa o e=>by
 unfold plus at e
 split at e
 ·exact e
 ·exact g a o e
def z4n (h:∀a,O a->G a=none):Same G (plus G H O):=λa o e=>by
 unfold plus
 split
 ·rename_i z; rw[h a z] at e; cases e
 ·exact e
def zdj {a:Addr}(h:O a):plus G H O a=H a:=by unfold plus; rw[if_pos h]
def z3C:Same (minus G O) G:=λa o e=>by
 unfold minus at e
 split at e
 ·cases e
 ·exact e
def z6Z {a:Addr}(h:O a):minus G O a=none:=by unfold minus; rw[if_pos h]
def za8 {a:Addr}(h:¬ O a):minus G O a=G a:=by unfold minus; rw[if_neg h]
def z5Q (g:Same G G')(h:∀a,O a->G a=none):Same G (minus G' O):=λa o e=>by
 by_cases z:O a
 ·rw[h a z] at e; cases e
 ·rw[za8 z]; exact g a o e
def z7M.same {a:Addr}{d:D}(h:z7M K mg G H a d)(g:Same G G')(k:∀o,H a=some o->H1 a=some o):z7M K mg G' H1 a d:=by
 cases d with
 | lst ds=>
  obtain⟨xs,h1,h2⟩:=h;exact⟨xs,k _ h1,h2.same g⟩
 | dct ks vs=>
  obtain⟨xs,h1,h2⟩:=h;refine⟨xs,h1.same g,?_⟩
  rcases h2 with ⟨kvs,q,r⟩ | ⟨kvs,q,r⟩
  ·exact .inl ⟨kvs,k _ q,r⟩
  ·exact .inr ⟨kvs,k _ q,r⟩
 | _=>exact h.elim
def z7M.some {a:Addr}{d:D}(h:z7M K mg G H a d):∃o,H a=some o:=by
 cases d with
 | lst ds=>obtain⟨xs,h1,h2⟩:=h; exact⟨_,h1⟩
 | dct ks vs=>
  obtain⟨xs,h1,h2⟩:=h
  rcases h2 with ⟨kvs,q,r⟩ | ⟨kvs,q,r⟩ <;> exact⟨_,q⟩
 | _=>exact h.elim
def z7M.rd {a:Addr}{d:D}(h:z7M K mg G H a d)(g:Same G G')(e:G' a=H a):RD K mg G' d (.ref a):=by
 cases d with
 | lst ds=>
  obtain⟨xs,h1,h2⟩:=h;rw[RD];exact⟨a,xs,rfl,SqL.of (e.trans h1),h2.same g⟩
 | dct ks vs=>
  obtain⟨xs,h1,h2⟩:=h;rw[RD];refine⟨a,xs,rfl,h1.same g,?_⟩
  rcases h2 with ⟨kvs,q,r⟩ | ⟨kvs,q,r⟩
  ·exact .inl ⟨kvs,e.trans q,r⟩
  ·exact .inr ⟨kvs,e.trans q,r⟩
 | _=>exact h.elim
def OK1 (G:Hp)(O:Addr->Prop)(bL bD:Prop):Prop:=∀a,O a->G a=none\/((∃xs,G a=some (.lst xs))/\bL)\/(((∃kvs,G a=some (.dK kvs))\/∃kvs,G a=some (.dT kvs))/\bD)
def z4m {a:Addr}{o u:HO}{bL bD:Prop}(hO:OK1 G O bL bD)(h:G a=some o)(h1:∀xs,o = .lst xs->¬ bL)(h2:∀k,o = .dK k->¬ bD)(h3:∀k,o = .dT k->¬ bD):minus G O a=some o:=by
 by_cases z:O a
 ·rcases hO a z with q | ⟨⟨xs,q⟩,b⟩ | ⟨⟨k,q⟩ | ⟨k,q⟩,b⟩
  ·rw[q] at h; cases h
  ·rw[q] at h; cases h; exact(h1 _ rfl b).elim
  ·rw[q] at h; cases h; exact(h2 _ rfl b).elim
  ·rw[q] at h; cases h; exact(h3 _ rfl b).elim
 ·rw[za8 z]; exact h
mutual
def RD.minus {bL bD:Prop}(hO:OK1 G O bL bD):∀(d:D) {v:V},(bL->noL d=true)->(bD->noD d=true)->RD K mg G d v->RD K mg (Pu.minus G O) d v
 | .non,_,_,_,h=>by simpa[RD] using h
 | .bl _,_,_,_,h=>by simpa[RD] using h
 | .int _,_,_,_,h=>by simpa[RD] using h
 | .str _,_,_,_,h=>by simpa[RD] using h
 | .fn _,_,_,_,h=>by rw[RD] at h ⊢; exact h
 | .exc _,_,_,_,h=>by
  rw[RD] at h ⊢;obtain⟨ea,C,h1,h2,h3⟩:=h;exact⟨ea,C,h1,z4m (u :=.lst []) hO h2 (λ_ z=>by cases z) (λ_ z=>by cases z) (λ_ z=>by cases z),h3⟩
 | .tup ds,_,nl,nd,h=>by
  rw[RD] at h ⊢;obtain⟨a,xs,h1,h2,h3⟩:=h;refine⟨a,xs,h1,?_,RDs.minus hO ds (λb=>by have:=nl b; rwa [noL] at this) (λb=>by have:=nd b; rwa [noD] at this) h3⟩
  rcases h2 with (h2 | ⟨o,h2⟩) | h2
  ·exact .inl (.inl (z4m (u :=.lst []) hO h2 (λ_ z=>by cases z) (λ_ z=>by cases z) (λ_ z=>by cases z)))
  ·exact .inl (.inr ⟨o,z4m (u :=.lst []) hO h2 (λ_ z=>by cases z) (λ_ z=>by cases z) (λ_ z=>by cases z)⟩)
  ·exact .inr h2
 | .lst ds,_,nl,nd,h=>by
  rw[RD] at h ⊢;obtain⟨a,xs,h1,h2,h3⟩:=h;have nb:¬ bL:=λb=>by have:=nl b; rw[noL] at this; cases this
  refine⟨a,xs,h1,?_,RDs.minus hO ds (λb=>(nb b).elim) (λb=>by have:=nd b; rwa [noD] at this) h3⟩
  rcases h2 with (h2 | ⟨o,h2⟩) | h2
  ·exact .inl (.inl (z4m (u :=.lst []) hO h2 (λ_ _=>nb) (λ_ z=>by cases z) (λ_ z=>by cases z)))
  ·exact .inl (.inr ⟨o,z4m (u :=.lst []) hO h2 (λ_ z=>by cases z) (λ_ z=>by cases z) (λ_ z=>by cases z)⟩)
  ·exact .inr h2
 | .dct ks vs,_,nl,nd,h=>by
  rw[RD] at h ⊢;obtain⟨a,xs,h1,h3,h4⟩:=h;have nb:¬ bD:=λb=>by have:=nd b; rw[noD] at this; cases this
  refine⟨a,xs,h1,RDs.minus hO vs (λb=>by have:=nl b; rwa [noL] at this) (λb=>(nb b).elim) h3,?_⟩
  rcases h4 with ⟨kvs,q,r⟩ | ⟨kvs,q,r⟩
  ·exact .inl ⟨kvs,z4m (u :=.lst []) hO q (λ_ z=>by cases z) (λ_ _=>nb) (λ_ _=>nb),r⟩
  ·exact .inr ⟨kvs,z4m (u :=.lst []) hO q (λ_ z=>by cases z) (λ_ _=>nb) (λ_ _=>nb),r⟩
def RDs.minus {bL bD:Prop}(hO:OK1 G O bL bD):∀(ds:List D) {xs:List V},(bL->noLs ds=true)->(bD->noDs ds=true)->RDs K mg G ds xs->RDs K mg (Pu.minus G O) ds xs
 | [],_,_,_,h=>by simpa[RDs] using h
 | d::ds,_,nl,nd,h=>by
  rw[RDs] at h ⊢;obtain⟨x,r,h1,h2,h3⟩:=h;exact⟨x,r,h1,RD.minus hO d (λb=>by have:=nl b; rw[noLs,Bool.and_eq_true] at this; exact this.1) (λb=>by have:=nd b; rw[noDs,Bool.and_eq_true] at this; exact this.1) h2,
   RDs.minus hO ds (λb=>by have:=nl b; rw[noLs,Bool.and_eq_true] at this; exact this.2) (λb=>by have:=nd b; rw[noDs,Bool.and_eq_true] at this; exact this.2) h3⟩
end
def z3u (ρ:Pu.Env)(σ:L2.St)(a:Addr):Prop:=∃(j:Nat) (d:D),ρ[j]? = some (B.o d)/\σ[j]? = some (some (V.ref a))
def AbS.free (h:AbS K mg H0 G0 G ρ σ H):∀a,z3u ρ σ a->G a=none:=λa ⟨j,d,e,q⟩=>by
 obtain⟨b,q',hb,_⟩:=h.ow j d e;rw[q] at q'; cases q';exact hb
def AbS.owned0 (h:AbS K mg H0 G0 G ρ σ H):∀a,z3u ρ σ a->H0 a=none:=λa ⟨j,d,e,q⟩=>by
 obtain⟨b,q',hb,h0,_⟩:=h.ow j d e;rw[q] at q'; cases q';exact h0
def AbS.nw1 {G1:Hp}(h:AbS K mg H0 G0 G ρ σ H)(g:Gr (plus G H (z3u ρ σ)) H G1):∀a o,G1 a=some o->(∃u,G0 a=some u)\/H0 a=none:=λa o e=>by
 rcases g.2 a o e with ⟨u,q⟩ | q
 ·by_cases z:z3u ρ σ a
  ·exact .inr (h.owned0 a z)
  ·unfold plus at q; rw[if_neg z] at q; exact h.nw a u q
 ·refine .inr ?_
  cases z:H0 a with
  | none=>rfl
  | some w=>rw[h.s0 a w z] at q; cases q
def AbS.nw2 {G1:Hp}(h:AbS K mg H0 G0 G ρ σ H)(g:Gr G H G1):∀a o,G1 a=some o->(∃u,G0 a=some u)\/H0 a=none:=λa o e=>by
 rcases g.2 a o e with ⟨u,q⟩ | q
 ·exact h.nw a u q
 ·refine .inr ?_
  cases z:H0 a with
  | none=>rfl
  | some w=>rw[h.s0 a w z] at q; cases q
def AbS.abe (h:AbS K mg H0 G0 G ρ σ H):AbE K mg (plus G H (z3u ρ σ)) ρ σ:=λi d e=>by
 rw[Env.get_eq] at e
 cases q:ρ[i]? with
 | none=>rw[q] at e; cases e
 | some b=>
  rw[q] at e
  cases b with
  | n=>cases e
  | s d'=>
   cases e
   obtain⟨v,h1,h2⟩:=h.sh i d q;exact⟨v,h1,h2.same (z4n h.free)⟩
  | o d'=>
   cases e
   obtain⟨a,h1,h2,h3,h4⟩:=h.ow i d q;exact⟨.ref a,h1,h4.rd (z4n h.free) (zdj ⟨i,d,q,h1⟩)⟩
def AbS.vis (h:AbS K mg H0 G0 G ρ σ H):AbE K mg G (vis ρ) σ:=λi d e=>by
 rw[Env.get_eq] at e;unfold Pu.vis at e;rw[List.getElem?_map] at e
 cases q:ρ[i]? with
 | none=>rw[q] at e; cases e
 | some b=>
  rw[q] at e
  cases b with
  | n=>cases e
  | s d'=>
   cases e
   exact h.sh i d q
  | o d'=>cases e
def Safe.get {d:D}:∀{ρ:Pu.Env}{j:Nat}{b:B},Safe d ρ->ρ[j]? = some b->zhF d b
 | [],_,_,_,e=>by simp at e
 | c::r,0,b,h,e=>by simp at e; subst e; exact h.1
 | c::r,j+1,b,h,e=>Safe.get (j:=j) h.2 (by simpa using e)
def zfS {G1:Hp}{d:D}{I:Nat->Prop}(h:AbS K mg H0 G0 G ρ σ H)(g2:Same G1 H1)(g3:Same H H1):
  OK1 G1 (λa=>∃(j:Nat) (d:D),I j/\ρ[j]? = some (B.o d)/\σ[j]? = some (some (V.ref a))) (∃(j:Nat) (l:List D),I j/\ρ[j]? = some (B.o (.lst l))) (∃(j:Nat) (k v:List D),I j/\ρ[j]? = some (B.o (.dct k v))):=λa ⟨j,d',hI,e,q⟩=>by
 obtain⟨b,q',hb,h0,hw⟩:=h.ow j d' e;rw[q] at q'; cases q'
 cases e1:G1 a with
 | none=>exact .inl rfl
 | some o=>
  have e2:=g2 a o e1
  cases d' with
  | lst ds=>
   obtain⟨xs,h1,h2⟩:=hw;rw[g3 a _ h1] at e2
   cases e2
   exact .inr (.inl ⟨⟨xs,rfl⟩,j,ds,hI,e⟩)
  | dct ks vs=>
   obtain⟨xs,h1,h2⟩:=hw
   rcases h2 with ⟨kvs,z,r⟩ | ⟨kvs,z,r⟩
   ·rw[g3 a _ z] at e2
    cases e2
    exact .inr (.inr ⟨.inl ⟨kvs,rfl⟩,j,ks,vs,hI,e⟩)
   ·rw[g3 a _ z] at e2
    cases e2
    exact .inr (.inr ⟨.inr ⟨kvs,rfl⟩,j,ks,vs,hI,e⟩)
  | _=>exact hw.elim
def z8h {G1:Hp}{d:D}{v:V}{i:Nat}(h:AbS K mg H0 G0 G ρ σ H)(g2:Same G1 H1)(g3:Same H H1)(sf:Safe d (ρ.set i .n))(rd:RD K mg G1 d v):
  RD K mg (Pu.minus G1 (λa=>∃(j:Nat) (d:D),j≠i/\ρ[j]? = some (B.o d)/\σ[j]? = some (some (V.ref a)))) d v:=by
 refine RD.minus (zfS (d:=d) (I:=λj=>j≠i) h g2 g3) d (λ⟨j,l,hj,e⟩ =>?_) (λ⟨j,k,v,hj,e⟩ =>?_) rd
 ·exact Safe.get sf (j:=j) (b :=.o (.lst l)) (by rw[List.getElem?_set_ne (Ne.symm hj)]; exact e)
 ·exact Safe.get sf (j:=j) (b :=.o (.dct k v)) (by rw[List.getElem?_set_ne (Ne.symm hj)]; exact e)
def zaU {G1:Hp}{d:D}{v:V}(h:AbS K mg H0 G0 G ρ σ H)(g2:Same G1 H1)(g3:Same H H1)(sf:Safe d ρ)(rd:RD K mg G1 d v):
  RD K mg (Pu.minus G1 (λa=>∃(j:Nat) (d:D),True/\ρ[j]? = some (B.o d)/\σ[j]? = some (some (V.ref a)))) d v:=by
 refine RD.minus (zfS (d:=d) (I:=λ_=>True) h g2 g3) d (λ⟨j,l,hj,e⟩ =>?_) (λ⟨j,k,v,hj,e⟩ =>?_) rd
 ·exact Safe.get sf (j:=j) (b :=.o (.lst l)) e
 ·exact Safe.get sf (j:=j) (b :=.o (.dct k v)) e
def AbS.put {G1:Hp}{i:Nat}{d:D}{v:V}(h:AbS K mg H0 G0 G ρ σ H)(nw:∀a o,G1 a=some o->(∃u,G0 a=some u)\/H0 a=none)(g1:Same G G1)(g2:Same G1 H1)(g3:Same H H1)(hO:∀(j:Nat) (d':D) (a:Addr),j≠i->ρ[j]? = some (B.o d')->σ[j]? = some (some (V.ref a))->G1 a=none)(rd:RD K mg G1 d v):
  AbS K mg H0 G0 G1 (ρ.set i (.s d)) (σ.set i (some v)) H1 where
 len:=by simp[h.len]
 s0:=z0c h.s0 g3
 g0:=z0c h.g0 g1
 g:=g2
 nw:=nw
 sh:=λj e q=>by
  by_cases hj:j=i
  ·subst hj;have hl:j < ρ.length:=by
    have:=(List.getElem?_eq_some_iff.mp q).1;simpa using this
   rw[List.getElem?_set_self hl] at q
   cases q
   exact⟨v,by rw[List.getElem?_set_self (by rw[h.len]; exact hl)],rd⟩
  ·rw[List.getElem?_set_ne (Ne.symm hj)] at q;obtain⟨w,h1,h2⟩:=h.sh j e q;exact⟨w,by rw[List.getElem?_set_ne (Ne.symm hj)]; exact h1,h2.same g1⟩
 ow:=λj e q=>by
  by_cases hj:j=i
  ·subst hj;have hl:j < ρ.length:=by
    have:=(List.getElem?_eq_some_iff.mp q).1;simpa using this
   rw[List.getElem?_set_self hl] at q
   cases q
  ·rw[List.getElem?_set_ne (Ne.symm hj)] at q;obtain⟨a,h1,h2,h3,h4⟩:=h.ow j e q;exact⟨a,by rw[List.getElem?_set_ne (Ne.symm hj)]; exact h1,hO j e a hj q h1,h3,h4.same g1 (g3 a)⟩
 ne:=λj k e e' a hjk q q' s s'=>by
  have hl:∀{j:Nat}{e:D},(ρ.set i (.s d))[j]? = some (B.o e)->j≠i:=λ{j e} q hj=>by
   subst hj;have hl:j < ρ.length:=by
    have:=(List.getElem?_eq_some_iff.mp q).1;simpa using this
   rw[List.getElem?_set_self hl] at q
   cases q
  have hj:=hl q;have hk:=hl q';rw[List.getElem?_set_ne (Ne.symm hj)] at q s;rw[List.getElem?_set_ne (Ne.symm hk)] at q' s';exact h.ne j k e e' a hjk q q' s s'
def AbS.own {G1:Hp}{i:Nat}{d:D}{a:Addr}(h:AbS K mg H0 G0 G ρ σ H)(nw:∀a o,G1 a=some o->(∃u,G0 a=some u)\/H0 a=none)(g1:Same G G1)(g2:Same G1 H1)(g3:Same H H1)(hO:∀(j:Nat) (d':D) (a:Addr),j≠i->ρ[j]? = some (B.o d')->σ[j]? = some (some (V.ref a))->G1 a=none)(hn:H a=none)(ga:G1 a=none)(hw:z7M K mg G1 H1 a d):
  AbS K mg H0 G0 G1 (ρ.set i (.o d)) (σ.set i (some (.ref a))) H1 where
 len:=by simp[h.len]
 s0:=z0c h.s0 g3
 g0:=z0c h.g0 g1
 g:=g2
 nw:=nw
 sh:=λj e q=>by
  by_cases hj:j=i
  ·subst hj;have hl:j < ρ.length:=by
    have:=(List.getElem?_eq_some_iff.mp q).1;simpa using this
   rw[List.getElem?_set_self hl] at q
   cases q
  ·rw[List.getElem?_set_ne (Ne.symm hj)] at q;obtain⟨w,h1,h2⟩:=h.sh j e q;exact⟨w,by rw[List.getElem?_set_ne (Ne.symm hj)]; exact h1,h2.same g1⟩
 ow:=λj e q=>by
  by_cases hj:j=i
  ·subst hj;have hl:j < ρ.length:=by
    have:=(List.getElem?_eq_some_iff.mp q).1;simpa using this
   rw[List.getElem?_set_self hl] at q
   cases q
   refine⟨a,by rw[List.getElem?_set_self (by rw[h.len]; exact hl)],ga,?_,hw⟩;exact z2N h.s0 hn
  ·rw[List.getElem?_set_ne (Ne.symm hj)] at q;obtain⟨b,h1,h2,h3,h4⟩:=h.ow j e q;exact⟨b,by rw[List.getElem?_set_ne (Ne.symm hj)]; exact h1,hO j e b hj q h1,h3,h4.same g1 (g3 b)⟩
 ne:=λj k e e' b hjk q q' s s'=>by
  have old:∀{j:Nat}{e:D},j≠i->(ρ.set i (.o d))[j]? = some (B.o e)->(σ.set i (some (.ref a)))[j]? = some (some (V.ref b))->ρ[j]? = some (B.o e)/\σ[j]? = some (some (V.ref b)):=λ{j e} hj q s=>by
   rw[List.getElem?_set_ne (Ne.symm hj)] at q s;exact⟨q,s⟩
  have new:∀{j:Nat}{e:D},j=i->(ρ.set i (.o d))[j]? = some (B.o e)->(σ.set i (some (.ref a)))[j]? = some (some (V.ref b))->b=a:=λ{j e} hj q s=>by
   subst hj;have hl:j < σ.length:=by
    have:=(List.getElem?_eq_some_iff.mp s).1;simpa using this
   rw[List.getElem?_set_self hl] at s
   cases s; rfl
  have none:∀{j:Nat}{e:D},ρ[j]? = some (B.o e)->σ[j]? = some (some (V.ref b))->b≠a:=λ{j e} q s z=>by
   obtain⟨b',h1,h2,h3,h4⟩:=h.ow j e q;rw[s] at h1; cases h1;obtain⟨o,ho⟩:=h4.some;rw[z,hn] at ho; cases ho
  by_cases hj:j=i
  ·have hb:=new hj q s;have hk:k≠i:=λz=>hjk (hj.trans z.symm);obtain⟨q1,s1⟩:=old hk q' s';exact none q1 s1 hb
  ·obtain⟨q1,s1⟩:=old hj q s
   by_cases hk:k=i
   ·exact none q1 s1 (new hk q' s')
   ·obtain⟨q2,s2⟩:=old hk q' s';exact h.ne j k e e' b hjk q1 q2 s1 s2
def AbS.wr {G1:Hp}{i:Nat}{d d':D}{a:Addr}{o:HO}(h:AbS K mg H0 G0 G ρ σ H)(nw:∀a o,G1 a=some o->(∃u,G0 a=some u)\/H0 a=none)(g1:Same G G1)(g2:Same G1 H1)(g3:Same H H1)(hO:∀(j:Nat) (d':D) (a:Addr),ρ[j]? = some (B.o d')->σ[j]? = some (some (V.ref a))->G1 a=none)(hi:ρ[i]? = some (B.o d))(hs:σ[i]? = some (some (V.ref a)))
  (hw:z7M K mg G1 (upd H1 a o) a d'):AbS K mg H0 G0 G1 (ρ.set i (.o d')) σ (upd H1 a o):=by
 obtain⟨a',e1,ga,h0a,hw0⟩:=h.ow i d hi;rw[hs] at e1; cases e1;have hl:i < ρ.length:=(List.getElem?_eq_some_iff.mp hi).1;refine⟨by simp[h.len],λb u e =>?_,z0c h.g0 g1,λb u e =>?_,nw,λj e q =>?_,λj e q =>?_,λj k e e' b hjk q q' s s' =>?_⟩
 ·have hb:b≠a:=λz=>by rw[z,h0a] at e; cases e
  rw[z0f hb]; exact g3 b u (h.s0 b u e)
 ·have hb:b≠a:=λz=>by rw[z,hO i d a hi hs] at e; cases e
  rw[z0f hb]; exact g2 b u e
 ·by_cases hj:j=i
  ·subst hj;rw[List.getElem?_set_self hl] at q; cases q
  ·rw[List.getElem?_set_ne (Ne.symm hj)] at q;obtain⟨w,h1,h2⟩:=h.sh j e q;exact⟨w,h1,h2.same g1⟩
 ·by_cases hj:j=i
  ·subst hj;rw[List.getElem?_set_self hl] at q; cases q;exact⟨a,hs,hO j d a hi hs,h0a,hw⟩
  ·rw[List.getElem?_set_ne (Ne.symm hj)] at q;obtain⟨b,h1,h2,h3,h4⟩:=h.ow j e q;have hb:b≠a:=λz=>by subst z; exact h.ne j i e d b hj q hi h1 hs
   exact⟨b,h1,hO j e b q h1,h3,h4.same g1 (λu e=>by rw[z0f hb]; exact g3 b u e)⟩
 ·have old:∀{j:Nat}{e:D},(ρ.set i (.o d'))[j]? = some (B.o e)->∃e',ρ[j]? = some (B.o e'):=λ{j e} q=>by
   by_cases hj:j=i
   ·subst hj; exact⟨d,hi⟩
   ·rw[List.getElem?_set_ne (Ne.symm hj)] at q; exact⟨e,q⟩
  obtain⟨x,q1⟩:=old q;obtain⟨y,q2⟩:=old q';exact h.ne j k x y b hjk q1 q2 s s'
def AbS.dem1 (h:AbS K mg H0 G0 G ρ σ H)(j:Nat):∃G',AbS K mg H0 G0 G' (ρ.set j (demB ((ρ[j]?).getD .n))) σ H/\Same G G':=by
 cases q:ρ[j]? with
 | none=>
  have:ρ.set j (demB ((none:Option B).getD .n))=ρ:=by
   apply List.set_eq_of_length_le;exact List.getElem?_eq_none_iff.mp q
  rw[this];exact⟨G,h,Same.refl'⟩
 | some b=>
  have hl:j < ρ.length:=(List.getElem?_eq_some_iff.mp q).1;have same:∀b',b=b'->demB b'=b'->∃G',AbS K mg H0 G0 G' (ρ.set j (demB ((some b).getD .n))) σ H/\Same G G':=λb' e e'=>by
   subst e;have:ρ.set j (demB ((some b).getD .n))=ρ:=by
    show ρ.set j (demB b)=ρ;rw[e'];apply List.ext_getElem?;intro k
    by_cases hk:k=j
    ·subst hk; rw[List.getElem?_set_self hl,q]
    ·rw[List.getElem?_set_ne (Ne.symm hk)]
   rw[this];exact⟨G,h,Same.refl'⟩
  cases b with
  | n=>exact same .n rfl rfl
  | s d=>exact same (.s d) rfl rfl
  | o d=>
   obtain⟨a,s1,ga,h0a,hw⟩:=h.ow j d q;show ∃G',AbS K mg H0 G0 G' (ρ.set j (.s d)) σ H/\Same G G';have lp:Same G (plus G H (· = a)):=z4n (λb z=>by rw[z]; exact ga);refine⟨plus G H (· = a),⟨by simp[h.len],h.s0,z0c h.g0 lp,z6m h.g,λb o e=>(by
     by_cases hb:b=a
     ·exact .inr (by rw[hb]; exact h0a)
     ·unfold plus at e; rw[if_neg hb] at e; exact h.nw b o e),λk e z =>?_,λk e z =>?_,λk l e e' b hkl z z' s s' =>?_⟩,lp⟩
   ·by_cases hk:k=j
    ·subst hk;rw[List.getElem?_set_self hl] at z; cases z;exact⟨.ref a,s1,hw.rd lp (zdj rfl)⟩
    ·rw[List.getElem?_set_ne (Ne.symm hk)] at z;obtain⟨w,h1,h2⟩:=h.sh k e z;exact⟨w,h1,h2.same lp⟩
   ·by_cases hk:k=j
    ·subst hk;rw[List.getElem?_set_self hl] at z; cases z
    ·rw[List.getElem?_set_ne (Ne.symm hk)] at z;obtain⟨b,h1,h2,h3,h4⟩:=h.ow k e z;have hb:b≠a:=λy=>by subst y; exact h.ne k j e d b hk z q h1 s1
     refine⟨b,h1,?_,h3,h4.same lp (λ_ e=>e)⟩;unfold plus;rw[if_neg hb]; exact h2
   ·have old:∀{k:Nat}{e:D},(ρ.set j (.s d))[k]? = some (B.o e)->ρ[k]? = some (B.o e):=λ{k e} z=>by
     by_cases hk:k=j
     ·subst hk; rw[List.getElem?_set_self hl] at z; cases z
     ·rw[List.getElem?_set_ne (Ne.symm hk)] at z; exact z
    exact h.ne k l e e' b hkl (old z) (old z') s s'
def AbS.dem (js:List Nat):∀{G:Hp}{ρ:Pu.Env},AbS K mg H0 G0 G ρ σ H->∃G',AbS K mg H0 G0 G' (dem js ρ) σ H/\Same G G':=by
 induction js with
 | nil=>intro G ρ h; exact⟨G,h,Same.refl'⟩
 | cons j js ih=>
  intro G ρ h;obtain⟨G1,h1,g1⟩:=h.dem1 j;obtain⟨G2,h2,g2⟩:=ih h1;exact⟨G2,h2,z0c g1 g2⟩
end
end Pu
namespace Pu
open PySem PySem.Spec PyProof.Rows L2
def Kn (K:W.Frag)(mg:Str->Option Value)(H0 G0 G:Hp)(N0:Pu.Env->Prop)(N:L2.St->Hp->Prop):Prop:=∀ρ' σ' H' G',N0 ρ'->AbS K mg H0 G0 G' ρ' σ' H'->Same G G'->N σ' H'
def Kr (K:W.Frag)(mg:Str->Option Value)(H0 G0:Hp)(R0:DK)(R:VK):Prop:=∀d v G' H',R0 d->Gr G0 H0 G'->Same G' H'->Same H0 H'->RD K mg G' d v->R v H'
def ts (K:W.Frag)(mg:Str->Option Value)(E:XK)(t:Sm):TS:=λD σ H=>∃H0 G0 G ρ N0 R0 X0,AbS K mg H0 G0 G ρ σ H/\t.run ρ N0 R0 X0/\Kn K mg H0 G0 G N0 D.nx/\Kr K mg H0 G0 R0 D.rt/\Kx mg H0 X0 E
def Kn.same {K:W.Frag}{mg:Str->Option Value}{H0 G0 G G1:Hp}{N0:Pu.Env->Prop}{N:L2.St->Hp->Prop}(h:Kn K mg H0 G0 G N0 N)(g:Same G G1):Kn K mg H0 G0 G1 N0 N:=λρ' σ' H' G' a b c=>h ρ' σ' H' G' a b (z0c g c)
abbrev QZ (X:Cx)(E:XK)(st:Stmt)(t:Sm):Prop:=QS X st (ts X.K X.mg E t)
abbrev QZs (X:Cx)(E:XK)(st:List Stmt)(t:Sm):Prop:=QSs X st (ts X.K X.mg E t)
section
variable {X:Cx}{E:XK}{st:Stmt}{rest body la lb:List Stmt}{t u:Sm}{e a b c:Expr}{x y z:Ex}{pos:Pos}
def z10:QZs X E [] .skip:=QSs.imp zgt λD σ H ⟨H0,G0,G,ρ,N0,R0,X0,ab,hr,hn,hR,hx⟩=>hn ρ σ H G hr ab Same.refl'
def z08 (h:QZ X E st t):QZs X E [st] t:=zgs h
def z05 (h:QZ X E st t)(h':QZs X E rest u):QZs X E (st::rest) (.seq t u):=QSs.imp (zeD h h') λD σ H ⟨H0,G0,G,ρ,N0,R0,X0,ab,hr,hn,hR,hx⟩=>
 ⟨H0,G0,G,ρ,λρ'=>u.run ρ' N0 R0 X0,R0,X0,ab,hr,λρ' σ' H' G' q ab' g=>⟨H0,G0,G',ρ',N0,R0,X0,ab',q,hn.same g,hR,hx⟩,hR,hx⟩
def zhr {K:W.Frag}{mg:Str->Option Value}{H0 G0 G H:Hp}{ρ:Pu.Env}{σ:L2.St}{Q0:DK}{X0:XP}{Q:VK}(ab:AbS K mg H0 G0 G ρ σ H)(hr:x.run ρ Q0 X0)(hx:Kx mg H0 X0 E)(hk:Kt K mg (plus G H (z3u ρ σ)) H Q0 Q):tx K mg E x σ H Q:=
 ⟨plus G H (z3u ρ σ),ρ,Q0,X0,z6m ab.g,ab.abe,hr,hk,hx.same ab.s0⟩
def AbS.back {K:W.Frag}{mg:Str->Option Value}{H0 G0 G G1 H H1:Hp}{ρ:Pu.Env}{σ:L2.St}(ab:AbS K mg H0 G0 G ρ σ H)(g1:Gr (plus G H (z3u ρ σ)) H G1)(g2:Same G1 H1)(g3:Same H H1):AbS K mg H0 G0 (minus G1 (z3u ρ σ)) ρ σ H1/\Same G (minus G1 (z3u ρ σ)):=by
 have hf:=ab.free;have lm:Same G (minus G1 (z3u ρ σ)):=z5Q (z0c (z4n hf) g1.1) hf;exact⟨⟨ab.len,z0c ab.s0 g3,z0c ab.g0 lm,z0c z3C g2,λa o e=>ab.nw1 g1 a o (z3C a o e),λi d e=>by
   obtain⟨v,h1,h2⟩:=ab.sh i d e;exact⟨v,h1,h2.same lm⟩,λi d e=>by
   obtain⟨a,h1,h2,h3,h4⟩:=ab.ow i d e;exact⟨a,h1,z6Z ⟨i,d,e,h1⟩,h3,h4.same lm (g3 a)⟩,ab.ne⟩,lm⟩
def zhs {K:W.Frag}{mg:Str->Option Value}{H0 G0 G H:Hp}{ρ:Pu.Env}{σ:L2.St}{A B:Prop}{X0:XP}{Q:Bool->Hp->Prop}(ab:AbS K mg H0 G0 G ρ σ H)(hr:x.run ρ (λd=>tst d A B) X0)(hx:Kx mg H0 X0 E)
  (ha:A->∀H' G',AbS K mg H0 G0 G' ρ σ H'->Same G G'->Q true H') (hb:B->∀H' G',AbS K mg H0 G0 G' ρ σ H'->Same G G'->Q false H'):tt K mg E x σ H Q:=by
 refine⟨plus G H (z3u ρ σ),ρ,_,X0,z6m ab.g,ab.abe,hr,λd G1 H1 q g1 g2 g3 =>?_,hx.same ab.s0⟩;obtain⟨b,rfl,q1,q2⟩:=z8c q;refine⟨b,rfl,?_⟩;obtain⟨ab',lm⟩:=ab.back g1 g2 g3
 cases b with
 | true=>exact ha (q1 rfl) H1 _ ab' lm
 | false=>exact hb (q2 rfl) H1 _ ab' lm
def z25 (hc:QXT X E c z)(ha:QZs X E la t)(hb:QZs X E lb u):QZ X E (.If c la lb pos) (.ifs z t u):=QS.imp (zjZ hc ha hb) λD σ H ⟨H0,G0,G,ρ,N0,R0,X0,ab,hr,hn,hR,hx⟩=>by
 refine zhs ab hr hx (λq H' G' ab' g =>?_) (λq H' G' ab' g =>?_)
 ·exact iteT ⟨H0,G0,G',ρ,N0,R0,X0,ab',q,hn.same g,hR,hx⟩
 ·exact iteF ⟨H0,G0,G',ρ,N0,R0,X0,ab',q,hn.same g,hR,hx⟩
def z0g (he:QX X E e x):QZ X E (.Return (some e) pos) (.ret x):=QS.imp (zi4 he) λD σ H ⟨H0,G0,G,ρ,N0,R0,X0,ab,hr,hn,hR,hx⟩=>
 zhr ab hr hx λd v G1 H1 q g1 g2 g3 rd=>hR d v G1 H1 q ⟨z0c ab.g0 (z0c (z4n ab.free) g1.1),ab.nw1 g1⟩ g2 (z0c ab.s0 g3) rd
def z5a (i:Nat)(ρ:Pu.Env)(σ:L2.St)(a:Addr):Prop:=∃(j:Nat) (d:D),j≠i/\ρ[j]? = some (B.o d)/\σ[j]? = some (some (V.ref a))
def z09 {i:Nat}{tg:Expr}(h:QS X (.Assign [tg] e pos) (tAsg (tx X.K X.mg E x) (z6x i))):QZ X E (.Assign [tg] e pos) (.set i x):=QS.imp h λD σ H ⟨H0,G0,G,ρ,N0,R0,X0,ab,hr,hn,hR,hx⟩=>
 zhr ab hr hx λd v G1 H1 q g1 g2 g3 rd=>by
  have hf:∀a,z5a i ρ σ a->G a=none:=λa ⟨j,d,_,h1,h2⟩=>ab.free a ⟨j,d,h1,h2⟩;have lm:Same G (minus G1 (z5a i ρ σ)):=z5Q (z0c (z4n ab.free) g1.1) hf;exact hn (ρ.set i (.s d)) (σ.set i (some v)) H1 _ q.2 (ab.put (λa o e=>ab.nw1 g1 a o (z3C a o e)) lm (z0c z3C g2) g3 (λj d' a hj e s=>z6Z ⟨j,d',hj,e,s⟩) (z8h ab g2 g3 q.1 rd)) lm
def Kf (K:W.Frag)(mg:Str->Option Value)(G H:Hp)(Q0:DK)(Q:VK):Prop:=∀d a G' H',Q0 d->Gr G H G'->Same G' H'->Same H H'->H a=none->G' a=none->z7M K mg G' H' a d->Q (.ref a) H'
def tf (K:W.Frag)(mg:Str->Option Value)(E:XK)(e:Ex):TE:=λσ H Q=>∃G ρ Q0 X0,Same G H/\AbE K mg G ρ σ/\e.run ρ Q0 X0/\Kf K mg G H Q0 Q/\Kx mg H X0 E
abbrev QF (X:Cx)(E:XK)(e:Expr)(x:Ex):Prop:=QE X e (tf X.K X.mg E x)
def Kt.kf {K:W.Frag}{mg:Str->Option Value}{G H:Hp}{Q0:DK}{Q:VK}(h:Kt K mg G H Q0 Q):Kf K mg G H Q0 Q:=λd a G' H' q g1 g2 g3 hn gn hw=>by
 obtain⟨o,ho⟩:=hw.some;have lp:Same G' (upd G' a o):=z0X gn o;refine h d (.ref a) (upd G' a o) H' q ⟨z0c g1.1 lp,λb u e =>?_⟩ (λb u e =>?_) g3 (hw.rd lp (by rw[z0t]; exact ho.symm))
 ·by_cases hb:b=a
  ·subst hb; exact .inr hn
  ·rw[z0f hb] at e; exact g1.2 b u e
 ·by_cases hb:b=a
  ·subst hb; rw[z0t] at e; rw[ho]; exact e
  ·rw[z0f hb] at e; exact g2 b u e
def QF.qx (h:QF X E e x):QX X E e x:=QE.imp h λσ H Q ⟨G,ρ,Q0,X0,hs,ab,hr,hk,hx⟩=>⟨G,ρ,Q0,X0,hs,ab,hr,hk.kf,hx⟩
def zbw {i:Nat}{tg:Expr}(h:QS X (.Assign [tg] e pos) (tAsg (tf X.K X.mg E x) (z6x i))):QZ X E (.Assign [tg] e pos) (.own i x):=QS.imp h λD σ H ⟨H0,G0,G,ρ,N0,R0,X0,ab,hr,hn,hR,hx⟩=>by
 refine⟨plus G H (z3u ρ σ),ρ,_,X0,z6m ab.g,ab.abe,hr,λd a G1 H1 q g1 g2 g3 ha ga hw =>?_,hx.same ab.s0⟩;have hf:∀a,z5a i ρ σ a->G a=none:=λa ⟨j,d,_,h1,h2⟩=>ab.free a ⟨j,d,h1,h2⟩;have lm:Same G (minus G1 (z5a i ρ σ)):=z5Q (z0c (z4n ab.free) g1.1) hf;have z0d:∀(l:List Pu.D) (xs:List V),(∀x∈l,Safe x (ρ.set i .n))->RDs X.K X.mg G1 l xs->RDs X.K X.mg (minus G1 (z5a i ρ σ)) l xs:=by
  intro l
  induction l with
  | nil=>intro xs _ h; rw[RDs] at h ⊢; exact h
  | cons y l ih=>
   intro xs hs h;rw[RDs] at h ⊢;obtain⟨v,r,h1,h2,h3⟩:=h;exact⟨v,r,h1,z8h ab g2 g3 (hs y List.mem_cons_self) h2,ih r (λz hz=>hs z (List.mem_cons_of_mem _ hz)) h3⟩
 have na:minus G1 (z5a i ρ σ) a=none:=by
  unfold minus
  split
  ·rfl
  ·exact ga
 refine hn (ρ.set i (.o d)) (σ.set i (some (.ref a))) H1 _ q.2 (ab.own (λa o e=>ab.nw1 g1 a o (z3C a o e)) lm (z0c z3C g2) g3 (λj d' a hj e s=>z6Z ⟨j,d',hj,e,s⟩) ha na ?_) lm;have q1:=q.1
 cases d with
 | lst l=>
  obtain⟨xs,h1,h2⟩:=hw;exact⟨xs,h1,z0d l xs q1 h2⟩
 | dct ks vs=>
  obtain⟨xs,h1,h2⟩:=hw;exact⟨xs,z0d vs xs q1 h1,h2⟩
 | _=>exact q1.elim
end
section
variable {X:Cx}{E:XK}{st:Stmt}{rest body la lb:List Stmt}{t u:Sm}{e a b c tg iter:Expr}{x y z:Ex}{pos:Pos}
def zbF {o:Option (List D)}{Q:List D->Prop}(h:onL o Q):∃l,o=some l/\Q l:=by
 cases o with
 | none=>exact h.elim
 | some l=>exact⟨l,rfl,h⟩
def z8P (hp:PassesOwn (model X.prog X.w) X.A X.env X.xe)(hc:QXT X E c z)(hb:QZs X E body t):QZ X E (.While c body [] pos) (.wh z t):=QS.imp (zeE hp hc hb) λD σ H ⟨H0,G0,G,ρ,N0,R0,X0,ab,⟨n,hr⟩,hn,hR,hx⟩=>by
 refine⟨λm σ' H'=>∃G' ρ',AbS X.K X.mg H0 G0 G' ρ' σ' H'/\Same G G'/\wh z t N0 R0 X0 m ρ',⟨n,G,ρ,ab,Same.refl',hr⟩,?_⟩;rintro m σ1 H1 ⟨G1,ρ1,ab1,g1,h1⟩
 cases m with
 | zero=>exact h1.elim
 | succ m=>
  refine zhs ab1 h1 hx (λq H2 G2 ab2 g2 =>?_) (λq H2 G2 ab2 g2 =>?_)
  ·refine iteT ⟨λσ' H'=>∃G' ρ',AbS X.K X.mg H0 G0 G' ρ' σ' H'/\Same G G'/\wh z t N0 R0 X0 m ρ',λσ' H' w=>⟨m,Nat.lt_succ_self _,w⟩,?_⟩;exact⟨H0,G0,G2,ρ1,wh z t N0 R0 X0 m,R0,X0,ab2,q,λρ' σ' H' G' w ab' g'=>⟨G',ρ',ab',z0c g1 (z0c g2 g'),w⟩,hR,hx⟩
  ·exact iteF (hn ρ1 σ1 H2 G2 q ab2 (z0c g1 g2))
def Walk (K:W.Frag)(mg:Str->Option Value)(G:Hp)(l:List D)(J:It):Prop:=∀(i:Nat) (G1 H:Hp),Same G G1->Same G1 H->
 (∀d,l[i]? = some d->J.go i H/\∀v H',J.yld i H v H'->Same H H'/\∃G2,Gr G1 H G2/\Same G2 H'/\RD K mg G2 d v)/\(l.length<=i->J.stop i H)
def ti (K:W.Frag)(mg:Str->Option Value)(E:XK)(e:Ex):TI:=λσ H R=>∃G ρ Q0 X0,Same G H/\AbE K mg G ρ σ/\e.run ρ Q0 X0/\(∀d,Q0 d->∃l,z0d d=some l)/\(∀d G' H',Q0 d->Gr G H G'->Same G' H'->Same H H'->∀l J,z0d d=some l->Walk K mg G' l J->R J H')/\Kx mg H X0 E
abbrev QXI (X:Cx)(E:XK)(tg e:Expr)(x:Ex):Prop:=QI X tg e (ti X.K X.mg E x)
def tgt (K:W.Frag):Tg->TG
 | .nm i=>z6x i
 | .tp is=>gTup K is.length (is.foldr (λi r=>zjr (z6x i) r) gNil)
def z7r {K:W.Frag}:∀(is:List Nat) (vs:List V) (σ:L2.St) (H:Hp) (Q:L2.St->Hp->Prop),is.length=vs.length->Q ((is.zip vs).foldl (λσ p=>σ.set p.1 (some p.2)) σ) H->(is.foldr (λi r=>zjr (z6x i) r) gNil) vs σ H Q
 | [],[],_,_,_,_,q=>⟨rfl,q⟩
 | [],_::_,_,_,_,h,_=>by simp at h
 | _::_,[],_,_,_,h,_=>by simp at h
 | i::is,v::vs,σ,H,Q,h,q=>⟨v,vs,rfl,z7r (K:=K) is vs _ H Q (by simpa using h) q⟩
def AbS.putAll {K:W.Frag}{mg:Str->Option Value}{H0 G0 H:Hp}:∀(is:List Nat) (ds:List D) (vs:List V) {G:Hp}{ρ:Pu.Env}{σ:L2.St},is.length=ds.length->RDs K mg G ds vs->AbS K mg H0 G0 G ρ σ H->
  AbS K mg H0 G0 G (zbp is ds ρ) ((is.zip vs).foldl (λσ p=>σ.set p.1 (some p.2)) σ) H
 | [],[],vs,G,ρ,σ,_,h,ab=>by rw[RDs] at h; subst h; exact ab
 | [],_::_,_,_,_,_,h,_,_=>by simp at h
 | _::_,[],_,_,_,_,h,_,_=>by simp at h
 | i::is,d::ds,vs,G,ρ,σ,h,r,ab=>by
  rw[RDs] at r;obtain⟨v,vs',rfl,h1,h2⟩:=r;exact AbS.putAll is ds vs' (by simpa using h) h2 (ab.put ab.nw Same.refl' ab.g Same.refl' (λj d' a hj e s=>ab.free a ⟨j,d',e,s⟩) h1)
def zgb {K:W.Frag}{mg:Str->Option Value}{H0 G0 G H:Hp}{ρ:Pu.Env}{σ:L2.St}{tg:Tg}{d:D}{v:V}{N0:Pu.Env->Prop}{N:L2.St->Hp->Prop}(ab:AbS K mg H0 G0 G ρ σ H)(rd:RD K mg G d v)(hp:tg.put d ρ N0)(hn:∀ρ' σ',N0 ρ'->AbS K mg H0 G0 G ρ' σ' H->N σ' H):tgt K tg v σ H N:=by
 cases tg with
 | nm i=>exact hn _ _ hp (ab.put ab.nw Same.refl' ab.g Same.refl' (λj d' a hj e s=>ab.free a ⟨j,d',e,s⟩) rd)
 | tp is=>
  cases d with
  | tup ds=>
   obtain⟨hl,hp⟩:=hp;rw[RD] at rd;obtain⟨a,xs,rfl,h1,h2⟩:=rd;exact⟨a,xs,rfl,z2r ab.g h1,by rw[h2.len,hl],z7r (K:=K) is xs σ H N (by rw[h2.len,hl]) (hn _ _ hp (ab.putAll is ds xs hl h2))⟩
  | _=>exact hp.elim
def AbS.over {K:W.Frag}{mg:Str->Option Value}{H0 G0 G G2 H H2:Hp}{ρ:Pu.Env}{σ:L2.St}(ab:AbS K mg H0 G0 G ρ σ H)(g2:Gr G H G2)(k2:Same G2 H2)(s2:Same H H2):AbS K mg H0 G0 G2 ρ σ H2 where
 len:=ab.len
 s0:=z0c ab.s0 s2
 g0:=z0c ab.g0 g2.1
 g:=k2
 nw:=ab.nw2 g2
 sh:=λi d e=>by
  obtain⟨v,h1,h2⟩:=ab.sh i d e;exact⟨v,h1,h2.same g2.1⟩
 ow:=λi d e=>by
  obtain⟨a,h1,h2,h3,h4⟩:=ab.ow i d e;refine⟨a,h1,?_,h3,h4.same g2.1 (s2 a)⟩
  cases z:G2 a with
  | none=>rfl
  | some o=>
   obtain⟨u,hu⟩:=h4.some
   rcases g2.2 a o z with ⟨w,q⟩ | q
   ·rw[h2] at q; cases q
   ·rw[hu] at q; cases q
 ne:=ab.ne
def z7t {K:W.Frag}{mg:Str->Option Value}{H0 G0 G H:Hp}{ρ:Pu.Env}{σ:L2.St}{l:List D}{J:It}{tg:Tg}{N0:Pu.Env->Prop}{R0:DK}{X0:XP}{De:Ends}(ab:AbS K mg H0 G0 G ρ σ H)(hw:Walk K mg G l J)(hr:forL tg t N0 R0 X0 l ρ)
  (hn:Kn K mg H0 G0 G N0 De.nx) (hR:Kr K mg H0 G0 R0 De.rt) (hx:Kx mg H0 X0 E):
  ∃W:Nat->Nat->L2.St->Hp->Prop,(∃m,W 0 m σ H)/\∀i m σ H,W i m σ H->
   (J.stop i H/\De.nx σ H)\/(J.go i H/\∃N:L2.St->Hp->Prop,(∀σ' H',N σ' H'->∃m',m'<m/\W (i+1) m' σ' H')/\∀x H',J.yld i H x H'->tgt K tg x σ H' λσ2 H2=>ts K mg E t { De with nx:=N,ct:=N,bk:=De.nx } σ2 H2):=by
 refine⟨λi m σ H=>m=l.length - i/\i<=l.length/\∃G1 ρ1,AbS K mg H0 G0 G1 ρ1 σ H/\Same G G1/\forL tg t N0 R0 X0 (l.drop i) ρ1,⟨l.length,by simp,Nat.zero_le _,G,ρ,ab,Same.refl',by simpa using hr⟩,?_⟩;rintro i m σ1 H1 ⟨rfl,hi,G1,ρ1,ab1,g1,h1⟩;obtain⟨w1,w2⟩:=hw i G1 H1 g1 ab1.g
 by_cases hlt:i<l.length
 ·have e:l[i]? = some l[i]:=by simp[hlt]
  obtain⟨go,yl⟩:=w1 _ e;rw[List.drop_eq_getElem_cons hlt] at h1;refine .inr ⟨go,λσ' H'=>∃G2 ρ2,AbS K mg H0 G0 G2 ρ2 σ' H'/\Same G G2/\forL tg t N0 R0 X0 (l.drop (i+1)) ρ2,λσ' H' w=>⟨l.length - (i+1),by omega,rfl,hlt,w⟩,λv H2 y =>?_⟩;obtain⟨s2,G2,g2,k2,rd⟩:=yl v H2 y;have ab2:=ab1.over g2 k2 s2;refine zgb ab2 rd h1 λρ3 σ3 hb ab3 =>?_;exact⟨H0,G0,G2,ρ3,_,R0,X0,ab3,hb,λρ' σ' H' G' w ab' g'=>⟨G',ρ',ab',z0c g1 (z0c g2.1 g'),w⟩,hR,hx⟩
 ·have e:i=l.length:=by omega
  subst e;rw[List.drop_length] at h1;exact .inl ⟨w2 (Nat.le_refl _),hn ρ1 σ1 H1 G1 h1 ab1 g1⟩
def z7b {js:List Nat}{g:Tg}(hp:PassesOwn (model X.prog X.w) X.A X.env X.xe)(hc:X.calm=true)(hi:QXI X E tg iter x)(hg:QG X tg (tgt X.K g))(hb:QZs X E body t)(hs:∀x,foldedSetIterable iter X.env x=pure x:=by intro _; rfl):
  QZ X E (.For tg iter body [] pos) (.for_ js g x t):=QS.imp (zfO hp hc hi hg hb hs) λD σ H ⟨H0,G0,G,ρ,N0,R0,X0,ab,hr,hn,hR,hx⟩=>by
 obtain⟨G',ab',g'⟩:=ab.dem js;refine⟨G',vis (dem js ρ),_,X0,ab'.g,ab'.vis,hr,λd q=>(zbF q).imp λ_ z=>z.1,λd G1 H1 q g1 g2 g3 l J el hw =>?_,hx.same ab.s0⟩;have q':onL (z0d d) λl=>forL g t N0 R0 X0 l (dem js ρ):=q;rw[el] at q';exact z7t (E:=E) (ab'.over g1 g2 g3) hw q' (hn.same (z0c g' g1.1)) hR hx
def z8b {K:W.Frag}{mg:Str->Option Value}{G:Hp}{lo:Int}{n:Nat}:Walk K mg G ((List.range n).map λ(k:Nat)=>D.int (lo+(k:Int))) (Itr lo n):=λi G1 H g1 g2=>by
 refine⟨λd e =>?_,λhi=>(show n<=i by simpa using hi)⟩;obtain⟨h,e'⟩:=List.getElem?_eq_some_iff.mp e;have hi:i<n:=by simpa using h
 refine⟨hi,λv H' y =>?_⟩;obtain⟨rfl,rfl⟩:=y;refine⟨Same.refl',G1,Gr.refl,g2,?_⟩;rw[<- e'];simp only[List.getElem_map,List.getElem_range];rw[RD]
def z1i {K:W.Frag}{mg:Str->Option Value}{G:Hp}{i:Int}{v:V}(h:RD K mg G (.int i) v):v = .int i:=by rw[RD] at h; exact h
def rds1 {K:W.Frag}{mg:Str->Option Value}{G:Hp}{d:D}{vs:List V}(h:RDs K mg G [d] vs):∃v,vs=[v]/\RD K mg G d v:=by
 rw[RDs] at h;obtain⟨x,r,rfl,h1,h2⟩:=h;rw[RDs] at h2;subst h2;exact⟨x,rfl,h1⟩
def rds2 {K:W.Frag}{mg:Str->Option Value}{G:Hp}{d e:D}{vs:List V}(h:RDs K mg G [d,e] vs):∃v w,vs=[v,w]/\RD K mg G d v/\RD K mg G e w:=by
 rw[RDs] at h;obtain⟨x,r,rfl,h1,h2⟩:=h;obtain⟨y,rfl,h3⟩:=rds1 h2;exact⟨x,y,rfl,h1,h3⟩
def zeT {K:W.Frag}{mg:Str->Option Value}{G:Hp}{ds:List D}{vs:List V}{Kk:List D->Prop}(rds:RDs K mg G ds vs)(h:onR ds Kk):
  (∃j:Int,vs=[.int j] /\ -(2 ^ 62)<=j/\j<2 ^ 62/\Kk ((List.range j.toNat).map λ(k:Nat)=>D.int (0+(k:Int))))\/∃i j:Int,vs=[.int i,.int j]/\(-(2 ^ 62)<=i/\i<2 ^ 62 /\ -(2 ^ 62)<=j/\j<2 ^ 62)/\Kk ((List.range (j - i).toNat).map λ(k:Nat)=>D.int (i+(k:Int))):=by
 unfold onR at h
 split at h
 ·obtain⟨v,rfl,r1⟩:=rds1 rds;refine .inl ⟨_,by rw[z1i r1],h.1.1,h.1.2,?_⟩;simpa using h.2
 ·obtain⟨v,w,rfl,r1,r2⟩:=rds2 rds;exact .inr ⟨_,_,by rw[z1i r1,z1i r2],⟨h.1.1.1,h.1.1.2,h.1.2.1,h.1.2.2⟩,h.2⟩
 ·exact h.elim
def zcG {K:W.Frag}{mg:Str->Option Value}{es:List Ex}{n:Nat}{σ:L2.St}{H:Hp}{Q Q':List V->Hp->Prop}(hl:es.length=n)(m:∀vs H1,vs.length=n->Q vs H1->Q' vs H1)(h:txa K mg E es σ H Q):txa K mg E es σ H Q':=by
 obtain⟨G,ρ,Q0,X0,hs,ab,hr,hk,hx⟩:=h;have len:∀(es:List Ex) (Q:List D->Prop),runs es ρ Q X0->runs es ρ (λds=>ds.length=es.length/\Q ds) X0:=by
  intro es
  induction es with
  | nil=>intro Q h; exact⟨rfl,h⟩
  | cons e es ih=>
   intro Q h;exact e.mono ρ _ _ X0 X0 (λd q=>z4L es ρ _ _ X0 X0 (λds q=>⟨by simp[q.1],q.2⟩) (λ_ z=>z) (ih _ q)) (λ_ z=>z) h
 exact⟨G,ρ,_,X0,hs,ab,len es Q0 hr,λds vs G1 H1 q g1 g2 g3 rds=>m vs H1 (by rw[rds.len,q.1,hl]) (hk ds vs G1 H1 q.2 g1 g2 g3 rds),hx⟩
def zd6 {g:Tg}{es:List Ex}{wi:TI}(hp:PassesOwn (model X.prog X.w) X.A X.env X.xe)(hc:X.calm=true)(hg:QG X tg (tgt X.K g))(hb:QZs X E body t)
  (hri:∀σ H R,(txa X.K X.mg E es σ H λvs H1=>(∃j:Int,vs=[.int j] /\ -(2 ^ 62)<=j/\j<2 ^ 62/\R (Itr 0 j.toNat) H1)\/∃i j:Int,vs=[.int i,.int j]/\(-(2 ^ 62)<=i/\i<2 ^ 62 /\ -(2 ^ 62)<=j/\j<2 ^ 62)/\R (Itr i (j - i).toNat) H1)->wi σ H R) (hi':QI X tg iter wi)
  (hs:∀x,foldedSetIterable iter X.env x=pure x:=by intro _; rfl):
  QZ X E (.For tg iter body [] pos) (.forr es g t):=QS.imp (zfO hp hc hi' hg hb hs) λDe σ H ⟨H0,G0,G,ρ,N0,R0,X0,ab,hr,hn,hR,hx⟩=>by
 refine hri σ H _ ⟨plus G H (z3u ρ σ),ρ,λds=>onR ds λl=>forL g t N0 R0 X0 l ρ,X0,z6m ab.g,ab.abe,hr,λds vs G1 H1 q g1 g2 g3 rds =>?_,hx.same ab.s0⟩;obtain⟨ab',lm⟩:=ab.back g1 g2 g3
 rcases zeT rds q with ⟨j,e,h1,h2,q'⟩ | ⟨i,j,e,h1,q'⟩
 ·exact .inl ⟨j,e,h1,h2,z7t (E:=E) ab' z8b q' (hn.same lm) hR hx⟩
 ·exact .inr ⟨i,j,e,h1,z7t (E:=E) ab' z8b q' (hn.same lm) hR hx⟩
def z6X {g:Tg}{p pos2:Pos}(hp:PassesOwn (model X.prog X.w) X.A X.env X.xe)(hc:X.calm=true)(hgr:Gl X "range")(hm:X.mg "range"=none)(ha:QXA X E [a] [x])(hg:QG X tg (tgt X.K g))(hb:QZs X E body t)(hst:starEach [a] X.env=[(false,eval a X.env)]:=by rfl)
  (hs:∀x,foldedSetIterable (.Call (.Name "range" p) [a] [] pos2) X.env x=pure x:=by intro _; rfl):QZ X E (.For tg (.Call (.Name "range" p) [a] [] pos2) body [] pos) (.forr [x] g t):=
 zd6 hp hc hg hb (λσ H R h=>zcG (n:=1) rfl (λvs H1 hl q=>by
  rcases q with q | ⟨i,j,e,_⟩
  ·exact q
  ·rw[e] at hl; simp at hl) h) (zdc hgr hm ha hst) hs
def zeA {g:Tg}{p pos2:Pos}(hp:PassesOwn (model X.prog X.w) X.A X.env X.xe)(hc:X.calm=true)(hgr:Gl X "range")(hm:X.mg "range"=none)(ha:QXA X E [a,b] [x,y])(hg:QG X tg (tgt X.K g))(hb:QZs X E body t)(hst:starEach [a,b] X.env=[(false,eval a X.env),(false,eval b X.env)]:=by rfl)(hst2:starEach [b] X.env=[(false,eval b X.env)]:=by rfl)
  (hs:∀x,foldedSetIterable (.Call (.Name "range" p) [a,b] [] pos2) X.env x=pure x:=by intro _; rfl):QZ X E (.For tg (.Call (.Name "range" p) [a,b] [] pos2) body [] pos) (.forr [x,y] g t):=
 zd6 hp hc hg hb (λσ H R h=>zcG (n:=2) rfl (λvs H1 hl q=>by
  rcases q with ⟨j,e,_⟩ | q
  ·rw[e] at hl; simp at hl
  ·exact q) h) (zdb hgr hm ha hst hst2) hs
def iAny (K:W.Frag)(tl:TE):TI:=λσ H R=>tl σ H λx H1=>(∃a,x = .ref a/\(∃xs,SqL K H1 a xs)/\R (Itl K a) H1)\/(∃a,x = .ref a/\(∃xs,SqT K H1 a xs)/\R (Itt K a) H1)\/∃y,x = .str y/\R (Its y) H1
def zi6 {l:Expr}{tl:TE}(hl:QE X l tl):QI X tg l (iAny X.K tl):=by
 constructor
 intro pins s σ H R I h;refine thn (hl.p pins s σ H _ I h) λv s1 ⟨x,H1,I1,r1,q1⟩ =>?_;have fp:∀b∈[s1.heap.objs.size],FpOk X pins H1 b:=λb hb=>by
  have e:b=s1.heap.objs.size:=by simpa using hb
  subst e;exact I1.fpOk (Nat.le_refl _) (I1.hok.fresh (Nat.le_refl _))
 rcases q1 with ⟨a,e,⟨xs,hq⟩,q⟩ | ⟨a,e,⟨xs,hq⟩,q⟩ | ⟨y,rfl,q⟩
 ·subst e
  cases r1
  obtain⟨its,rv,p,hz⟩:=I1.list hq;refine wpAny_pyIter_list p.isList ?_;exact⟨s1.heap.objs.size,[s1.heap.objs.size],_,_,H1,rfl,I1.kept (t':=s1.toks) λb o e=>Heap.get?_push_of_some _ e,zcJ a _,⟨_,Heap.get?_push_size _ rfl,rfl,rfl⟩,fp,q⟩
 ·subst e
  cases r1
  obtain⟨its,rv,p,hz⟩:=I1.tuple hq;refine wpAny_pyIter_tuple (show s1.heap.IsTuple a its.toArray from p) ?_;exact⟨s1.heap.objs.size,[s1.heap.objs.size],_,_,H1,rfl,I1.kept (t':=s1.toks) λb o e=>Heap.get?_push_of_some _ e,zc5 a _,⟨_,Heap.get?_push_size _ rfl,rfl,rfl⟩,fp,q⟩
 ·obtain⟨t,rfl⟩:=r1
  cases ha:y.cps.all (· < 128)
  ·exact wpAny_pyIter_wide ha ⟨s1.heap.objs.size,[s1.heap.objs.size],_,_,H1,rfl,I1.kept (t':=s1.toks) λb o e=>Heap.get?_push_of_some _ e,zbl y t _ (by decide) (λA' hA=>Walks.strWide hA _ y t) (λA i s Q E st h=>wpAny_pyIter_striter_wide st h),⟨Nat.zero_le _,_,Heap.get?_push_size _ rfl,rfl,rfl⟩,fp,q⟩
  ·exact wpAny_pyIter_ascii ha ⟨s1.heap.objs.size,[s1.heap.objs.size],_,_,H1,rfl,I1.kept (t':=s1.toks) λb o e=>Heap.get?_push_of_some _ e,zbl y t _ (by decide) (λA' hA=>Walks.strAscii hA _ y t) (λA i s Q E st h=>wpAny_pyIter_striter_ascii st h),⟨Nat.zero_le _,_,Heap.get?_push_size _ rfl,rfl,rfl⟩,fp,q⟩
def zcE {K:W.Frag}{mg:Str->Option Value}{G:Hp}{a:Addr}{xs:List V}{l:List D}(h:SqL K G a xs)(r:RDs K mg G l xs):Walk K mg G l (Itl K a):=λi G1 H g1 g2=>by
 have hH:=z2s (z0c g1 g2) h;refine⟨λd e =>?_,λhi=>⟨xs,hH,by rw[r.len]; exact hi⟩⟩;obtain⟨v,ev,rv⟩:=r.get e;refine⟨⟨xs,v,hH,ev⟩,λv' H' y =>?_⟩;obtain⟨rfl,y⟩:=y;have:=y xs hH;rw[ev] at this
 cases this
 exact⟨Same.refl',G1,Gr.refl,g2,rv.same g1⟩
def zeg {K:W.Frag}{mg:Str->Option Value}{G:Hp}{a:Addr}{xs:List V}{l:List D}(h:SqT K G a xs)(r:RDs K mg G l xs):Walk K mg G l (Itt K a):=λi G1 H g1 g2=>by
 have hH:=z2r (z0c g1 g2) h;refine⟨λd e =>?_,λhi=>⟨xs,hH,by rw[r.len]; exact hi⟩⟩;obtain⟨v,ev,rv⟩:=r.get e;refine⟨⟨xs,v,hH,ev⟩,λv' H' y =>?_⟩;obtain⟨rfl,y⟩:=y;have:=y xs hH;rw[ev] at this
 cases this
 exact⟨Same.refl',G1,Gr.refl,g2,rv.same g1⟩
def zeh {K:W.Frag}{mg:Str->Option Value}{G:Hp}{y:Str}:Walk K mg G (y.cps.toList.map λc =>.str ⟨#[c]⟩) (Its y):=λi G1 H g1 g2=>by
 refine⟨λd e =>?_,λhi=>(show y.cps.size<=i by simpa using hi)⟩;rw[List.getElem?_map] at e
 cases q:y.cps.toList[i]? with
 | none=>rw[q] at e; cases e
 | some c=>
  rw[q] at e
  cases e
  have hi:i<y.cps.size:=by
   have:=(List.getElem?_eq_some_iff.mp q).1;simpa using this
  refine⟨hi,λv H' yl =>?_⟩;obtain⟨rfl,c',ec,rfl⟩:=yl;have:c'=c:=by
   have q':y.cps[i]? = some c:=by simpa using q
   rw[q'] at ec; exact(Option.some.inj ec).symm
  subst this;exact⟨Same.refl',G1,Gr.refl,g2,by rw[RD]⟩
def qi_x (h:QX X E iter x):QXI X E tg iter x:=QI.imp (zi6 h) λσ H R ⟨G,ρ,Q0,X0,hs,ab,hr,hz,hk,hx⟩=>by
 refine⟨G,ρ,Q0,X0,hs,ab,hr,λd v G1 H1 q g1 g2 g3 rd =>?_,hx⟩
 cases d with
 | lst l=>
  rw[RD] at rd;obtain⟨a,xs,rfl,h1,h2⟩:=rd;exact .inl ⟨a,rfl,⟨xs,z2s g2 h1⟩,hk _ G1 H1 q g1 g2 g3 l _ rfl (zcE h1 h2)⟩
 | tup l=>
  rw[RD] at rd;obtain⟨a,xs,rfl,h1,h2⟩:=rd;exact .inr (.inl ⟨a,rfl,⟨xs,z2r g2 h1⟩,hk _ G1 H1 q g1 g2 g3 l _ rfl (zeg h1 h2)⟩)
 | str y=>
  rw[RD] at rd;subst rd;exact .inr (.inr ⟨y,rfl,hk _ G1 H1 q g1 g2 g3 _ _ rfl zeh⟩)
 | _=>
  obtain⟨l,e⟩:=hz _ q
  cases e
end
section
variable {K:W.Frag}{mg:Str->Option Value}{H0 G0 G G1 H H1:Hp}{ρ:Pu.Env}{σ:L2.St}{i:Nat}
def z9V {Kk:List D->Prop}(h:ownL ρ i Kk):∃l,ρ[i]? = some (B.o (.lst l))/\Kk l:=by
 unfold ownL at h
 split at h
 ·rename_i l e; exact⟨l,e,h⟩
 ·exact h.elim
def zeQ:(λa=>∃(j:Nat) (d:D),True/\ρ[j]? = some (B.o d)/\σ[j]? = some (some (V.ref a)))=z3u ρ σ:=by
 funext a
 exact propext ⟨λ⟨j,d,_,h⟩=>⟨j,d,h⟩,λ⟨j,d,h⟩=>⟨j,d,trivial,h⟩⟩
def zce {d:D}{v:V}(h:AbS K mg H0 G0 G ρ σ H)(g2:Same G1 H1)(g3:Same H H1)(sf:Safe d ρ)(rd:RD K mg G1 d v):RD K mg (minus G1 (z3u ρ σ)) d v:=by
 have:=zaU h g2 g3 sf rd;rw[zeQ] at this;exact this
def AbS.wrB {l l':List D}{a:Addr}{ys:List V}(ab:AbS K mg H0 G0 G ρ σ H)(g1:Gr (plus G H (z3u ρ σ)) H G1)(g2:Same G1 H1)(g3:Same H H1)(hi:ρ[i]? = some (B.o (.lst l)))(hs:σ[i]? = some (some (V.ref a)))(hr:RDs K mg (minus G1 (z3u ρ σ)) l' ys):
  AbS K mg H0 G0 (minus G1 (z3u ρ σ)) (ρ.set i (.o (.lst l'))) σ (upd H1 a (.lst ys))/\Same G (minus G1 (z3u ρ σ)):=by
 have lm:Same G (minus G1 (z3u ρ σ)):=z5Q (z0c (z4n ab.free) g1.1) ab.free;exact⟨ab.wr (λa o e=>ab.nw1 g1 a o (z3C a o e)) lm (z0c z3C g2) g3 (λj d' a e s=>z6Z ⟨j,d',e,s⟩) hi hs ⟨ys,z0t,hr⟩,lm⟩
end
section
variable {X:Cx}{E:XK}{st:Stmt}{t:Sm}{e o tg:Expr}{x y z:Ex}{pos cpos apos:Pos}{i j:Nat}
def z8k (ho:QE X o (tVar i))(ha:QXA X E [e] [x])
  (hs:swapsWith (.Call (.Attribute o "append" apos) [e] [] cpos) none pos.line X.env=pure false:=by rfl)
  (hbase:attributeBase o "append" X.env (eval o X.env)=eval o X.env:=by rfl)
  (hfew:((backTo cpos (starEach [e] X.env)).all (λx => !x.1) && (backToKw cpos (keywordEach [] X.env)).all (λx=>x.1.isSome)
   && decide ([e].length+([]:List Keyword).length+(if ([]:List Keyword).isEmpty then 0 else 1)<30))=true:=by rfl)
  (hline:(apos.endLine == cpos.line)=true:=by rfl) (hst:starEach [e] X.env=(false,eval e X.env)::starEach [] X.env:=by rfl) (hplain:(backTo cpos (starEach [] X.env)).any (·.1)=false:=by rfl):
  QZ X E (.Expr (.Call (.Attribute o "append" apos) [e] [] cpos) pos) (.app i x):=
 QS.imp (zda (zk6 PySem.F.plainAttrs_list PySem.F.slot_list_append PySem.F.type_list_append z7Z ho ha hbase hfew hline hst hplain) hs) λDe σ H ⟨H0,G0,G,ρ,N0,R0,X0,ab,hr,hn,hR,hx⟩=>by
  obtain⟨l,hl,hr⟩:=z9V hr;obtain⟨a,s1,ga,h0,xs,hw,hrd⟩:=ab.ow i _ hl;refine⟨.ref a,s1,.inl ⟨rfl,xs,SqL.of hw⟩,?_⟩;refine⟨plus G H (z3u ρ σ),ρ,λds=>∃d,ds=[d]/\l.length<sizeLine/\Safe d ρ/\N0 (ρ.set i (.o (.lst (l++[d])))),X0,z6m ab.g,ab.abe,x.mono ρ _ _ X0 X0 (λd q=>⟨d,rfl,q⟩) (λ_ z=>z) hr,?_,hx.same ab.s0⟩;rintro ds vs G1 H1 ⟨d,rfl,hsz,sf,hN⟩ g1 g2 g3 rds;obtain⟨v,rfl,rd⟩:=rds1 rds;refine⟨a,xs,v,rfl,rfl,g3 _ _ hw,by rw[hrd.len]; exact hsz,?_⟩;have lm:Same G (minus G1 (z3u ρ σ)):=z5Q (z0c (z4n ab.free) g1.1) ab.free;obtain⟨ab',g'⟩:=ab.wrB (i:=i) (l':=l++[d]) (ys:=xs++[v]) g1 g2 g3 hl s1 ((hrd.same lm).app (RDs.cons (zce ab g2 g3 sf rd) RDs.nil));exact hn _ σ _ _ hN ab' g'
def RDs.last {K:W.Frag}{mg:Str->Option Value}{G:Hp}{l:List D}{xs:List V}(h:RDs K mg G l xs):RDs K mg G l.dropLast xs.dropLast:=by
 rw[List.dropLast_eq_take,List.dropLast_eq_take,h.len];exact h.take _
def zdh {l:List D}{Kk:List D->D->Prop}(h:popL l Kk):∃d,l[l.length - 1]? = some d/\Kk l.dropLast d:=by
 unfold popL at h
 split at h
 ·rename_i d e; exact⟨d,e,h⟩
 ·exact h.elim
def zhm {K:W.Frag}{mg:Str->Option Value}{H0 G0 G H:Hp}{ρ:Pu.Env}{σ:L2.St}{l l':List D}{a:Addr}{ys:List V}(ab:AbS K mg H0 G0 G ρ σ H)(hi:ρ[i]? = some (B.o (.lst l)))(hs:σ[i]? = some (some (V.ref a)))(hr:RDs K mg G l' ys):AbS K mg H0 G0 G (ρ.set i (.o (.lst l'))) σ (upd H a (.lst ys)):=
 ab.wr ab.nw Same.refl' ab.g Same.refl' (λj d' a e s=>ab.free a ⟨j,d',e,s⟩) hi hs ⟨ys,z0t,hr⟩
def zhX (ho:QE X o (tVar i))(hs:swapsWith (.Call (.Attribute o "pop" apos) [] [] cpos) none pos.line X.env=pure false:=by rfl)(hbase:attributeBase o "pop" X.env (eval o X.env)=eval o X.env:=by rfl)(hline:(apos.endLine == cpos.line)=true:=by rfl):
  QZ X E (.Expr (.Call (.Attribute o "pop" apos) [] [] cpos) pos) (.pop i):=
 QS.imp (zda (zic PySem.F.plainAttrs_list PySem.F.slot_list_pop PySem.F.type_list_pop zj7 ho hbase hline) hs) λDe σ H ⟨H0,G0,G,ρ,N0,R0,X0,ab,hr,hn,hR,hx⟩=>by
  obtain⟨l,hl,hr⟩:=z9V hr;obtain⟨d,hd,hN⟩:=zdh hr;obtain⟨a,s1,ga,h0,xs,hw,hrd⟩:=ab.ow i _ hl;refine⟨.ref a,s1,.inl ⟨rfl,xs,SqL.of hw⟩,?_⟩;obtain⟨v,hv,rv⟩:=hrd.get hd;exact⟨a,xs,v,rfl,rfl,hw,by rw[hrd.len]; exact hv,hn _ σ _ G hN (zhm ab hl s1 hrd.last) Same.refl'⟩
def zfg {d:D}{Kk:Int->Prop}(h:isI d Kk):∃k,d = .int k/\Kk k:=by
 cases d with
 | int k=>exact⟨k,rfl,h⟩
 | _=>exact h.elim
end
section
variable {P:Program}{w:World}{K:W.Frag}{mg:Str->Option Value}{base:Heap}{N:List Str}{qual:Str}{f:Addr}
def zbn {G H:Hp}{ds:List D}{vs:List V}{np nn:Nat}(hs:Same G H)(r:RDs K mg G ds vs)(hl:ds.length=np)(hN:N.length=nn):AbS K mg H G G (ds.map B.s++List.replicate (nn - np) .n) (L2.start N vs) H:=by
 have hn:∀(i:Nat) (b:B),(ds.map B.s++List.replicate (nn - np) .n)[i]? = some b->(∃d,b = .s d/\ds[i]? = some d)\/b = .n:=λi b e=>by
  by_cases hi:i<ds.length
  ·rw[List.getElem?_append_left (by simpa using hi),List.getElem?_map] at e;rw[List.getElem?_eq_getElem hi] at e ⊢
   cases e
   exact .inl ⟨_,rfl,rfl⟩
  ·rw[List.getElem?_append_right (by simpa using hi)] at e;have:=List.getElem?_eq_some_iff.mp e;obtain⟨h1,h2⟩:=this;simp at h2;exact .inr h2.symm
 refine⟨?_,Same.refl',Same.refl',hs,λa o e =>.inl ⟨o,e⟩,λi d e =>?_,λi d e =>?_,λi j d d' a _ e =>?_⟩
 ·unfold L2.start;rw[List.length_append,List.length_append,List.length_map,List.length_map,List.length_replicate,List.length_replicate,r.len,hl,hN]
 ·rcases hn i _ e with ⟨d',e1,e2⟩ | e1
  ·cases e1
   obtain⟨v,h1,h2⟩:=r.get e2;refine⟨v,?_,h2⟩;unfold L2.start;have hi:i<vs.length:=(List.getElem?_eq_some_iff.mp h1).1;rw[List.getElem?_append_left (by simpa using hi),List.getElem?_map,h1]
   rfl
  ·cases e1
 ·rcases hn i _ e with ⟨d',e1,e2⟩ | e1 <;> cases e1
 ·rcases hn i _ e with ⟨d',e1,e2⟩ | e1 <;> cases e1
def fnN {x:Str}{st:Stmt}{fd:FuncData}{ps:List Str}{k np nn:Nat}{b:Sm}(F:Fun K x qual st f fd)(S:z0h N ps (z01 st))(hp:ps.length=np)(hN:N.length=nn)
  (hb:∀(cdv:Value) (A:Around) (outer:List PySem.Env) (s:Shared) (H:Hp) (E:XK),Room k (A.deeper (envOfC qual (z01 st) s.heap.objs.size f cdv))->QZs ((cxOf (CXe P w) P w K mg base N qual (z01 st) f cdv A outer s H E).wish λ_ _=>False) E0 (z33 st) b):
  FnOk P w K mg base (CXe P w) (k+1) f fd ps (spP K mg (Fn.mkN np nn b)):=by
 refine F.okN S (λvs H Q E ⟨G,ds,Q0,X0,hs,rds,⟨hl,hr⟩,hk,hx⟩=>by rw[rds.len,hl,hp]) λcdv A outer s H vs Q E hroom ⟨G,ds,Q0,X0,hs,rds,⟨hl,hr⟩,hk,hx⟩=>⟨_,hb cdv A outer s H E hroom,?_⟩
 refine⟨H,G,G,_,λ_=>Q0 .non,Q0,λ_=>False,zbn hs rds hl hN,hr,λρ' σ' H' G' q ab _ =>?_,hk,Kx.no⟩;exact hk .non .non G' H' q ⟨ab.g0,ab.nw⟩ ab.g ab.s0 (by rw[RD])
end
def Tg.slots:Tg->List Nat
 | .nm i=>[i]
 | .tp is=>is
section
variable {K:W.Frag}{mg:Str->Option Value}{G G1 H H1:Hp}{ρ:Pu.Env}{σ:L2.St}
def AbE.put {i:Nat}{d:D}{v:V}(h:AbE K mg G ρ σ)(hi:i < σ.length)(r:RD K mg G d v):AbE K mg G (ρ.set i (.s d)) (σ.set i (some v)):=λj e q=>by
 rw[Env.get_eq] at q
 by_cases hj:j=i
 ·subst hj
  cases z:(ρ.set j (.s d))[j]? with
  | none=>rw[z] at q; cases q
  | some b=>
   have hl:j < ρ.length:=by
    have:=(List.getElem?_eq_some_iff.mp z).1;simpa using this
   rw[List.getElem?_set_self hl] at q
   cases q
   exact⟨v,by rw[List.getElem?_set_self hi],r⟩
 ·rw[List.getElem?_set_ne (Ne.symm hj), <- Env.get_eq] at q;obtain⟨w,h1,h2⟩:=h j e q;exact⟨w,by rw[List.getElem?_set_ne (Ne.symm hj)]; exact h1,h2⟩
def AbE.keep {i:Nat}{v:V}(h:AbE K mg G ρ σ)(hn:ρ.get i=none):AbE K mg G ρ (σ.set i (some v)):=λj e q=>by
 have hj:j≠i:=λz=>by rw[z,hn] at q; cases q
 obtain⟨w,h1,h2⟩:=h j e q;exact⟨w,by rw[List.getElem?_set_ne (Ne.symm hj)]; exact h1,h2⟩
def AbE.putAll {base:Pu.Env}:∀(is:List Nat) (ds:List D) (vs:List V) {ρ:Pu.Env}{σ:L2.St},is.length=ds.length->RDs K mg G ds vs->(∀i∈is,i < σ.length)->(∀i∈is,base.get i=none)->AbE K mg G ρ σ->AbE K mg G base σ->
  AbE K mg G (zbp is ds ρ) ((is.zip vs).foldl (λσ p=>σ.set p.1 (some p.2)) σ)/\AbE K mg G base ((is.zip vs).foldl (λσ p=>σ.set p.1 (some p.2)) σ)/\((is.zip vs).foldl (λσ p=>σ.set p.1 (some p.2)) σ).length=σ.length
 | [],[],vs,ρ,σ,_,h,_,_,ab,bb=>by rw[RDs] at h; subst h; exact⟨ab,bb,rfl⟩
 | [],_::_,_,_,_,h,_,_,_,_,_=>by simp at h
 | _::_,[],_,_,_,h,_,_,_,_,_=>by simp at h
 | i::is,d::ds,vs,ρ,σ,h,r,hl,hn,ab,bb=>by
  rw[RDs] at r;obtain⟨v,vs',rfl,h1,h2⟩:=r;obtain⟨a1,a2,a3⟩:=AbE.putAll (base:=base) is ds vs' (ρ:=ρ.set i (.s d)) (σ:=σ.set i (some v)) (by simpa using h) h2 (λj hj=>by rw[List.length_set]; exact hl j (List.mem_cons_of_mem _ hj)) (λj hj=>hn j (List.mem_cons_of_mem _ hj)) (ab.put (hl i List.mem_cons_self) h1) (bb.keep (hn i List.mem_cons_self));exact⟨a1,a2,by rw[List.zip_cons_cons,List.foldl_cons,a3,List.length_set]⟩
def zek {tg:Tg}{d:D}{v:V}{N0:Pu.Env->Prop}{N:L2.St->Hp->Prop}(ab:AbE K mg G ρ σ)(g:Same G H)(rd:RD K mg G d v)(hl:∀i∈tg.slots,i < σ.length)(hf:∀i∈tg.slots,ρ.get i=none)(hp:tg.put d ρ N0)
  (hn:∀ρ' σ',N0 ρ'->AbE K mg G ρ' σ'->AbE K mg G ρ σ'->σ'.length=σ.length->N σ' H):tgt K tg v σ H N:=by
 cases tg with
 | nm i=>
  have h1:=hl i (by simp[Tg.slots]);have h2:=hf i (by simp[Tg.slots]);exact hn _ _ hp (ab.put h1 rd) (ab.keep h2) (by simp)
 | tp is=>
  cases d with
  | tup ds=>
   obtain⟨hle,hp⟩:=hp;rw[RD] at rd;obtain⟨a,xs,rfl,h1,h2⟩:=rd;obtain⟨a1,a2,a3⟩:=AbE.putAll (base:=ρ) is ds xs (ρ:=ρ) (σ:=σ) hle h2 hl hf ab ab;exact⟨a,xs,rfl,z2r g h1,by rw[h2.len,hle],z7r (K:=K) is xs σ H N (by rw[h2.len,hle]) (hn _ _ hp a1 a2 a3)⟩
  | _=>exact hp.elim
def z8z {nt:Nat}{js:List Nat}(h:AbE K mg G ρ σ):AbE K mg G (z1b nt js ρ) (List.replicate nt none++js.map λj=>(σ[j]?).getD none):=λi d e=>by
 rw[Env.get_eq] at e;unfold z1b at e
 by_cases hi:i<nt
 ·rw[List.getElem?_append_left (by simpa using hi),List.getElem?_replicate,if_pos hi] at e
  cases e
 ·rw[List.getElem?_append_right (by simpa using hi),List.length_replicate,List.getElem?_map] at e;rw[List.getElem?_append_right (by simpa using hi),List.length_replicate,List.getElem?_map]
  cases q:js[i - nt]? with
  | none=>rw[q] at e; cases e
  | some j=>
   rw[q] at e;have e':((ρ[j]?).getD .n).get=some d:=e;have e2:ρ.get j=some d:=by
    rw[Env.get_eq]
    cases z:ρ[j]? with
    | none=>rw[z] at e'; cases e'
    | some b=>rw[z] at e'; exact e'
   obtain⟨v,h1,h2⟩:=h j d e2;refine⟨v,?_,h2⟩;show some ((σ[j]?).getD none)=some (some v);rw[h1]; rfl
def zau {nt:Nat}{js:List Nat}{i:Nat}(hi:i<nt):(z1b nt js ρ).get i=none:=by
 rw[Env.get_eq];unfold z1b;rw[List.getElem?_append_left (by simpa using hi),List.getElem?_replicate,if_pos hi]
 rfl
def TcOk (K:W.Frag)(mg:Str->Option Value)(c:Option Ex)(tc:TT):Prop:=match c with
 | none=>tc=z76
 | some c=>tc=tt K mg E0 c
def zf9 {nt:Nat}{js:List Nat}{tg:Tg}{c:Option Ex}{elt:Ex}{l:List D}{J:It}{tc:TT}{Q0:List D->Prop}{Q:VK}(hts:∀i∈tg.slots,i<nt)(ab:AbE K mg G ρ σ)(g:Same G H)(hw:Walk K mg G l J)(hsz:l.length<sizeLine)
  (hr:z4E (z4F tg c elt (z1b nt js ρ)) l Q0)
  (htc:TcOk K mg c tc)
  (hk:∀rs ys p G2 H2,Q0 rs->Gr G H G2->Same G2 H2->Same H H2->RDs K mg G2 rs ys->H2 p=none->Q (.ref p) (upd H2 p (.lst ys))):
  LcG J (tgt K tg) tc (tx K mg E0 elt) Q (List.replicate nt none++js.map λj=>(σ[j]?).getD none) H:=by
 refine⟨λi m ys σ' H'=>m=l.length - i/\i<=l.length/\ys.length<=i/\σ'.length=nt+js.length/\∃G' rs,Gr G H G'/\Same G' H'/\Same H H'/\RDs K mg G' rs ys/\AbE K mg G' (z1b nt js ρ) σ'/\z4E (z4F tg c elt (z1b nt js ρ)) (l.drop i) λr=>Q0 (rs++r),
  ⟨l.length,by simp,Nat.zero_le _,by simp,by simp,G,[],Gr.refl,g,Same.refl',RDs.nil,z8z ab,by simpa using hr⟩,?_⟩
 rintro i m ys σ1 H1 ⟨rfl,hi,hyl,hsl,G1,rs,g1,g2,g3,rds,ab1,h1⟩;refine⟨by omega,?_⟩;obtain⟨w1,w2⟩:=hw i G1 H1 g1.1 g2
 by_cases hlt:i<l.length
 ·have e:l[i]? = some l[i]:=by simp[hlt]
  obtain⟨go,yl⟩:=w1 _ e;rw[List.drop_eq_getElem_cons hlt] at h1;have h1':z4F tg c elt (z1b nt js ρ) l[i] (λo=>z4E (z4F tg c elt (z1b nt js ρ)) (l.drop (i+1)) λr=>Q0 (rs++(o.toList++r))):=h1;unfold z4F at h1';refine .inr ⟨go,λv H2 y =>?_⟩;obtain⟨s2,G2,k1,k2,rd⟩:=yl v H2 y;refine zek (ab1.same k1.1) k2 rd (λj hj=>by rw[hsl]; have:=hts j hj; omega) (λj hj=>zau (hts j hj)) h1' λρ3 σ3 hb ab3 bb3 hl3 =>?_;have el:∀{G3 H3:Hp},Gr G2 H2 G3->Same G3 H3->Same H2 H3->(elt.run ρ3 (λd=>z4E (z4F tg c elt (z1b nt js ρ)) (l.drop (i+1)) λr=>Q0 (rs++((some d:Option D).toList++r))) λ_=>False)->
    tx K mg E0 elt σ3 H3 λy H4=>∃m',m'<l.length - i/\m'=l.length - (i+1)/\i+1<=l.length/\(ys++[y]).length<=i+1/\σ3.length=nt+js.length/\∃G' rs',Gr G H G'/\Same G' H4/\Same H H4/\RDs K mg G' rs' (ys++[y])/\AbE K mg G' (z1b nt js ρ) σ3/\z4E (z4F tg c elt (z1b nt js ρ)) (l.drop (i+1)) λr=>Q0 (rs'++r):=λ{G3 H3} k3 k4 k5 he=>by
   refine⟨G3,ρ3,_,λ_=>False,k4,ab3.same k3.1,he,λd v' G4 H4 q n1 n2 n3 rd' =>?_,Kx.no⟩;refine⟨l.length - (i+1),by omega,rfl,hlt,by simp; omega,by rw[hl3,hsl],G4,rs++[d],g1.trans g3 (k1.trans s2 (k3.trans k5 n1)),n2,z0c g3 (z0c s2 (z0c k5 n3)),((rds.same (z0c k1.1 (z0c k3.1 n1.1))).app (RDs.cons rd' RDs.nil)),bb3.same (z0c k3.1 n1.1),?_⟩;refine z3c z4e _ _ _ (λr q =>?_) q;simpa using q
  cases c with
  | none=>
   have:tc=z76:=htc;subst this;unfold z76; dsimp only;rw[if_pos rfl];exact el Gr.refl k2 Same.refl' hb
  | some c=>
   have:tc=tt K mg E0 c:=htc;subst this;refine⟨G2,ρ3,_,λ_=>False,k2,ab3,hb,λd G3 H3 q k3 k4 k5 =>?_,Kx.no⟩;obtain⟨b,rfl,q1,q2⟩:=z8c q;refine⟨b,rfl,?_⟩
   cases b with
   | true=>exact iteT (el k3 k4 k5 (q1 rfl))
   | false=>
    refine iteF ⟨l.length - (i+1),by omega,rfl,hlt,by omega,by rw[hl3,hsl],G3,rs,g1.trans g3 (k1.trans s2 k3),k4,z0c g3 (z0c s2 k5),rds.same (z0c k1.1 k3.1),bb3.same k3.1,?_⟩;refine z3c z4e _ _ _ (λr q =>?_) (q2 rfl);simpa using q
 ·have e:i=l.length:=by omega
  subst e;rw[List.drop_length] at h1;refine .inl ⟨w2 (Nat.le_refl _),λp hp=>hk rs ys p G1 H1 ?_ g1 g2 g3 rds hp⟩;have h1':Q0 (rs++[]):=h1;simpa using h1'
def zcL {E:XK}{nt:Nat}{js:List Nat}{tg:Tg}{src:Ex}{c:Option Ex}{elt:Ex}{tc:TT}{Q:VK}(hts:∀i∈tg.slots,i<nt)(htc:TcOk K mg c tc)(h:tf K mg E (.comp nt js tg src c elt) σ H Q):tLcG (ti K mg E src) (tgt K tg) tc (tx K mg E0 elt) nt js σ H Q:=by
 obtain⟨G,ρ,Q0,X0,hs,ab,hr,hk,hx⟩:=h;refine⟨G,ρ,_,X0,hs,ab,hr,λd q=>(zbF q).imp λ_ z=>z.1,λd G1 H1 q g1 g2 g3 l J el hw =>?_,hx⟩;have q':onL (z0d d) λl=>l.length<sizeLine/\z4E (z4F tg c elt (z1b nt js ρ)) l λr=>Q0 (.lst r):=q;rw[el] at q';refine zf9 hts (ab.same g1.1) g2 hw q'.1 q'.2 htc λrs ys p G2 H2 hq k1 k2 k3 rds hp =>?_;have hn:∀{A:Hp},Same A H2->A p=none:=λs=>z2N s hp;refine hk (.lst rs) p G2 (upd H2 p (.lst ys)) hq (g1.trans g3 k1) (z0c k2 (z0X hp _)) (z0c g3 (z0c k3 (z0X hp _))) (hn (z0c g3 k3)) (hn k2) ⟨ys,z0t,rds⟩
end
section
variable {X:Cx}{E:XK}{elt iter target:Expr}{ct:Option Expr}{pos spos py:Pos}{scope:Scope}{N':List Str}{nt:Nat}{js:List Nat}{tg:Tg}{src x:Ex}{c:Option Ex}{y:Str}{iy:Nat}
def CtOk (X:Cx)(scope:Scope)(N':List Str)(ct:Option Expr)(c:Option Ex):Prop:=match ct,c with
 | none,none=>True
 | some e,some x=>∀(C:Addr) (s:Shared) (H:Hp) (fp:List Addr),QXT (X.compG scope N' C s H fp) E0 e x
 | _,_=>False
def CtQ (X:Cx)(scope:Scope)(N':List Str)(ct:Option Expr)(tc:TT):Prop:=match ct with
      | none=>tc=z76
      | some c=>∀(C:Addr) (s:Shared) (H:Hp) (fp:List Addr),QT (X.compG scope N' C s H fp) c tc
def zbZ (h:CtOk X scope N' ct c):∃tc:TT,CtQ X scope N' ct tc/\TcOk X.K X.mg c tc:=by
 cases ct with
 | none=>
  cases c with
  | none=>exact⟨z76,rfl,rfl⟩
  | some c=>exact h.elim
 | some e=>
  cases c with
  | none=>exact h.elim
  | some c=>exact⟨tt X.K X.mg E0 c,h,rfl⟩
def z8Q (hc:X.calm=true)(hi:QXI X E target iter src)(hk:scope.kind = .function)(cp:z4f X N' nt js scope)(hts:tg.slots.all (· < nt)=true)
  (hg:∀(C:Addr) (s:Shared) (H:Hp) (fp:List Addr),QG (X.compG scope N' C s H fp) target (tgt X.K tg)) (ht:CtOk X scope N' ct c)
  (he:∀(C:Addr) (s:Shared) (H:Hp) (fp:List Addr),QX (X.compG scope N' C s H fp) E0 elt x) (hs:∀x,foldedSetIterable iter X.env x=pure x:=by intro _; rfl):QF X E (.ListComp elt [⟨target,iter,ct.toList,0⟩] scope pos) (.comp nt js tg src c x):=by
 obtain⟨tc,h1,h2⟩:=zbZ ht;exact QE.imp (zia hc hi hk cp hg h1 he hs) λσ H Q h=>zcL (λi hi=>of_decide_eq_true (List.all_eq_true.mp hts i hi)) h2 h
def zgu (hN:X.N.Nodup)(hiy:X.N[iy]? = some y)(hly:X.env.scope.names.lookup y=some .local)(hc:X.calm=true)(hi:QXI X E target iter src)(hk:scope.kind = .function)(cp:z4f X N' nt js scope)(hts:tg.slots.all (· < nt)=true)
  (hg:∀(C:Addr) (s:Shared) (H:Hp) (fp:List Addr),QG (X.compG scope N' C s H fp) target (tgt X.K tg)) (ht:CtOk X scope N' ct c)
  (he:∀(C:Addr) (s:Shared) (H:Hp) (fp:List Addr),QX (X.compG scope N' C s H fp) E0 elt x) (hsw:swapsWith (.ListComp elt [⟨target,iter,ct.toList,0⟩] scope pos) (some (.Name y py)) spos.line X.env=pure true:=by rfl) (hs:∀x,foldedSetIterable iter X.env x=pure x:=by intro _; rfl):
  QS X (.Assign [.Name y py] (.ListComp elt [⟨target,iter,ct.toList,0⟩] scope pos) spos) (tAsg (tf X.K X.mg E (.comp nt js tg src c x)) (z6x iy)):=by
 obtain⟨tc,h1,h2⟩:=zbZ ht;exact QS.imp (zi5 hN hiy hly hc hi hk cp hg h1 he hsw hs) λD σ H h=>zcL (λi hi=>of_decide_eq_true (List.all_eq_true.mp hts i hi)) h2 h
def z9S {i:Nat}{z:Str}{pos:Pos}(hN:X.N.Nodup)(hi:X.N[i]? = some z)(hx:X.env.scope.names.lookup z=some .local):QG X (.Name z pos) (tgt X.K (.nm i)):=zk0 hN hi hx
def pTup:Fn:=⟨λds Q _=>ds.length<=sizeLine/\Q (.tup ds),λds Q Q' X X' m _ q=>⟨q.1,m _ q.2⟩⟩
def pLst:Fn:=⟨λds Q _=>ds.length<=sizeLine/\Q (.lst ds),λds Q Q' X X' m _ q=>⟨q.1,m _ q.2⟩⟩
def z2m {es:List Expr}{xs:List Ex}{x1}(h:QXA X E es xs):QX X E (.Tuple es x1 pos) (.op pTup xs):=QE.imp (⟨zim h.p⟩:QE X (.Tuple es x1 pos) _) λσ H Q ⟨G,ρ,Q0,X0,hs,ab,hr,hk,hx⟩=>by
 refine⟨G,ρ,_,X0,hs,ab,hr,λds vs G1 H1 q g1 g2 g3 rds=>⟨by rw[rds.len]; exact q.1,λp hp =>?_⟩,hx⟩;refine(hk.same g1 g3).new g2 hp q.2 ?_;rw[RD];exact⟨p,vs,rfl,SqT.of z0t,rds.same (z0X (z2N g2 hp) _)⟩
def z8m {es:List Expr}{xs:List Ex}(h:QXA X E es xs):QF X E (.List es pos) (.op pLst xs):=QE.imp (zi9 h) λσ H Q ⟨G,ρ,Q0,X0,hs,ab,hr,hk,hx⟩=>by
 refine⟨G,ρ,_,X0,hs,ab,hr,λds vs G1 H1 q g1 g2 g3 rds=>⟨by rw[rds.len]; exact q.1,λp hp =>?_⟩,hx⟩;exact hk (.lst ds) p G1 (upd H1 p (.lst vs)) q.2 g1 (z0c g2 (z0X hp _)) (z0c g3 (z0X hp _)) (z2N g3 hp) (z2N g2 hp) ⟨vs,z0t,rds⟩
end
def fn2 (g:D->D->DK->Prop)(m:∀a b (Q Q':DK),(∀d,Q d->Q' d)->g a b Q->g a b Q'):Fn:=⟨λds Q _=>match ds with
 | [a,b]=>g a b Q
 | _=>False,λds Q Q' X X' mm _ q=>by
 match ds,q with
 | [a,b],q=>exact m a b Q Q' mm q
 | [],q=>exact q.elim
 | [_],q=>exact q.elim
 | _::_::_::_,q=>exact q.elim⟩
def fn1 (g:D->DK->Prop)(m:∀a (Q Q':DK),(∀d,Q d->Q' d)->g a Q->g a Q'):Fn:=⟨λds Q _=>match ds with
 | [a]=>g a Q
 | _=>False,λds Q Q' X X' mm _ q=>by
 match ds,q with
 | [a],q=>exact m a Q Q' mm q
 | [],q=>exact q.elim
 | _::_::_,q=>exact q.elim⟩
def zbE {o:Option D}{Q Q':DK}(m:∀d,Q d->Q' d)(h:onV o Q):onV o Q':=by
 cases o with
 | none=>exact h
 | some d=>exact m _ h
def zbD {o:Option D}{Q:DK}(h:onV o Q):∃d,o=some d/\Q d:=by
 cases o with
 | none=>exact h.elim
 | some d=>exact⟨d,rfl,h⟩
def gAdd (a b:D)(Q:DK):Prop:=match a,b with
 | .int i,.int j=>Q (.int (i+j))
 | .str x,.str y=>x.length+y.length<=sizeLine/\Q (.str (x++y))
 | .lst l,.lst m=>l.length+m.length<=sizeLine/\Q (.lst (l++m))
 | .tup l,.tup m=>l.length+m.length<=sizeLine/\Q (.tup (l++m))
 | _,_=>False
def zdU (a b:D)(Q Q':DK)(m:∀d,Q d->Q' d)(h:gAdd a b Q):gAdd a b Q':=by
 unfold gAdd at h ⊢
 split at h
 ·exact m _ h
 ·exact⟨h.1,m _ h.2⟩
 ·exact⟨h.1,m _ h.2⟩
 ·exact⟨h.1,m _ h.2⟩
 ·exact h.elim
def pAdd:Fn:=fn2 gAdd zdU
def gI (g:Int->Int->DK->Prop)(a b:D)(Q:DK):Prop:=match a,b with
 | .int i,.int j=>g i j Q
 | _,_=>False
def zdT {g:Int->Int->DK->Prop}(hg:∀i j (Q Q':DK),(∀d,Q d->Q' d)->g i j Q->g i j Q')(a b:D)(Q Q':DK)(m:∀d,Q d->Q' d)(h:gI g a b Q):gI g a b Q':=by
 unfold gI at h ⊢
 split at h
 ·exact hg _ _ _ _ m h
 ·exact h.elim
def fnI (g:Int->Int->DK->Prop)(hg:∀i j (Q Q':DK),(∀d,Q d->Q' d)->g i j Q->g i j Q'):Fn:=fn2 (gI g) (zdT hg)
def pSub:Fn:=fnI (λi j Q=>Q (.int (i - j))) λ_ _ _ _ m h=>m _ h
def z1r:Fn:=fnI (λi j Q=>zjL i j/\Q (.int (i.fdiv j))) λ_ _ _ _ m h=>⟨h.1,m _ h.2⟩
def pMod:Fn:=fnI (λi j Q=>j≠0/\Q (.int (i.fmod j))) λ_ _ _ _ m h=>⟨h.1,m _ h.2⟩
def pPow:Fn:=fnI (λi j Q=>CPow i j/\Q (.int (i ^ j.toNat))) λ_ _ _ _ m h=>⟨h.1,m _ h.2⟩
def gNeg (a:D)(Q:DK):Prop:=match a with
 | .int i=>Q (.int (-i))
 | _=>False
def pNeg:Fn:=fn1 gNeg λa Q Q' m h=>by
 unfold gNeg at h ⊢
 split at h
 ·exact m _ h
 ·exact h.elim
section
variable {X:Cx}{K:W.Frag}{mg:Str->Option Value}
def r2 (K:W.Frag)(mg:Str->Option Value)(F:Fn):R2:=λv1 v2 H Q=>∃G d1 d2 Q0 X0,Same G H/\RD K mg G d1 v1/\RD K mg G d2 v2/\F.run [d1,d2] Q0 X0/\Kt K mg G H Q0 Q
def r1 (K:W.Frag)(mg:Str->Option Value)(F:Fn):V->Hp->VK->Prop:=λv H Q=>∃G d Q0 X0,Same G H/\RD K mg G d v/\F.run [d] Q0 X0/\Kt K mg G H Q0 Q
def rN (K:W.Frag)(mg:Str->Option Value)(F:Fn):List V->Hp->VK->Prop:=λvs H Q=>∃G ds Q0 X0,Same G H/\RDs K mg G ds vs/\F.run ds Q0 X0/\Kt K mg G H Q0 Q
def lk2 {F:Fn}:Lk2 K mg F (r2 K mg F):=λG H d1 d2 v1 v2 Q0 X0 Q a b c d e=>⟨G,d1,d2,Q0,X0,a,b,c,d,e⟩
def lk1 {F:Fn}:Lk1 K mg F (r1 K mg F):=λG H d v Q0 X0 Q a b c d=>⟨G,_,Q0,X0,a,b,c,d⟩
def lkN {F:Fn}:LkN K mg F (rN K mg F):=λG H d v Q0 X0 Q a b c d=>⟨G,_,Q0,X0,a,b,c,d⟩
def zfu {prog:Program}{w:World}{A:Around}{E:Value->Shared->Prop}{s:Shared}{t b:Addr}{ws:List Value}{Q:Value->Shared->Prop}(ht:IsTup s.heap t ([]:List Value).toArray)(hb:IsTup s.heap b ws.toArray)(h:Q (.ref b) s):wpAny (model prog w) A (binaryOp .Add (.ref t) (.ref b)) Q E s:=by
 obtain⟨⟨cls,dd,data,sl⟩,ho,hc,n,hd⟩:=id ht;obtain⟨⟨cls2,dd2,data2,sl2⟩,ho2,hc2,n2,hd2⟩:=id hb;simp only at hc hd hc2 hd2;subst hc hd hc2 hd2;exact concat_meets ⟨_,ho,rfl⟩ ⟨_,ho2,rfl⟩ noFill_tuple_add seq_tuple_add PySem.F.slot_tuple_add PySem.F.entry_tuple_add (PySem.F.args_tuple_add_2 _ _)
   (tuple_addW0 t b _ ws.toArray n n2 dd dd2 sl sl2 (by simp)) ⟨ho,ho2,h⟩
def zeS:OpR X (binaryOp .Add) (λx y H Q=>∃a b ys,x = .ref a/\y = .ref b/\SqT X.K H a []/\SqT X.K H b ys/\Q (.ref b) H):=by
 intro pins s σ H x y v u Q I rx ry h;obtain⟨a,b,ys,rfl,rfl,ha,hb,q⟩:=h
 cases rx
 cases ry
 obtain⟨its,r1,p1,_⟩:=I.tuple ha;obtain⟨its2,r2,p2,_⟩:=I.tuple hb
 cases r1
 exact zfu p1 p2 ⟨.ref b,H,I,rfl,q⟩
def zjW (K:W.Frag):R2:=λx y H Q=>∃l b xs zs,x = .ref l/\y = .ref b/\SqL K H l xs/\SqL K H b zs/\xs.length+zs.length<=sizeLine/\∀p,H p=none->Q (.ref p) (upd H p (.lst (xs++zs)))
def zgQ:OpR X (binaryOp .Add) (zjW X.K):=by
 intro pins s σ H x y v u Q I rx ry h;obtain⟨l,b,xs,zs,rfl,rfl,hH,hB,hz,q⟩:=h
 cases rx
 cases ry
 obtain⟨its,r,⟨⟨cls,dd,data,sl⟩,n,e,hc,_,hd⟩,z1⟩:=I.list hH;obtain⟨its2,r2,⟨⟨cls2,dd2,data2,sl2⟩,n2,e2,hc2,_,hd2⟩,z2⟩:=I.list hB;dsimp only at hc hd hc2 hd2;subst hc hd hc2 hd2;have l1:=r.length;have l2:=r2.length;have ea:its.toArray++its2.toArray=(its++its2).toArray:=by simp
 refine concat_meets ⟨_,e,rfl⟩ ⟨_,e2,rfl⟩ noFill_list_add seq_list_add PySem.F.slot_list_add PySem.F.entry_list_add (PySem.F.args_list_add_2 _ _) (list_addW l b its.toArray its2.toArray n n2 dd dd2 sl sl2 (by simp only[List.size_toArray]; omega)) ⟨e,e2,?_⟩;rw[ea];exact⟨.ref _,_,I.lnew (t':=s.toks) (r.append r2) (by rw[List.length_append]; omega),rfl,q _ I.fresh⟩
def z4y {G:Hp}{l:List D}{v:V}(h:RD K mg G (.tup l) v):∃a xs,v = .ref a/\SqT K G a xs/\RDs K mg G l xs:=by rw[RD] at h; exact h
def z3k {G:Hp}{l:List D}{v:V}(h:RD K mg G (.lst l) v):∃a xs,v = .ref a/\SqL K G a xs/\RDs K mg G l xs:=by rw[RD] at h; exact h
def z5f {G:Hp}{x:Str}{v:V}(h:RD K mg G (.str x) v):v = .str x:=by rw[RD] at h; exact h
def zaW {G:Hp}{x:Bool}{v:V}(h:RD K mg G (.bl x) v):v = .bl x:=by rw[RD] at h; exact h
def zd4 {G:Hp}{v:V}(h:RD K mg G .non v):v = .non:=by rw[RD] at h; exact h
def RD.newT {G H:Hp}{p:Addr}{l:List D}{xs:List V}(r:RDs K mg G l xs)(g:Same G H)(hp:H p=none):RD K mg (upd G p (.tup xs)) (.tup l) (.ref p):=by
 rw[RD];exact⟨p,xs,rfl,SqT.of z0t,r.same (z0X (z2N g hp) _)⟩
def RD.newL {G H:Hp}{p:Addr}{l:List D}{xs:List V}(r:RDs K mg G l xs)(g:Same G H)(hp:H p=none):RD K mg (upd G p (.lst xs)) (.lst l) (.ref p):=by
 rw[RD];exact⟨p,xs,rfl,SqL.of z0t,r.same (z0X (z2N g hp) _)⟩
def RD.ofT {G:Hp}{a:Addr}{l:List D}{xs:List V}(h:SqT K G a xs)(r:RDs K mg G l xs):RD K mg G (.tup l) (.ref a):=by rw[RD]; exact⟨a,xs,rfl,h,r⟩
def RD.ofL {G:Hp}{a:Addr}{l:List D}{xs:List V}(h:SqL K G a xs)(r:RDs K mg G l xs):RD K mg G (.lst l) (.ref a):=by rw[RD]; exact⟨a,xs,rfl,h,r⟩
def RD.int' {G:Hp}{i:Int}:RD K mg G (.int i) (.int i):=by rw[RD]
def RD.bl' {G:Hp}{i:Bool}:RD K mg G (.bl i) (.bl i):=by rw[RD]
def RD.str' {G:Hp}{i:Str}:RD K mg G (.str i) (.str i):=by rw[RD]
def RDs.ne_nil {G:Hp}{l:List D}{xs:List V}(r:RDs K mg G l xs):xs=[]↔l=[]:=by
 have:=r.len
 constructor
 ·rintro rfl; exact List.length_eq_zero_iff.mp this.symm
 ·rintro rfl; exact List.length_eq_zero_iff.mp this
def z19:OpR X (binaryOp .Add) (r2 X.K X.mg pAdd):=by
 intro pins s σ H x y v u Q I rx ry ⟨G,d1,d2,Q0,X0,g,h1,h2,hr,hk⟩;have hr':gAdd d1 d2 Q0:=hr;unfold gAdd at hr'
 split at hr'
 ·exact ziF pins s σ H x y v u Q I rx ry ⟨_,_,z1i h1,z1i h2,hk.now g hr' RD.int'⟩
 ·exact zcj pins s σ H x y v u Q I rx ry ⟨_,_,z5f h1,z5f h2,hr'.1,hk.now g hr'.2 RD.str'⟩
 ·obtain⟨a,xs,rfl,s1,r1⟩:=z3k h1;obtain⟨b,zs,rfl,s2,r2⟩:=z3k h2;exact zgQ pins s σ H _ _ v u Q I rx ry ⟨a,b,xs,zs,rfl,rfl,z2s g s1,z2s g s2,by rw[r1.len,r2.len]; exact hr'.1,λp hp=>hk.new g hp hr'.2 (RD.newL (r1.app r2) g hp)⟩
 ·obtain⟨a,xs,rfl,s1,r1⟩:=z4y h1;obtain⟨b,zs,rfl,s2,r2⟩:=z4y h2
  by_cases hx:xs=[]
  ·subst hx;have e:=r1.ne_nil.mp rfl;subst e;exact zeS pins s σ H _ _ v u Q I rx ry ⟨a,b,zs,rfl,rfl,z2r g s1,z2r g s2,hk.now g hr'.2 (RD.ofT s2 r2)⟩
  ·refine zgP pins s σ H _ _ v u Q I rx ry ⟨a,b,xs,zs,rfl,rfl,z2r g s1,z2r g s2,hx,by rw[r1.len,r2.len]; exact hr'.1,λe =>?_,λe p hp=>hk.new g hp hr'.2 (RD.newT (r1.app r2) g hp)⟩;have e:=r2.ne_nil.mp e;subst e;refine hk.now g hr'.2 ?_;rw[List.append_nil];exact RD.ofT s1 r1
 ·exact hr'.elim
def zbb {g:Int->Int->DK->Prop}{a b:D}{Q:DK}(h:gI g a b Q):∃i j,a = .int i/\b = .int j/\g i j Q:=by
 unfold gI at h
 split at h
 ·exact⟨_,_,rfl,rfl,h⟩
 ·exact h.elim
def zeX {f:Value->Value->Sem Value}{C:Int->Int->Prop}{gv:Int->Int->Int}{hg}(h:OpR X f (rI C λi j =>.int (gv i j))):OpR X f (r2 X.K X.mg (fnI (λi j Q=>C i j/\Q (.int (gv i j))) hg)):=h.imp λx y H Q ⟨G,d1,d2,Q0,X0,g,h1,h2,hr,hk⟩=>by
 obtain⟨i,j,rfl,rfl,c,q⟩:=zbb (show gI (λi j Q=>C i j/\Q (.int (gv i j))) d1 d2 Q0 from hr);exact⟨i,j,z1i h1,z1i h2,c,hk.now g q RD.int'⟩
def z0L:OpR X (binaryOp .Sub) (r2 X.K X.mg pSub):=ziB.imp λx y H Q ⟨G,d1,d2,Q0,X0,g,h1,h2,hr,hk⟩=>by
 obtain⟨i,j,rfl,rfl,q⟩:=zbb (show gI (λi j Q=>Q (.int (i - j))) d1 d2 Q0 from hr);exact⟨i,j,z1i h1,z1i h2,hk.now g q RD.int'⟩
def z0z:OpR X (binaryOp .FloorDiv) (r2 X.K X.mg z1r):=zeX zeR
def z0S:OpR X (binaryOp .Mod) (r2 X.K X.mg pMod):=zeX zgO
def z7i:OpR X (binaryOp .Pow) (r2 X.K X.mg pPow):=zeX ziC
def zbC:UnR X (unaryOp .USub) (r1 X.K X.mg pNeg):=by
 intro pins s σ H x v Q I rx ⟨G,d,Q0,X0,g,h1,hr,hk⟩;have hr':gNeg d Q0:=hr;unfold gNeg at hr'
 split at hr'
 ·exact zhp pins s σ H x v Q I rx ⟨_,z1i h1,hk.now g hr' RD.int'⟩
 ·exact hr'.elim
def z0l:Fn:=fnI (λi j Q=>zhl i j/\Q (.int (i*j))) λ_ _ _ _ m h=>⟨h.1,m _ h.2⟩
def z0e:OpR X (binaryOp .Mult) (r2 X.K X.mg z0l):=zeX zgN
end
def gCmp (f:Int->Int->Bool)(a b:D)(Q:DK):Prop:=match a,b with
 | .int i,.int j=>Q (.bl (f i j))
 | _,_=>False
def z7s {f:Int->Int->Bool}(a b:D)(Q Q':DK)(m:∀d,Q d->Q' d)(h:gCmp f a b Q):gCmp f a b Q':=by
 unfold gCmp at h ⊢
 split at h
 ·exact m _ h
 ·exact h.elim
def pLt:Fn:=fn2 (gCmp (λi j=>decide (i<j))) z7s
def pGt:Fn:=fn2 (gCmp (λi j=>decide (j<i))) z7s
def pLe:Fn:=fn2 (gCmp (λi j=>decide (i<=j))) z7s
section
variable {X:Cx}{K:W.Frag}{mg:Str->Option Value}
def z8O {G:Hp}:∀(ns:List Int) {xs:List V},RDs K mg G (ns.map D.int) xs->xs=ns.map V.int
 | [],xs,h=>by rw[List.map_nil,RDs] at h; subst h; rfl
 | n::ns,xs,h=>by
  rw[List.map_cons,RDs] at h;obtain⟨x,r,rfl,h1,h2⟩:=h;rw[z1i h1,z8O ns h2]; rfl
def z9c {G:Hp}:∀(ns:List Int),RDs K mg G (ns.map D.int) (ns.map V.int)
 | []=>RDs.nil
 | n::ns=>RDs.cons RD.int' (z9c ns)
def zgT {op:CmpOp}{f:Int->Int->Bool}{hm}(hi:OpR X (compareOp op) (rI0 λi j =>.bl (f i j))):OpR X (compareOp op) (r2 X.K X.mg (fn2 (gCmp f) hm)):=by
 intro pins s σ H x y v u Q I rx ry ⟨G,d1,d2,Q0,X0,g,h1,h2,hr,hk⟩;have hr':gCmp f d1 d2 Q0:=hr;unfold gCmp at hr'
 split at hr'
 ·exact hi pins s σ H x y v u Q I rx ry ⟨_,_,z1i h1,z1i h2,hk.now g hr' RD.bl'⟩
 ·exact hr'.elim
def z7Y (hu:X.A.units+64<cLine):OpR X (compareOp .Lt) (r2 X.K X.mg pLt):=zgT zkk
def z6W (hu:X.A.units+64<cLine):OpR X (compareOp .Gt) (r2 X.K X.mg pGt):=zgT zkm
def zgU (hu:X.A.units+64<cLine):OpR X (compareOp .LtE) (r2 X.K X.mg pLe):=zgT zkl
def pGeI:Fn:=fnI (λi j Q=>Q (.bl (decide (j<=i)))) λ_ _ _ _ m h=>m _ h
end
mutual
def py:D->PyData
 | .non =>.none
 | .bl b =>.bool b
 | .int i =>.int i
 | .str x =>.str x
 | .tup l =>.tuple (pys l)
 | .lst l =>.list (pys l)
 | _ =>.none
def pys:List D->List PyData
 | []=>[]
 | d::ds=>py d::pys ds
end
def Da:Nat->D->Prop
 | _,.non=>True
 | _,.bl _=>True
 | _,.int _=>True
 | _,.str x=>PyData.strOk x=true
 | 0,.tup _=>False
 | n+1,.tup l=>∀d∈l,Da n d
 | 0,.lst _=>False
 | n+1,.lst l=>∀d∈l,Da n d
 | _,.dct _ _=>False
 | _,.fn _=>False
 | _,.exc _=>False
section
variable {X:Cx}{K:W.Frag}{mg:Str->Option Value}
def Da.tup {n:Nat}{l:List D}:Da (n+1) (.tup l)↔∀d∈l,Da n d:=by rw[Da]
def Da.lst {n:Nat}{l:List D}:Da (n+1) (.lst l)↔∀d∈l,Da n d:=by rw[Da]
def Da.int {n:Nat}{i:Int}:Da n (.int i):=by cases n <;> (rw[Da]; trivial)
def Da.str {n:Nat}{x:Str}:Da n (.str x)↔PyData.strOk x=true:=by cases n <;> rw[Da]
def Da.canLay:∀(n:Nat) (d:D),Da n d->(py d).canLay0=true/\(py d).depth<=n:=by
 intro n
 induction n with
 | zero=>
  intro d h
  cases d with
  | non=>exact⟨rfl,Nat.le_refl _⟩
  | bl _=>exact⟨rfl,Nat.le_refl _⟩
  | int _=>exact⟨rfl,Nat.le_refl _⟩
  | str x=>exact⟨by rw[py,PyData.canLay0]; exact Da.str.mp h,by rw[py,PyData.depth]; exact Nat.le_refl _⟩
  | _=>rw[Da] at h; exact h.elim
 | succ n ih=>
  have all:∀l:List D,(∀d∈l,Da n d)->PyData.canLayAll0 (pys l)=true/\PyData.depthAll (pys l)<=n:=by
   intro l
   induction l with
   | nil=>intro _; exact⟨rfl,Nat.zero_le _⟩
   | cons d l ihl=>
    intro h;obtain⟨a1,a2⟩:=ih d (h d List.mem_cons_self);obtain⟨b1,b2⟩:=ihl λx hx=>h x (List.mem_cons_of_mem _ hx);rw[pys,PyData.canLayAll0,PyData.depthAll,a1,b1];exact⟨rfl,Nat.max_le.mpr ⟨a2,b2⟩⟩
  intro d h
  cases d with
  | non=>exact⟨rfl,Nat.zero_le _⟩
  | bl _=>exact⟨rfl,Nat.zero_le _⟩
  | int _=>exact⟨rfl,Nat.zero_le _⟩
  | str x=>exact⟨by rw[py,PyData.canLay0]; exact Da.str.mp h,by rw[py,PyData.depth]; exact Nat.zero_le _⟩
  | tup l=>
   obtain⟨a,b⟩:=all l (Da.tup.mp h);exact⟨by rw[py,PyData.canLay0]; exact a,by rw[py,PyData.depth]; omega⟩
  | lst l=>
   obtain⟨a,b⟩:=all l (Da.lst.mp h);exact⟨by rw[py,PyData.canLay0]; exact a,by rw[py,PyData.depth]; omega⟩
  | _=>rw[Da] at h; exact h.elim
def Da.shaped {n:Nat}{d:D}(h:Da n d)(hn:n<=64):PySem.SeqAt.shaped (py d)=true:=by
 obtain⟨a,b⟩:=Da.canLay n d h;unfold PySem.SeqAt.shaped;rw[a,decide_eq_true (Nat.le_trans b hn)]
 rfl
def Da.rp {G:Hp}:∀(n:Nat) (d:D) {v:V},Da n d->RD K mg G d v->Rp K G (py d) v:=by
 intro n
 induction n with
 | zero=>
  intro d v h r
  cases d with
  | non=>rw[py,Rp]; exact zd4 r
  | bl _=>rw[py,Rp]; exact zaW r
  | int _=>rw[py,Rp]; exact z1i r
  | str x=>rw[py,Rp]; exact z5f r
  | _=>rw[Da] at h; exact h.elim
 | succ n ih=>
  have all:∀(l:List D) {xs:List V},(∀d∈l,Da n d)->RDs K mg G l xs->RpL K G (pys l) xs:=by
   intro l
   induction l with
   | nil=>intro xs _ r; rw[RDs] at r; subst r; rw[pys,RpL]
   | cons d l ihl=>
    intro xs h r;rw[RDs] at r;obtain⟨x,r',rfl,r1,r2⟩:=r;rw[pys,RpL];exact⟨x,r',rfl,ih d (h d List.mem_cons_self) r1,ihl (λx hx=>h x (List.mem_cons_of_mem _ hx)) r2⟩
  intro d v h r
  cases d with
  | non=>rw[py,Rp]; exact zd4 r
  | bl _=>rw[py,Rp]; exact zaW r
  | int _=>rw[py,Rp]; exact z1i r
  | str x=>rw[py,Rp]; exact z5f r
  | tup l=>
   obtain⟨a,xs,rfl,h1,h2⟩:=z4y r;rw[py,Rp];exact⟨a,xs,rfl,h1,all l (Da.tup.mp h) h2⟩
  | lst l=>
   obtain⟨a,xs,rfl,h1,h2⟩:=z3k r;rw[py,Rp];exact⟨a,xs,rfl,h1,all l (Da.lst.mp h) h2⟩
  | _=>rw[Da] at h; exact h.elim
end
def deq (a b:D):Bool:=PyData.eqv (py a) (py b)
def gEq (neg:Bool)(a b:D)(Q:DK):Prop:=match a,b with
 | .int i,.int j=>Q (.bl (if neg then !decide (i=j) else decide (i=j)))
 | .str x,.str y=>Q (.bl (if neg then !decide (x=y) else decide (x=y)))
 | .bl x,.bl y=>Q (.bl (if neg then !decide (x=y) else decide (x=y)))
 | a,b=>Da 60 a/\Da 60 b/\Q (.bl (if neg then !deq a b else deq a b))
def z9m {neg:Bool}(a b:D)(Q Q':DK)(m:∀d,Q d->Q' d)(h:gEq neg a b Q):gEq neg a b Q':=by
 unfold gEq at h ⊢
 split at h
 ·exact m _ h
 ·exact m _ h
 ·exact m _ h
 ·exact⟨h.1,h.2.1,m _ h.2.2⟩
def pEq:Fn:=fn2 (gEq false) z9m
def pNe:Fn:=fn2 (gEq true) z9m
section
variable {X:Cx}{K:W.Frag}{mg:Str->Option Value}
def zbc {p q:Prop}[Decidable p][Decidable q](h:p↔q):decide p=decide q:=by rw[decide_eq_decide]; exact h
def zfT {op:CmpOp}{neg:Bool}(h1:OpR X (compareOp op) (λx y H Q=>scal x y=true/\Q (.bl (if neg then !decide (x=y) else decide (x=y))) H))(h2:OpR X (compareOp op) (rEqD X.K neg)):OpR X (compareOp op) (r2 X.K X.mg (fn2 (gEq neg) z9m)):=by
 intro pins s σ H x y v u Q I rx ry ⟨G,d1,d2,Q0,X0,g,r1,r2,hr,hk⟩;have hr':gEq neg d1 d2 Q0:=hr;unfold gEq at hr'
 split at hr'
 ·have e1:=z1i r1; have e2:=z1i r2;subst e1; subst e2;refine h1 pins s σ H _ _ v u Q I rx ry ⟨rfl,?_⟩;rw[zbc (⟨λh=>V.int.inj h,λh=>congrArg V.int h⟩:V.int _=V.int _↔_)];exact hk.now g hr' RD.bl'
 ·have e1:=z5f r1; have e2:=z5f r2;subst e1; subst e2;refine h1 pins s σ H _ _ v u Q I rx ry ⟨rfl,?_⟩;rw[zbc (⟨λh=>V.str.inj h,λh=>congrArg V.str h⟩:V.str _=V.str _↔_)];exact hk.now g hr' RD.bl'
 ·have e1:=zaW r1; have e2:=zaW r2;subst e1; subst e2;refine h1 pins s σ H _ _ v u Q I rx ry ⟨rfl,?_⟩;rw[zbc (⟨λh=>V.bl.inj h,λh=>congrArg V.bl h⟩:V.bl _=V.bl _↔_)];exact hk.now g hr' RD.bl'
 ·obtain⟨a1,a2,q⟩:=hr';exact h2 pins s σ H x y v u Q I rx ry ⟨_,_,(Da.rp 60 _ a1 r1).same g,(Da.rp 60 _ a2 r2).same g,a1.shaped (by decide),a2.shaped (by decide),hk.now g q RD.bl'⟩
def z6r (hu:X.A.units+64<cLine):OpR X (compareOp .Eq) (r2 X.K X.mg pEq):=zfT (neg:=false) (zkn.imp λ_ _ _ _ h=>h) (ziE hu)
def zeZ (hu:X.A.units+64<cLine):OpR X (compareOp .NotEq) (r2 X.K X.mg pNe):=zfT (neg:=true) (zkj.imp λ_ _ _ _ h=>h) (ziD hu)
def isN:D->Bool
 | .non=>true
 | _=>false
def gIs (neg:Bool)(a b:D)(Q:DK):Prop:=match b with
 | .non=>Q (.bl (if neg then !isN a else isN a))
 | _=>False
def zbR {neg:Bool}(a b:D)(Q Q':DK)(m:∀d,Q d->Q' d)(h:gIs neg a b Q):gIs neg a b Q':=by
 unfold gIs at h ⊢
 split at h
 ·exact m _ h
 ·exact h.elim
def pIs:Fn:=fn2 (gIs false) zbR
def ziz:Fn:=fn2 (gIs true) zbR
def z58 {g:D->DK->Prop}{m}{ds:List D}{Q:DK}{Xp:XP}(h:(fn1 g m).run ds Q Xp):∃d,ds=[d]/\g d Q:=by
 match ds,h with
 | [a],h=>exact⟨a,rfl,h⟩
 | [],h=>exact h.elim
 | _::_::_,h=>exact h.elim
def zfo {g:D->D->DK->Prop}{m}{ds:List D}{Q:DK}{Xp:XP}(h:(fn2 g m).run ds Q Xp):∃d e,ds=[d,e]/\g d e Q:=by
 match ds,h with
 | [a,b],h=>exact⟨a,b,rfl,h⟩
 | [],h=>exact h.elim
 | [_],h=>exact h.elim
 | _::_::_::_,h=>exact h.elim
def gLen (d:D)(Q:DK):Prop:=match d with
 | .lst l=>Q (.int (l.length:Int))
 | .tup l=>Q (.int (l.length:Int))
 | .str x=>x.length<=sizeLine/\Q (.int (x.length:Int))
 | _=>False
def pLen:Fn:=fn1 gLen λd Q Q' m h=>by
 unfold gLen at h ⊢
 split at h
 ·exact m _ h
 ·exact m _ h
 ·exact⟨h.1,m _ h.2⟩
 ·exact h.elim
def z2a:z2p X (.builtin "len") (rN X.K X.mg pLen):=(z2p.or zay zax).imp λvs H Q ⟨G,ds,Q0,X0,g,rds,hr,hk⟩=>by
 obtain⟨d,rfl,hr'⟩:=z58 hr;obtain⟨v,rfl,rd⟩:=rds1 rds;unfold gLen at hr'
 split at hr'
 ·obtain⟨a,xs,rfl,h1,h2⟩:=z3k rd;exact .inl ⟨a,xs,rfl,.inl (z2s g h1),by rw[h2.len]; exact hk.now g hr' RD.int'⟩
 ·obtain⟨a,xs,rfl,h1,h2⟩:=z4y rd;exact .inl ⟨a,xs,rfl,.inr (z2r g h1),by rw[h2.len]; exact hk.now g hr' RD.int'⟩
 ·have e:=z5f rd;subst e;exact .inr ⟨_,rfl,hr'.1,hk.now g hr'.2 RD.int'⟩
 ·exact hr'.elim
def gAbs (d:D)(Q:DK):Prop:=match d with
 | .int i=>Q (.int (if i<0 then -i else i))
 | _=>False
def pAbs:Fn:=fn1 gAbs λd Q Q' m h=>by
 unfold gAbs at h ⊢
 split at h
 ·exact m _ h
 ·exact h.elim
def zc2:z2p X (.builtin "abs") (rN X.K X.mg pAbs):=zfx.imp λvs H Q ⟨G,ds,Q0,X0,g,rds,hr,hk⟩=>by
 obtain⟨d,rfl,hr'⟩:=z58 hr;obtain⟨v,rfl,rd⟩:=rds1 rds;unfold gAbs at hr'
 split at hr'
 ·have e:=z1i rd;subst e;exact⟨_,rfl,hk.now g hr' RD.int'⟩
 ·exact hr'.elim
def gInt (d:D)(Q:DK):Prop:=match d with
 | .int i=>Q (.int i)
 | .bl b=>Q (.int (if b then 1 else 0))
 | .str x=>∃n,PySem.intText? x=some n/\x.length<=640/\Q (.int n)
 | _=>False
def pInt:Fn:=fn1 gInt λd Q Q' m h=>by
 unfold gInt at h ⊢
 split at h
 ·exact m _ h
 ·exact m _ h
 ·obtain⟨n,h1,h2,h3⟩:=h;exact⟨n,h1,h2,m _ h3⟩
 ·exact h.elim
def zdS (d:D)(Q:DK):Prop:=match d with
 | .lst l=>Q (.tup l)
 | .tup l=>Q (.tup l)
 | _=>False
def z8q:Fn:=fn1 zdS λd Q Q' m h=>by
 unfold zdS at h ⊢
 split at h
 ·exact m _ h
 ·exact m _ h
 ·exact h.elim
def z9u:z2p X (.type "tuple") (rN X.K X.mg z8q):=z9w.imp λvs H Q ⟨G,ds,Q0,X0,g,rds,hr,hk⟩=>by
 obtain⟨d,rfl,hr'⟩:=z58 hr;obtain⟨v,rfl,rd⟩:=rds1 rds;unfold zdS at hr'
 split at hr'
 ·obtain⟨a,xs,rfl,h1,h2⟩:=z3k rd;exact⟨a,xs,rfl,.inl ⟨z2s g h1,λp hp=>hk.new g hp hr' (RD.newT h2 g hp)⟩⟩
 ·obtain⟨a,xs,rfl,h1,h2⟩:=z4y rd;exact⟨a,xs,rfl,.inr ⟨z2r g h1,hk.now g hr' (RD.ofT h1 h2)⟩⟩
 ·exact hr'.elim
def zfZ (d:D)(Q:DK):Prop:=match d with
 | .lst l=>Q (.lst l)
 | .tup l=>Q (.lst l)
 | _=>False
def zfR:Fn:=fn1 zfZ λd Q Q' m h=>by
 unfold zfZ at h ⊢
 split at h
 ·exact m _ h
 ·exact m _ h
 ·exact h.elim
def gIx (a b:D)(Q:DK):Prop:=match a,b with
 | .lst l,.int i=>onV (atI l i) Q
 | .tup l,.int i=>onV (atI l i) Q
 | .str x,.int i=>x.length<=sizeLine/\∃c,atI x.cps.toList i=some c/\Q (.str ⟨#[c]⟩)
 | _,_=>False
def zfk (a b:D)(Q Q':DK)(m:∀d,Q d->Q' d)(h:gIx a b Q):gIx a b Q':=by
 unfold gIx at h ⊢
 split at h
 ·exact zbE m h
 ·exact zbE m h
 ·obtain⟨h1,c,h2,h3⟩:=h;exact⟨h1,c,h2,m _ h3⟩
 ·exact h.elim
def pIx:Fn:=fn2 gIx zfk
def IxR.imp {r r':R2}(h:IxR X r)(i:∀x y H Q,r' x y H Q->r x y H Q):IxR X r':=λvalue slice pins s σ H x y v u Q I rx ry q hs=>h value slice pins s σ H x y v u Q I rx ry (i x y H Q q) hs
def ix_p:IxR X (r2 X.K X.mg pIx):=IxR.imp zjm λx y H Q ⟨G,d1,d2,Q0,X0,g,r1,r2,hr,hk⟩=>by
 have hr':gIx d1 d2 Q0:=hr;unfold gIx at hr'
 split at hr'
 ·obtain⟨d,e,q⟩:=zbD hr';obtain⟨a,xs,rfl,h1,h2⟩:=z3k r1;obtain⟨v,e1,rv⟩:=h2.at e;exact .inl ⟨a,xs,_,v,rfl,z1i r2,z2s g h1,e1,hk.now g q rv⟩
 ·obtain⟨d,e,q⟩:=zbD hr';obtain⟨a,xs,rfl,h1,h2⟩:=z4y r1;obtain⟨v,e1,rv⟩:=h2.at e;exact .inr (.inl ⟨a,xs,_,v,rfl,z1i r2,z2r g h1,e1,hk.now g q rv⟩)
 ·obtain⟨h1,c,h2,h3⟩:=hr';exact .inr (.inr ⟨_,_,c,z5f r1,z1i r2,h1,h2,hk.now g h3 RD.str'⟩)
 ·exact hr'.elim
def z07 {E:XK}{a b:Expr}{x y:Ex}{pos:Pos}(ha:QX X E a x)(hb:QX X E b y)(hs:zbi b):QX X E (.Subscript a b pos) (.op pIx [x,y]):=QE.imp (zk4 ix_p ha hb hs) λ_ _ _ h=>tx2 lk2 h
end
end Pu
namespace HT
open PySem PyProof.Rows
section
variable {prog:Program}{w:World}{A:Around}{E:Value->Shared->Prop}{s:Shared}
def zcK {t sl:Addr}{z0d:Array Value}{vl vu vs:Value}{R:Int × Int × Nat}{Q:Value->Shared->Prop}(ht:IsTup s.heap t z0d)(hs:s.heap.IsSliceOf sl vl vu vs)
  (ha:∀{A:Around}{E:Value->Shared->Prop}{Q:Int × Int × Nat->Shared->Prop},Q R s->wpAny (model prog w) A (Builtin.Slice.sliceApplied (.ref sl) (pure (z0d.size:Int))) Q E s) (hsz:R.2.2<=sizeLine)
  (h1:(R.1 == 0 && R.2.1 == 1 && R.2.2 == z0d.size)=true->Q (.ref t) s)
  (h2:¬ (R.1 == 0 && R.2.1 == 1 && R.2.2 == z0d.size)=true->Q (.ref s.heap.objs.size) { s with heap:=s.heap.push { cls :=.type "tuple",data :=.seq ((List.range R.2.2).filterMap λ(k:Nat)=>z0d[(R.1+(k:Int)*R.2.1).toNat]?).toArray } }):
  wpAny (model prog w) A (getItem (.ref t) (.ref sl)) Q E s:=by
 obtain⟨os,hos,hcs,hds⟩:=id hs;have hTs:s.TypeIs (.ref sl) "slice":=⟨os,hos,hcs⟩
 have htake:sizeOk (.seq ((List.range R.2.2).filterMap λ(k:Nat)=>z0d[(R.1+(k:Int)*R.2.1).toNat]?).toArray):=by
  show ((List.range R.2.2).filterMap λ(k:Nat)=>z0d[(R.1+(k:Int)*R.2.1).toNat]?).toArray.size<=sizeLine;rw[List.size_toArray];refine Nat.le_trans (List.length_filterMap_le _ _) ?_;rw[List.length_range]; exact hsz
 unfold getItem
 try with_reducible refine wpAny_holding ?_
 first | refine wpAny_bind (wpAny_pure ?_) | skip
 refine wpAny_bind (wpAny_sequenceKey ht.typeIs (by decide) ?_);refine wpAny_bind (wpAny_callSpecial?_slot (name:=Str.ofString "__getitem__") ht.typeIs PyProof.Rows.slot_tuple_getitem
  (wpAny_call_entry PyProof.Rows.slot_tuple_getitem ht.typeIs entry_tuple_getitem ?_ (args_tuple_getitem _ _)))
 show wpAny _ _ (Builtin.Tuple.tupleItemsOf (.ref t) >>= _) _ _ s;refine wpAny_bind (tupleItemsOf_ ht ?_);refine wpAny_bind (wpAny_typeOf hTs ?_);rw[if_pos (by decide)];refine wpAny_bind (ha ?_);obtain⟨r1,r2,r3⟩:=R;show wpAny _ _ (if (r1 == 0 && r2 == 1 && r3 == z0d.size)=true then _ else _) _ _ s
 by_cases hb:(r1 == 0 && r2 == 1 && r3 == z0d.size)=true
 ·rw[if_pos hb];refine wpAny_bind (m:=Builtin.Tuple.tupleIsExact (.ref t)) ?_;refine wpAny_bind (wpAny_typeOf ht.typeIs (wpAny_pure ?_));rw[if_pos (by decide)]
  first
   | exact wpAny_bind (wpAny_pure (wpAny_pure ⟨_,rfl,wpAny_pure (h1 hb)⟩))
   | exact wpAny_bind (wpAny_rule (wpAny_pure ⟨_,rfl,wpAny_pure (h1 hb)⟩))
   | exact wpAny_bind (wpAny_rule (wpAny_bind (wpAny_pure (wpAny_pure ⟨_,rfl,wpAny_pure (h1 hb)⟩))))
   | exact wpAny_pure ⟨_,rfl,wpAny_pure (h1 hb)⟩
 ·rw[if_neg hb];have h:=h2 hb
  first
   | exact wpAny_bind (m:=Builtin.Tuple.tupleExact _) (wpAny_newObj_type (wpAny_pure ⟨_,rfl,wpAny_pure h⟩) htake)
   | exact wpAny_bind (m:=Builtin.Tuple.tupleExact _) (wpAny_newObj_type (wpAny_bind (wpAny_pure (wpAny_pure ⟨_,rfl,wpAny_pure h⟩))) htake)
   | exact wpAny_bind (wpAny_bind (m:=Builtin.Tuple.tupleExact _) (wpAny_newObj_type (wpAny_pure (wpAny_pure ⟨_,rfl,wpAny_pure h⟩)) htake))
   | exact wpAny_bind (wpAny_bind (m:=Builtin.Tuple.tupleExact _) (wpAny_newObj_type (wpAny_pure ⟨_,rfl,wpAny_pure h⟩) htake))
end
end HT
namespace Pu
open PySem PySem.Spec PyProof.Rows L2
def part (o:Option Ex)(ρ:Pu.Env)(K:Option Int->Prop)(X:XP):Prop:=match o with
 | none=>K none
 | some e=>e.run ρ (λd=>isI d λi=>K (some i)) X
def z5M {o:Option Ex}{ρ:Pu.Env}{K K':Option Int->Prop}{X X':XP}(m:∀i,K i->K' i)(mx:∀x,X x->X' x)(h:part o ρ K X):part o ρ K' X':=by
 cases o with
 | none=>exact m _ h
 | some e=>exact e.mono ρ _ _ X X' (λd q=>zbN (λi q=>m _ q) q) mx h
def cutD (l:List D)(lo hi:Option Int):List D:=(l.drop (HT.sIx l.length 0 lo)).take (HT.sIx l.length l.length hi - HT.sIx l.length 0 lo)
def slcD (d:D)(lo hi:Option Int)(Q:DK):Prop:=match d with
 | .lst l=>Q (.lst (cutD l lo hi))
 | .tup l=>Q (.tup (cutD l lo hi))
 | .str x=>x.length<=sizeLine/\Q (.str (Txt.slice x lo hi))
 | _=>False
def zcR {d:D}{lo hi:Option Int}{Q Q':DK}(m:∀d,Q d->Q' d)(h:slcD d lo hi Q):slcD d lo hi Q':=by
 unfold slcD at h ⊢
 split at h
 ·exact m _ h
 ·exact m _ h
 ·exact⟨h.1,m _ h.2⟩
 ·exact h.elim
def Ex.sl (e:Ex)(lo hi:Option Ex):Ex:=⟨λρ Q X=>e.run ρ (λd=>part lo ρ (λl=>part hi ρ (λu=>slcD d l u Q) X) X) X,λρ Q Q' X X' m mx q=>e.mono ρ _ _ X X' (λd q=>z5M (λl q=>z5M (λu q=>zcR m q) mx q) mx q) mx q⟩
def zka (l:List D)(lo hi:Option Int)(st:Int):List D:=(sliceRange (sliceBounds lo hi (some st) l.length).1 (sliceBounds lo hi (some st) l.length).2.1 (sliceBounds lo hi (some st) l.length).2.2).filterMap (l[·]?)
def slsD (d:D)(lo hi:Option Int)(st:Int)(Q:DK):Prop:=st≠0/\match d with
 | .lst l=>Q (.lst (zka l lo hi st))
 | _=>False
def zcP {d:D}{lo hi:Option Int}{st:Int}{Q Q':DK}(m:∀d,Q d->Q' d)(h:slsD d lo hi st Q):slsD d lo hi st Q':=by
 refine⟨h.1,?_⟩;have h2:=h.2
 split at h2
 ·exact m _ h2
 ·exact h2.elim
def Ex.sls (e:Ex)(lo hi:Option Ex)(st:Ex):Ex:=⟨λρ Q X=>e.run ρ (λd=>part lo ρ (λl=>part hi ρ (λu=>st.run ρ (λk=>isI k λk=>slsD d l u k Q) X) X) X) X,λρ Q Q' X X' m mx q=>e.mono ρ _ _ X X' (λd q=>z5M (λl q=>z5M (λu q=>st.mono ρ _ _ X X' (λk q=>zbN (λk q=>zcP m q) q) mx q) mx q) mx q) mx q⟩
def rSlP (K:W.Frag)(mg:Str->Option Value):V->Option Int->Option Int->Hp->VK->Prop:=λx lo hi H Q=>∃G d Q0,Same G H/\RD K mg G d x/\slcD d lo hi Q0/\Kt K mg G H Q0 Q
section
variable {X:Cx}{K:W.Frag}{mg:Str->Option Value}{E:XK}
def zep:SlR X (λx lo hi H Q=>∃a xs,x = .ref a/\SqT X.K H a xs/\(HT.sIx xs.length 0 lo=0/\HT.sIx xs.length xs.length hi=xs.length)/\Q (.ref a) H):=by
 intro pins s σ H x v vl vu lo hi sl Q I rx hs pl pu h;obtain⟨a,xs,rfl,hx,hw,q⟩:=h
 cases rx
 obtain⟨its,r,ht,hz⟩:=I.tuple hx;have hlen:its.toArray.size=xs.length:=by rw[List.size_toArray]; exact r.length.symm
 refine⟨"tuple",_,PyProof.Rows.slot_tuple_getitem.lookup,ht.typeIs,?_⟩;refine HT.zcK (R:=(((HT.sIx its.toArray.size 0 lo:Nat):Int),1,HT.sIx its.toArray.size its.toArray.size hi - HT.sIx its.toArray.size 0 lo)) ht hs (λh=>HT.z4x hs pl pu h) ?_ (λ_=>⟨.ref a,H,I,rfl,q⟩) (λz =>?_)
 ·rw[hlen]; dsimp only; rw[hw.1,hw.2]; omega
 ·rw[hlen] at z;exact absurd (by dsimp only; rw[hw.1,hw.2]; simp) z
def zcw {xs:List D}{lo hi:Option Int}(h:HT.sIx xs.length 0 lo=0/\HT.sIx xs.length xs.length hi=xs.length):cutD xs lo hi=xs:=by
 unfold cutD;rw[h.1,h.2];simp
def sl_p:SlR X (rSlP X.K X.mg):=((zgf.or (zhD.or zep)).or zhE).imp λx lo hi H Q ⟨G,d,Q0,g,rd,hr,hk⟩=>by
 unfold slcD at hr
 split at hr
 ·obtain⟨a,xs,rfl,h1,h2⟩:=z3k rd;exact .inl (.inl ⟨a,xs,rfl,z2s g h1,λp hp=>hk.new g hp hr (RD.newL (h2.cut lo hi) g hp)⟩)
 ·obtain⟨a,xs,rfl,h1,h2⟩:=z4y rd
  by_cases hw:HT.sIx xs.length 0 lo=0/\HT.sIx xs.length xs.length hi=xs.length
  ·refine .inl (.inr (.inr ⟨a,xs,rfl,z2r g h1,hw,hk.now g hr ?_⟩));rw[h2.len] at hw;rw[zcw hw];exact RD.ofT h1 h2
  ·exact .inl (.inr (.inl ⟨a,xs,rfl,z2r g h1,hw,λp hp=>hk.new g hp hr (RD.newT (h2.cut lo hi) g hp)⟩))
 ·exact .inr ⟨_,z5f rd,hr.1,hk.now g hr.2 RD.str'⟩
 ·exact hr.elim
def zc7 (K:W.Frag)(mg:Str->Option Value)(E:XK)(o:Option Ex):TO:=λσ H Q=>∃G ρ Q0 X0,Same G H/\AbE K mg G ρ σ/\part o ρ Q0 X0/\(∀i G' H',Q0 i->Gr G H G'->Same G' H'->Same H H'->Q i H')/\Kx mg H X0 E
def QO.imp {e:Option Expr}{t t':TO}(h:QO X e t)(i:∀σ H Q,t' σ H Q->t σ H Q):QO X e t':=⟨λpins s σ H Q I q=>h.p pins s σ H Q I (i σ H Q q)⟩
def zaX:QO X none (zc7 X.K X.mg E none):=QO.imp zgw λσ H Q ⟨G,ρ,Q0,X0,hs,ab,hr,hk,hx⟩=>hk none G H hr Gr.refl hs Same.refl'
def z5y {e:Expr}{x:Ex}(h:QX X E e x):QO X (some e) (zc7 X.K X.mg E (some x)):=QO.imp (zgv h) λσ H Q ⟨G,ρ,Q0,X0,hs,ab,hr,hk,hx⟩=>by
 refine⟨G,ρ,_,X0,hs,ab,hr,λd v G1 H1 q g1 g2 g3 rd =>?_,hx⟩;obtain⟨i,rfl,q⟩:=zfg q;exact⟨i,z1i rd,hk (some i) G1 H1 q g1 g2 g3⟩
def zjM {σ:L2.St}{H:Hp}{Q:VK}{e:Ex}{lo hi:Option Ex}(h:tx K mg E (.sl e lo hi) σ H Q):tSl (rSlP K mg) (tx K mg E e) (zc7 K mg E lo) (zc7 K mg E hi) σ H Q:=by
 obtain⟨G,ρ,Q0,X0,hs,ab,hr,hk,hx⟩:=h;refine⟨G,ρ,_,X0,hs,ab,hr,λd v G1 H1 q g1 g2 g3 rd =>?_,hx⟩;refine⟨G1,ρ,_,X0,g2,ab.same g1.1,q,λl G2 H2 q k1 k2 k3 =>?_,hx.same g3⟩;refine⟨G2,ρ,_,X0,k2,ab.same (z0c g1.1 k1.1),q,λu G3 H3 q n1 n2 n3 =>?_,hx.same (z0c g3 k3)⟩;exact⟨G3,d,Q0,n2,rd.same (z0c k1.1 n1.1),q,hk.same (g1.trans g3 (k1.trans k3 n1)) (z0c g3 (z0c k3 n3))⟩
def zd7 {e:Expr}{x:Ex}{lo hi:Option Expr}{l u:Option Ex}{p2 pos:Pos}(he:QX X E e x)(hl:QO X lo (zc7 X.K X.mg E l))(hu:QO X hi (zc7 X.K X.mg E u)):QX X E (.Subscript e (.Slice lo hi none p2) pos) (.sl x l u):=QE.imp (zeG sl_p he hl hu) λ_ _ _ h=>zjM h
end
section
variable {X:Cx}{K:W.Frag}{mg:Str->Option Value}{E:XK}
def isiD (T:String):D->Option Bool
 | .int _=>some (T == "int")
 | .bl _=>some (T == "int" || T == "bool")
 | .str _=>some (T == "str")
 | .tup _=>some (T == "tuple")
 | .lst _=>some (T == "list")
 | .non=>some false
 | _=>none
def onB (o:Option Bool)(Q:Bool->Prop):Prop:=match o with
 | some b=>Q b
 | none=>False
def zeW {o:Option Bool}{Q Q':Bool->Prop}(m:∀b,Q b->Q' b)(h:onB o Q):onB o Q':=by
 cases o with
 | none=>exact h
 | some b=>exact m _ h
def zeV {o:Option Bool}{Q:Bool->Prop}(h:onB o Q):∃b,o=some b/\Q b:=by
 cases o with
 | none=>exact h.elim
 | some b=>exact⟨b,rfl,h⟩
def pIsi (T:String):Fn:=fn1 (λd Q=>onB (isiD T d) λb=>Q (.bl b)) λd Q Q' m h=>zeW (λb q=>m _ q) h
def zfd:List String:=["int","bool","str","tuple","list"]
def zh3 {T:String}(hT:T∈zfd):PySem.W.kitOne K (.type "int") (.type T)=some (T == "int")/\PySem.W.kitOne K (.type "bool") (.type T)=some (T == "int" || T == "bool")/\PySem.W.kitOne K (.type "str") (.type T)=some (T == "str")/\
  PySem.W.kitOne K (.type "tuple") (.type T)=some (T == "tuple")/\PySem.W.kitOne K (.type "list") (.type T)=some (T == "list")/\PySem.W.kitOne K (.type "NoneType") (.type T)=some false:=by
 unfold zfd at hT;simp only[List.mem_cons,List.not_mem_nil,or_false] at hT
 rcases hT with rfl | rfl | rfl | rfl | rfl <;> exact⟨rfl,rfl,rfl,rfl,rfl,rfl⟩
def zjU (K:W.Frag)(mg:Str->Option Value)(T:String):List V->Hp->VK->Prop:=λvs H Q=>∃v G d Q0,vs=[v,.ty T]/\Same G H/\RD K mg G d v/\(onB (isiD T d) λb=>Q0 (.bl b))/\Kt K mg G H Q0 Q
def zjB {T:String}(hT:T∈zfd):z2p X (.builtin "isinstance") (zjU X.K X.mg T):=by
 intro pins s σ H vs us Q I rv ⟨v,G,d,Q0,e,g,rd,hr,hk⟩;subst e;obtain⟨b,eb,q⟩:=zeV hr;obtain⟨u,w,rfl,ru,rw'⟩:=zho rv
 cases (show w=Value.type T from rw')
 obtain⟨t1,t2,t3,t4,t5,t6⟩:=zh3 (K:=X.K) hT;have fin:∀tk,EP X pins σ Q (.bool b) { s with toks:=tk }:=λtk=>⟨.bl b,H,I.tok tk,rfl,hk.now g q RD.bl'⟩
 cases d with
 | int i=>
  have e:=z1i rd; subst e;rw[show isiD T (.int i)=some (T == "int") from rfl] at eb;exact z5S I ru (.int i) (t1.trans eb) fin
 | bl i=>
  have e:=zaW rd; subst e;rw[show isiD T (.bl i)=some (T == "int" || T == "bool") from rfl] at eb;exact z5S I ru (.bl i) (t2.trans eb) fin
 | str i=>
  have e:=z5f rd; subst e;rw[show isiD T (.str i)=some (T == "str") from rfl] at eb;exact z5S I ru (.str i) (t3.trans eb) fin
 | non=>
  have e:=zd4 rd; subst e;rw[show isiD T .non=some false from rfl] at eb;exact z5S I ru .non (t6.trans eb) fin
 | tup l=>
  obtain⟨a,xs,rfl,h1,h2⟩:=z4y rd
  cases ru
  rw[show isiD T (.tup l)=some (T == "tuple") from rfl] at eb;obtain⟨its,r,⟨o,ho,hc,_⟩,_⟩:=I.tuple (z2r g h1);exact PySem.W.kia_one PySem.W.kitx_tuple I.kIn ⟨o,ho,hc⟩ (t4.trans eb) (λz=>nomatch z) fin
 | lst l=>
  obtain⟨a,xs,rfl,h1,h2⟩:=z3k rd
  cases ru
  rw[show isiD T (.lst l)=some (T == "list") from rfl] at eb;obtain⟨its,r,⟨o,n,ho,hc,_⟩,_⟩:=I.list (z2s g h1);exact PySem.W.kia_one PySem.W.kitx_list I.kIn ⟨o,ho,hc⟩ (t5.trans eb) (λz=>nomatch z) fin
 | _=>cases eb
def zby {e t:Expr}{x:Ex}{pp pos:Pos}{T:String}(hT:T∈zfd)(hg:Gl X "isinstance")(hm:X.mg "isinstance"=none)(he:QX X E e x)(ht:QE X t (tC (.ty T)))
  (hs1:starEach [e,t] X.env=(false,eval e X.env)::starEach [t] X.env:=by rfl) (hs2:starEach [t] X.env=(false,eval t X.env)::starEach [] X.env:=by rfl) (hpl:(backTo pos (starEach [t] X.env)).any (·.1)=false:=by rfl)
  (hv:bootBuiltins "isinstance"=some (.builtin "isinstance"):=by rfl) (hn:("isinstance":Str)≠"__name__":=by decide) (hdb:(("isinstance":Str) == ("__debug__":Str))=false:=by decide):QX X E (.Call (.Name "isinstance" pp) [e,t] [] pos) (.op (pIsi T) [x]):=
 QE.imp (z8R (zjB hT) hg hm hv (z7e he (z7e ht zbz hs2) hs1) hn hdb hs1 hpl) λσ H Q ⟨G,ρ,Q0,X0,hs,ab,hr,hk,hx⟩=>by
  refine⟨G,ρ,_,X0,hs,ab,hr,λd v G1 H1 q g1 g2 g3 rd =>?_,hx⟩;exact⟨v,G1,d,Q0,rfl,g2,rd,q,hk.same g1 g3⟩
def zfn {g:Int->Int->DK->Prop}{hg}{ds:List D}{Q:DK}{Xp:XP}(h:(fnI g hg).run ds Q Xp):∃i j,ds=[.int i,.int j]/\g i j Q:=by
 obtain⟨d,e,rfl,h'⟩:=zfo (m:=zdT hg) h;obtain⟨i,j,rfl,rfl,q⟩:=zbb h';exact⟨i,j,rfl,q⟩
def zki:Fn:=fnI (λi j Q=>Q (.int (if j > i then j else i))) λ_ _ _ _ m h=>m _ h
def zgK:Fn:=fnI (λi j Q=>Q (.int (if j<i then j else i))) λ_ _ _ _ m h=>m _ h
def zhh (hc:X.calm=true):z2p X (.builtin "min") (rN X.K X.mg zgK):=(ze6 hc).imp λvs H Q ⟨G,ds,Q0,X0,g,rds,hr,hk⟩=>by
 obtain⟨i,j,rfl,q⟩:=zfn hr;obtain⟨v,w,rfl,r1,r2⟩:=rds2 rds;exact⟨i,j,by rw[z1i r1,z1i r2],hk.now g q RD.int'⟩
end
def GlS (sc:Scope)(x:Str):Prop:=sc.names.lookup x=some .globalImplicit
structure Nm (sc:Scope)(x:Str):Prop where
 loc:Loc sc x
 hd:(x == ("__debug__":Str))=false
 hcd:(x == ("__classdict__":Str))=false
def Nm.vis {sc:Scope}{x:Str}(h:Nm sc x):Vis sc x:=h.loc.elim .inl λz =>.inr (.inl z)
section
variable {CX:CXT}{P:Program}{w:World}{K:W.Frag}{mg:Str->Option Value}{base:Heap}{N:List Str}{qual:Str}{sc:Scope}{f:Addr}{cdv:Value}{A:Around}{outer:List PySem.Env}{s:Shared}{H:Hp}{E:XK}{xe:Value->Shared->Prop}{x:Str}{pos pos2:Pos}{e:Expr}{te:TE}
def vg (i:Nat)(h:Nm sc x)(hN:N[i]? = some x:=by rfl):QE ((cxOf CX P w K mg base N qual sc f cdv A outer s H E).wish xe) (.Name x pos) (tVar i):=⟨zfQ hN h.vis h.hd h.hcd⟩
def ng (i:Nat)(nd:N.Nodup)(h:Nm sc x)(hN:N[i]? = some x:=by rfl):QG ((cxOf CX P w K mg base N qual sc f cdv A outer s H E).wish xe) (.Name x pos) (z6x i):=⟨zdr nd hN h.loc (.inl rfl)⟩
def ag (i:Nat)(nd:N.Nodup)(h:Nm sc x)(he:QE ((cxOf CX P w K mg base N qual sc f cdv A outer s H E).wish xe) e te)(hN:N[i]? = some x:=by rfl)(hs:swapsWith e (some (.Name x pos2)) pos.line ((cxOf CX P w K mg base N qual sc f cdv A outer s H E).wish xe).env=pure false:=by rfl):QS ((cxOf CX P w K mg base N qual sc f cdv A outer s H E).wish xe) (.Assign [.Name x pos2] e pos) (tAsg te (z6x i)):=⟨zii nd hN h.loc he.p hs (.inl rfl)⟩
def glg (h:GlS sc x):Gl ((cxOf CX P w K mg base N qual sc f cdv A outer s H E).wish xe) x:=h
end
def spL (K:W.Frag):Sp:=λvs H Q _=>∃(a:Addr) (ns:List Int),vs=[.ref a]/\SqL K H a (ns.map V.int)/\ns.length<=63/\∀H',Q (.bl true) H'
def zjd {P:Program}{w:World}{K:W.Frag}{mg:Str->Option Value}{base:Heap}{CX:CXT}{k:Nat}{f:Addr}{fd:FuncData}{ps:List Str}{F:Fn}(h:∀ns:List Int,ns.length<=63->F.run [.lst (ns.map .int)] (λd=>d = .bl true) (λ_=>False))(ok:FnOk P w K mg base CX k f fd ps (spP K mg F)):FnOk P w K mg base CX k f fd ps (spL K):=
 ok.imp λvs H Q E ⟨a,ns,e,hS,hl,q⟩=>⟨H,[.lst (ns.map .int)],_,_,Same.refl',by rw[e]; exact RDs.cons (RD.ofL hS (z9c ns)) RDs.nil,h ns hl,λd v G' H' e g1 g2 g3 rd=>by
  subst e;rw[zaW rd];exact q H',Kx.no⟩
end Pu
namespace Pu
open PySem L2
open Builtin.Int (intBits)
section
variable {ρ:Pu.Env}{Q:DK}{X:XP}{N:Pu.Env->Prop}{a b c e:Ex}{s t:Sm}{F:Fn}{d:D}{i j:Nat}
def za6 {d:D}(q:Q d):onV (some d) Q:=q
def e_c (q:Q d):(Ex.c d).run ρ Q X:=q
def e_v (q:onV (ρ.get i) Q):(Ex.v i).run ρ Q X:=q
def zkM (q:a.run ρ (λx=>F.run [x] Q X) X):(Ex.op F [a]).run ρ Q X:=q
def zkL (q:a.run ρ (λx=>b.run ρ (λy=>F.run [x,y] Q X) X) X):(Ex.op F [a,b]).run ρ Q X:=q
def zkK (q:a.run ρ (λx=>b.run ρ (λy=>c.run ρ (λz=>F.run [x,y,z] Q X) X) X) X):(Ex.op F [a,b,c]).run ρ Q X:=q
def zkJ (q:a.run ρ (λx=>b.run ρ (λy=>c.run ρ (λz=>e.run ρ (λu=>F.run [x,y,z,u] Q X) X) X) X) X):(Ex.op F [a,b,c,e]).run ρ Q X:=q
def zkI {es:List Ex}(q:runs es ρ (λds=>F.run ds Q X) X):(Ex.op F es).run ρ Q X:=q
def zhU {Q:List D->Prop}(q:Q []):runs [] ρ Q X:=q
def zgn {es:List Ex}{Q:List D->Prop}(q:a.run ρ (λd=>runs es ρ (λds=>Q (d::ds)) X) X):runs (a::es) ρ Q X:=q
def zkP (q:a.run ρ (λd=>tst d (b.run ρ Q X) (Q (.bl false))) X):(Ex.and a b).run ρ Q X:=q
def e_or (q:a.run ρ (λd=>tst d (Q (.bl true)) (b.run ρ Q X)) X):(Ex.or a b).run ρ Q X:=q
def notD (d:D)(Q:DK):Prop:=match d with
 | .bl b=>Q (.bl (!b))
 | _=>False
def zkN (q:a.run ρ (λd=>notD d Q) X):(Ex.not a).run ρ Q X:=q
def n_bl {k:Bool}(q:Q (.bl (!k))):notD (.bl k) Q:=q
def zkO (q:c.run ρ (λd=>tst d (a.run ρ Q X) (b.run ρ Q X)) X):(Ex.ifx c a b).run ρ Q X:=q
def zjt {nt:Nat}{js:List Nat}{tg:Tg}{src:Ex}{ct:Option Ex}{elt:Ex}(q:src.run ρ (λd=>onL (z0d d) λl=>l.length<sizeLine/\z4E (z4F tg ct elt (z1b nt js ρ)) l λr=>Q (.lst r)) X):(Ex.comp nt js tg src ct elt).run ρ Q X:=q
def zkE {l:List D}{K:List D->Prop}(q:K l):onL (z0d (.lst l)) K:=q
def zkD {l:List D}{K:List D->Prop}(q:K l):onL (z0d (.tup l)) K:=q
def e_sl {lo hi:Option Ex}(q:a.run ρ (λd=>part lo ρ (λl=>part hi ρ (λu=>slcD d l u Q) X) X) X):(Ex.sl a lo hi).run ρ Q X:=q
def zkH {lo hi:Option Ex}(q:a.run ρ (λd=>part lo ρ (λl=>part hi ρ (λu=>b.run ρ (λk=>isI k λk=>slsD d l u k Q) X) X) X) X):(Ex.sls a lo hi b).run ρ Q X:=q
def ziy {K:Option Int->Prop}(q:K none):part none ρ K X:=q
def zix {K:Option Int->Prop}(q:a.run ρ (λd=>isI d λi=>K (some i)) X):part (some a) ρ K X:=q
def zjn {k:Int}{K:Int->Prop}(q:K k):isI (.int k) K:=q
def zkU {l:List D}{lo hi:Option Int}(q:Q (.lst (cutD l lo hi))):slcD (.lst l) lo hi Q:=q
def zkT {l:List D}{lo hi:Option Int}(q:Q (.tup (cutD l lo hi))):slcD (.tup l) lo hi Q:=q
def z5e {A B:Prop}(h:A):tst (.bl true) A B:=⟨λ_=>h,(λz=>by cases z)⟩
def z8G {A B:Prop}(h:B):tst (.bl false) A B:=⟨(λz=>by cases z),λ_=>h⟩
def zcS {d:D}{ρ:Pu.Env}{B:Prop}(h:Safe d ρ)(q:B):Safe d ρ/\B:=⟨h,q⟩
def zaP {d:D}{ρ:Pu.Env}{B:Prop}(h:zfE d ρ)(q:B):zfE d ρ/\B:=⟨h,q⟩
def t_bl {k:Bool}{A B:Prop}(h:k=true->A)(h':k=false->B):tst (.bl k) A B:=⟨h,h'⟩
def z2f {p:Prop}[Decidable p]{A B:Prop}(h:p->A)(h':¬ p->B):tst (.bl (decide p)) A B:=⟨λe=>h (of_decide_eq_true e),λe=>h' (of_decide_eq_false e)⟩
def z75 {p:Prop}[Decidable p]{A B:Prop}(hp:p)(h:A):tst (.bl (decide p)) A B:=z2f (λ_=>h) λn=>(n hp).elim
def t_no {p:Prop}[Decidable p]{A B:Prop}(hp:¬ p)(h:B):tst (.bl (decide p)) A B:=z2f (λy=>(hp y).elim) λ_=>h
def z6j {k:Bool}{A B:Prop}(h:tst (.bl k) B A):tst (.bl (!k)) A B:=by
 cases k
 ·exact z5e (h.2 rfl)
 ·exact z8G (h.1 rfl)
def zel {k:Bool}{A B:Prop}(e:k=true)(h:A):tst (.bl k) A B:=by rw[e]; exact z5e h
def zhG (q:N ρ):Sm.skip.run ρ N Q X:=q
def zhJ (q:s.run ρ (λρ'=>t.run ρ' N Q X) Q X):(Sm.seq s t).run ρ N Q X:=q
def zhI (q:a.run ρ (λd=>Safe d (ρ.set i .n)/\N (ρ.set i (.s d))) X):(Sm.set i a).run ρ N Q X:=q
def zhL (q:a.run ρ (λd=>zfE d (ρ.set i .n)/\N (ρ.set i (.o d))) X):(Sm.own i a).run ρ N Q X:=q
def zhH {js:List Nat}(q:a.run (vis (dem js ρ)) (λd=>N ((dem js ρ).set i (.s d))) X):(Sm.setx js i a).run ρ N Q X:=q
def s_if (q:c.run ρ (λd=>tst d (s.run ρ N Q X) (t.run ρ N Q X)) X):(Sm.ifs c s t).run ρ N Q X:=q
def zjO (q:a.run ρ Q X):(Sm.ret a).run ρ N Q X:=q
def zhK (q:Q .non):Sm.retN.run ρ N Q X:=q
def s_ex (q:a.run ρ (λ_=>N ρ) X):(Sm.ex a).run ρ N Q X:=q
def zgh {x:Str}(q:X x):(Sm.raise x).run ρ N Q X:=q
def zhQ (q:s.run ρ N Q (λ_=>False)):(Sm.calm s).run ρ N Q X:=q
def zjQ {js:List Nat}{tg:Tg}(q:a.run (vis (dem js ρ)) (λd=>onL (z0d d) λl=>forL tg s N Q X l (dem js ρ)) X):(Sm.for_ js tg a s).run ρ N Q X:=q
def zgk {tg:Tg}(q:a.run ρ (λd=>onR [d] λl=>forL tg s N Q X l ρ) X):(Sm.forr [a] tg s).run ρ N Q X:=q
def zgj {tg:Tg}(q:a.run ρ (λd=>b.run ρ (λd'=>onR [d,d'] λl=>forL tg s N Q X l ρ) X) X):(Sm.forr [a,b] tg s).run ρ N Q X:=q
def z8L {l:List D}(h:ownL ρ i λl=>a.run ρ (λd=>l.length<sizeLine/\Safe d ρ/\N (ρ.set i (.o (.lst (l++[d]))))) X):(Sm.app i a).run ρ N Q X:=h
def zjP (h:ownL ρ i λl=>popL l λl' _=>N (ρ.set i (.o (.lst l')))):(Sm.pop i).run ρ N Q X:=h
def zjS {np nn:Nat}{ds:List D}(h:ds.length=np)(q:s.run (ds.map B.s++List.replicate (nn - np) .n) (λ_=>Q .non) Q (λ_=>False)):(Fn.mkN np nn s).run ds Q X:=⟨h,q⟩
def zjT {np nn:Nat}{ds:List D}(h:ds.length=np)(q:s.run (ds.map B.s++List.replicate (nn - np) .n) (λ_=>Q .non) Q X):(Fn.mk' np nn s).run ds Q X:=⟨h,q⟩
def Sm.cut (W:Pu.Env->Prop)(h:s.run ρ W Q X)(k:∀ρ',W ρ'->t.run ρ' N Q X):(Sm.seq s t).run ρ N Q X:=s.mono ρ W (λρ'=>t.run ρ' N Q X) Q Q X X k (λ_ z=>z) (λ_ z=>z) h
def z2e {α:Type}{f:α->D}{tg:Tg}{l:List α}(I:List α->Pu.Env->Prop)(h0:I [] ρ)(hs:∀(dn:List α) (x:α) (r:List α) (ρ:Pu.Env),l=dn++x::r->I dn ρ->tg.put (f x) ρ λρ'=>s.run ρ' (λρ''=>I (dn++[x]) ρ'') Q X)(hd:∀ρ,I l ρ->N ρ):forL tg s N Q X (l.map f) ρ:=by
 have main:∀(r dn:List α) (ρ:Pu.Env),l=dn++r->I dn ρ->forL tg s N Q X (r.map f) ρ:=by
  intro r
  induction r with
  | nil=>
   intro dn ρ e h;rw[List.append_nil] at e;subst e;exact hd ρ h
  | cons x r ih=>
   intro dn ρ e h;rw[List.map_cons];exact Tg.put_mono (λρ' q=>s.mono ρ' _ _ Q Q X X (λρ'' q=>ih (dn++[x]) ρ'' (by rw[e]; simp) q) (λ_ z=>z) (λ_ z=>z) q) (hs dn x r ρ e h)
 exact main l [] ρ rfl h0
def zcD (I:Pu.Env->Prop)(μ:Pu.Env->Nat)(h0:I ρ)(hs:∀ρ,I ρ->c.run ρ (λd=>tst d (s.run ρ (λρ'=>I ρ'/\μ ρ' < μ ρ) Q X) (N ρ)) X):(Sm.wh c s).run ρ N Q X:=by
 have main:∀(n:Nat) (ρ:Pu.Env),I ρ->μ ρ < n->wh c s N Q X n ρ:=by
  intro n
  induction n with
  | zero=>intro ρ _ h; exact absurd h (Nat.not_lt_zero _)
  | succ n ih=>
   intro ρ hI hm;exact c.mono ρ _ _ X X (λd q=>z4g (s.mono ρ _ _ Q Q X X (λρ' q=>ih ρ' q.1 (by lia)) (λ_ z=>z) (λ_ z=>z)) (λz=>z) q) (λ_ z=>z) (hs ρ hI)
 exact⟨μ ρ+1,main _ ρ h0 (Nat.lt_succ_self _)⟩
def z53 {α:Type}{f g:α->D}{G:D->(Option D->Prop)->Prop}{M:List D->Prop}:∀{l:List α},(∀x∈l,∀K:Option D->Prop,K (some (g x))->G (f x) K)->M (l.map g)->z4E G (l.map f) M
 | [],_,q=>q
 | x::r,h,q=>h x List.mem_cons_self _ (z53 (l:=r) (λy hy=>h y (List.mem_cons_of_mem _ hy)) q)
def z54 {α:Type}{f g:α->D}{p:α->Bool}{G:D->(Option D->Prop)->Prop}{M:List D->Prop}:∀{l:List α},(∀x∈l,∀K:Option D->Prop,(p x=true->K (some (g x)))->(p x=false->K none)->G (f x) K)->M ((l.filter p).map g)->z4E G (l.map f) M
 | [],_,q=>q
 | x::r,h,q=>by
  refine h x List.mem_cons_self _ (λe =>?_) (λe =>?_)
  ·refine z54 (l:=r) (λy hy=>h y (List.mem_cons_of_mem _ hy)) ?_;rw[List.filter_cons,e] at q;exact q
  ·refine z54 (l:=r) (λy hy=>h y (List.mem_cons_of_mem _ hy)) ?_;rw[List.filter_cons,e] at q;exact q
def zat {α β:Type}{f:α->D}{g:β->D}{P:α->β->Prop}{G:D->(Option D->Prop)->Prop}:∀{l:List α}{M:List D->Prop},(∀x∈l,∀K:Option D->Prop,(∀y,P x y->K (some (g y)))->G (f x) K)->(∀ys:List β,ys.length=l.length->(∀y∈ys,∃x∈l,P x y)->M (ys.map g))->z4E G (l.map f) M
 | [],_,_,q=>q [] rfl (λ_ z=>by simp at z)
 | x::r,M,h,q=>h x List.mem_cons_self _ λy hy=>zat (l:=r) (M:=λt=>M ((some (g y)).toList++t)) (λz hz=>h z (List.mem_cons_of_mem _ hz)) λys hl ha=>q (y::ys) (by simp[hl]) λz hz=>by
  rcases List.mem_cons.mp hz with rfl | hz
  ·exact⟨x,List.mem_cons_self,hy⟩
  ·obtain⟨w,hw,hp⟩:=ha z hz;exact⟨w,List.mem_cons_of_mem _ hw,hp⟩
def zkS {k:Nat}{elt:Ex}{x:D}{K:Option D->Prop}(q:elt.run (ρ.set k (.s x)) (λd=>K (some d)) (λ_=>False)):z4F (.nm k) none elt ρ x K:=q
def zjA {k:Nat}{elt:Ex}{x:D}{K:Option D->Prop}(q:c.run (ρ.set k (.s x)) (λb=>tst b (elt.run (ρ.set k (.s x)) (λd=>K (some d)) (λ_=>False)) (K none)) (λ_=>False)):z4F (.nm k) (some c) elt ρ x K:=q
variable {m n:Int}
def zkw (q:Q (.int (m+n))):pAdd.run [.int m,.int n] Q X:=q
def zkq (q:Q (.int (m - n))):pSub.run [.int m,.int n] Q X:=q
def zgV (h:zhl m n)(q:Q (.int (m*n))):z0l.run [.int m,.int n] Q X:=⟨h,q⟩
def zks (q:Q (.int (-m))):pNeg.run [.int m] Q X:=q
def zj3 (h:0<n)(hb:Bt 9000 n)(q:Q (.int (m / n))):z1r.run [.int m,.int n] Q X:=⟨⟨by lia,hb⟩,by rw[Int.fdiv_eq_ediv_of_nonneg m (by lia)]; exact q⟩
def ziM (h:0<n)(q:Q (.int (m % n))):pMod.run [.int m,.int n] Q X:=⟨by lia,by rw[Int.fmod_eq_emod_of_nonneg m (by lia)]; exact q⟩
def zkr (h:CPow m n)(q:Q (.int (m ^ n.toNat))):pPow.run [.int m,.int n] Q X:=⟨h,q⟩
def o_lt (q:Q (.bl (decide (m<n)))):pLt.run [.int m,.int n] Q X:=q
def o_le (q:Q (.bl (decide (m<=n)))):pLe.run [.int m,.int n] Q X:=q
def o_gt (q:Q (.bl (decide (n<m)))):pGt.run [.int m,.int n] Q X:=q
def o_ge (q:Q (.bl (decide (n<=m)))):pGeI.run [.int m,.int n] Q X:=q
def o_eq (q:Q (.bl (decide (m=n)))):pEq.run [.int m,.int n] Q X:=q
def o_ne (q:Q (.bl (!decide (m=n)))):pNe.run [.int m,.int n] Q X:=q
def zf0 {l r:List D}(a:Da 60 (.tup l))(b:Da 60 (.tup r))(q:Q (.bl (deq (.tup l) (.tup r)))):pEq.run [.tup l,.tup r] Q X:=⟨a,b,q⟩
def ziL {l r:List D}(a:Da 60 (.tup l))(b:Da 60 (.tup r))(q:Q (.bl (!deq (.tup l) (.tup r)))):pNe.run [.tup l,.tup r] Q X:=⟨a,b,q⟩
def o_is (q:Q (.bl (isN d))):pIs.run [d,.non] Q X:=q
def zgX (q:Q (.bl (!isN d))):ziz.run [d,.non] Q X:=q
def ziU {l:List D}(q:Q (.int (l.length:Int))):pLen.run [.lst l] Q X:=q
def ziT {l:List D}(q:Q (.int (l.length:Int))):pLen.run [.tup l] Q X:=q
def zku {l:List D}(q:onV (atI l m) Q):pIx.run [.lst l,.int m] Q X:=q
def zgW {l:List D}(q:onV (atI l m) Q):pIx.run [.tup l,.int m] Q X:=q
def zkp {ds:List D}(h:ds.length<=sizeLine)(q:Q (.tup ds)):pTup.run ds Q X:=⟨h,q⟩
def zkt {ds:List D}(h:ds.length<=sizeLine)(q:Q (.lst ds)):pLst.run ds Q X:=⟨h,q⟩
def ziI {l:List D}(q:Q (.tup l)):z8q.run [.lst l] Q X:=q
def ziH {l:List D}(q:Q (.tup l)):z8q.run [.tup l] Q X:=q
def ziS {l:List D}(q:Q (.lst l)):zfR.run [.lst l] Q X:=q
def ziR {l:List D}(q:Q (.lst l)):zfR.run [.tup l] Q X:=q
def zkx (q:Q (.int (if m<0 then -m else m))):pAbs.run [.int m] Q X:=q
def zj1 (q:Q (.int m)):pInt.run [.int m] Q X:=q
def zj2 {k:Bool}(q:Q (.int (if k then 1 else 0))):pInt.run [.bl k] Q X:=q
def ziZ {T:String}(q:Q (.bl (T == "int"))):(pIsi T).run [.int m] Q X:=q
def zj0 {T:String}{k:Bool}(q:Q (.bl (T == "int" || T == "bool"))):(pIsi T).run [.bl k] Q X:=q
def ziV {T:String}{l:List D}(q:Q (.bl (T == "tuple"))):(pIsi T).run [.tup l] Q X:=q
def ziY {T:String}{l:List D}(q:Q (.bl (T == "list"))):(pIsi T).run [.lst l] Q X:=q
def ziW {T:String}{x:Str}(q:Q (.bl (T == "str"))):(pIsi T).run [.str x] Q X:=q
def ziX {T:String}(q:Q (.bl false)):(pIsi T).run [.non] Q X:=q
def ziQ (q:Q (.int (if n > m then n else m))):zki.run [.int m,.int n] Q X:=q
def ziN (q:Q (.int (if n<m then n else m))):zgK.run [.int m,.int n] Q X:=q
def zdz {l r:List D}(h:l.length+r.length<=sizeLine)(q:Q (.lst (l++r))):pAdd.run [.lst l,.lst r] Q X:=⟨h,q⟩
def zj5 {l r:List D}(h:l.length+r.length<=sizeLine)(q:Q (.tup (l++r))):pAdd.run [.tup l,.tup r] Q X:=⟨h,q⟩
end
def Safe.of_noL {d:D}(h1:noL d=true)(h2:noD d=true):∀ρ:Pu.Env,Safe d ρ
 | []=>trivial
 | .n::r=>⟨trivial,Safe.of_noL h1 h2 r⟩
 | .s _::r=>⟨trivial,Safe.of_noL h1 h2 r⟩
 | .o x::r=>⟨by cases x <;> first | exact h1 | exact h2 | trivial,Safe.of_noL h1 h2 r⟩
def z2M {ρ:Pu.Env}{i:Nat}{l:List D}{K:List D->Prop}(h:ρ[i]? = some (B.o (.lst l)))(q:K l):ownL ρ i K:=by unfold ownL; rw[h]; exact q
def zbv {k:Int}{K:List D->Prop}(h : -(2 ^ 62)<=k)(h':k<2 ^ 62)(q:K ((List.range k.toNat).map λ(j:Nat)=>D.int (j:Int))):onR [.int k] K:=⟨⟨h,h'⟩,q⟩
def zhV {i k:Int}{K:List D->Prop}(h:(-(2 ^ 62)<=i/\i<2 ^ 62) /\ -(2 ^ 62)<=k/\k<2 ^ 62)(q:K ((List.range (k - i).toNat).map λ(j:Nat)=>D.int (i+(j:Int)))):onR [.int i,.int k] K:=⟨h,q⟩
def z2Y {l:List D}{k:Int}{d:D}{Q:DK}(e:atI l k=some d)(q:Q d):onV (atI l k) Q:=by rw[e]; exact q
abbrev vec (p:Int × Int):D :=.tup [.int p.1,.int p.2]
def z95:∀{l:List D},(∀d∈l,noL d=true)->noLs l=true
 | [],_=>rfl
 | d::r,h=>by rw[noLs,h d List.mem_cons_self,z95 λx hx=>h x (List.mem_cons_of_mem _ hx)]; rfl
def z97:∀{l:List D},(∀d∈l,noD d=true)->noDs l=true
 | [],_=>rfl
 | d::r,h=>by rw[noDs,h d List.mem_cons_self,z97 λx hx=>h x (List.mem_cons_of_mem _ hx)]; rfl
abbrev vecs (l:List (Int × Int)):D :=.tup (l.map vec)
def zf2 (l:List (Int × Int)):noL (vecs l)=true:=by
 show noLs (l.map vec)=true;refine z95 λd hd =>?_;obtain⟨p,_,rfl⟩:=List.mem_map.mp hd
 rfl
def zf3 (l:List (Int × Int)):noD (vecs l)=true:=by
 show noDs (l.map vec)=true;refine z97 λd hd =>?_;obtain⟨p,_,rfl⟩:=List.mem_map.mp hd
 rfl
def z2n {α:Type}{f:α->D}{l:List α}{k:Int}{x:α}(h:atI l k=some x):atI (l.map f) k=some (f x):=by
 unfold atI at h ⊢;rw[List.length_map]
 cases q:ixN l.length k with
 | none=>rw[q] at h; cases h
 | some j=>
  rw[q] at h;have h':l[j]? = some x:=h;show (l.map f)[j]? = some (f x);rw[List.getElem?_map,h']
  rfl
def z7G {α:Type}(f:α->D)(l:List α)(lo hi:Option Int):cutD (l.map f) lo hi=((l.drop (HT.sIx l.length 0 lo)).take (HT.sIx l.length l.length hi - HT.sIx l.length 0 lo)).map f:=by
 unfold cutD;rw[List.length_map,List.map_take,List.map_drop]
def Da.vec (p:Int × Int){n:Nat}:Da (n+1) (vec p):=Da.tup.mpr λd hd=>by
 simp only[List.mem_cons,List.not_mem_nil,or_false] at hd
 rcases hd with rfl | rfl <;> exact Da.int
end Pu
namespace Geo
abbrev P:=Int × Int
def cr (a b c:P):Int:=(b.1 - a.1)*(c.2 - a.2) - (b.2 - a.2)*(c.1 - a.1)
def Lx (a b:P):Prop:=a.1<b.1\/(a.1=b.1/\a.2<b.2)
instance (a b:P):Decidable (Lx a b):=inferInstanceAs (Decidable (_\/_))
def Lx.irr {a:P}:¬ Lx a a:=by unfold Lx; lia
def Lx.tr {a b c:P}(h:Lx a b)(q:Lx b c):Lx a c:=by unfold Lx at *; lia
def Lx.asym {a b:P}(h:Lx a b):¬ Lx b a:=by unfold Lx at *; lia
def Lx.tri (a b:P):Lx a b\/a=b\/Lx b a:=by
 obtain⟨a1,a2⟩:=a;obtain⟨b1,b2⟩:=b;unfold Lx;simp only[Prod.mk.injEq];lia
def Lx.ne {a b:P}(h:Lx a b):a≠b:=λz=>by subst z; exact Lx.irr h
def za7 {a b:P}(h1:¬ Lx a b)(h2:¬ Lx b a):a=b:=by
 rcases Lx.tri a b with h | h | h
 ·exact absurd h h1
 ·exact h
 ·exact absurd h h2
def z4I {k m:Int}(h:0<k)(q:0<=m*k):0<=m:=by
 rcases(show m<0\/0<=m by lia) with z | z
 ·have:=Int.mul_neg_of_neg_of_pos z h; lia
 ·exact z
def zbo {k m:Int}(h:0<k)(q:0<m*k):0<m:=by
 rcases(show m<=0\/0<m by lia) with z | z
 ·have:=Int.mul_nonpos_of_nonpos_of_nonneg z (Int.le_of_lt h); lia
 ·exact z
def zg9 {u1 u2 w1 w2 z1 z2:Int}(hw:0<w1\/w1=0/\0<w2)(hu:0<u1\/u1=0/\0<=u2)(hz:0<z1\/z1=0/\0<=z2)(h1:0<=u1*w2 - u2*w1)(h2:0<=w1*z2 - w2*z1):0<=u1*z2 - u2*z1:=by
 rcases hw with hw | ⟨hw,hw2⟩
 ·refine z4I hw ?_;have e:(u1*z2 - u2*z1)*w1=(u1*w2 - u2*w1)*z1+(w1*z2 - w2*z1)*u1:=by grind
  rw[e];have a1:=Int.mul_nonneg h1 (show 0<=z1 by lia);have a2:=Int.mul_nonneg h2 (show 0<=u1 by lia);lia
 ·subst hw;have z0:z1=0:=by
   rcases hz with hz | hz
   ·have:=Int.mul_pos hw2 hz; lia
   ·exact hz.1
  have z2':0<=z2:=by lia
  subst z0;have:=Int.mul_nonneg (show 0<=u1 by lia) z2';lia
def zjN {u1 u2 w1 w2 z1 z2:Int}(hw:0<w1\/w1=0/\0<w2)(hu:0<u1\/u1=0/\0<u2)(hz:0<z1\/z1=0/\0<z2)(h1:0<u1*w2 - u2*w1)(h2:0<w1*z2 - w2*z1):0<u1*z2 - u2*z1:=by
 rcases hw with hw | ⟨hw,hw2⟩
 ·refine zbo hw ?_;have e:(u1*z2 - u2*z1)*w1=(u1*w2 - u2*w1)*z1+(w1*z2 - w2*z1)*u1:=by grind
  rw[e]
  rcases hu with hu | ⟨hu,hu2⟩
  ·have a1:=Int.mul_nonneg (Int.le_of_lt h1) (show 0<=z1 by lia);have a2:=Int.mul_pos h2 hu;lia
  ·subst hu;have:=Int.mul_pos hu2 hw;lia
 ·subst hw
  rcases hz with hz | ⟨hz,_⟩
  ·have:=Int.mul_pos hw2 hz;lia
  ·subst hz; lia
def pops (v:P):List P->List P
 | b::a::r=>if cr a b v<=0 then pops v (a::r) else b::a::r
 | s=>s
def z89 (S:P->Prop):List P->Prop
 | b::a::r=>(∀p,S p->0<=cr a b p)/\Lx a b/\z89 S (a::r)
 | _=>True
def Conv:List P->Prop
 | c::b::a::r=>0<cr a b c/\Conv (b::a::r)
 | _=>True
def z89.tail {S:P->Prop}{b:P}{r:List P}(h:z89 S (b::r)):z89 S r:=by
 cases r with
 | nil=>trivial
 | cons a r=>exact h.2.2
def Conv.tail {b:P}{r:List P}(h:Conv (b::r)):Conv r:=by
 match r,h with
 | [],_=>trivial
 | [_],_=>trivial
 | _::_::_,h=>exact h.2
def zal {S:P->Prop}{v:P}:∀{r:List P}{b a:P},z89 S (b::a::r)->Conv (b::a::r)->Lx b v->0<cr a b v->z89 (λp=>p=v\/S p) (b::a::r)
 | [],b,a,he,hc,hv,h=>⟨λp hp=>by
   rcases hp with rfl | hp
   ·exact Int.le_of_lt h
   ·exact he.1 p hp,he.2.1,trivial⟩
 | c::r,b,a,he,hc,hv,h=>by
  have hca:=he.2.2.2.1;have hab:=he.2.1;have h2:0<cr c a v:=by
   have q1:0<cr c a b:=hc.1;have:=zjN (u1:=a.1 - c.1) (u2:=a.2 - c.2) (w1:=b.1 - a.1) (w2:=b.2 - a.2) (z1:=v.1 - b.1) (z2:=v.2 - b.2) (by unfold Lx at hab; lia) (by unfold Lx at hca; lia) (by unfold Lx at hv; lia)
    (by unfold cr at q1; grind) (by unfold cr at h; grind)
   unfold cr at q1 ⊢
   grind
  exact⟨λp hp=>by
   rcases hp with rfl | hp
   ·exact Int.le_of_lt h
   ·exact he.1 p hp,hab,zal he.2.2 hc.2 (hab.tr hv) h2⟩
def zdf {S:P->Prop}{v:P}(hv:∀p,S p->Lx p v):∀{r:List P}{b:P},(∀x∈b::r,S x)->z89 S (b::r)->Conv (b::r)->(∀p,S p->¬ Lx p b->0<=cr b v p)->(∀z,(b::r).getLast? = some z->∀p,S p->¬ Lx p z)->
  ∃b' r',pops v (b::r)=b'::r'/\(b'::r') <:+ (b::r)/\(∀p,S p->0<=cr b' v p)/\z89 (λp=>p=v\/S p) (b'::r')/\Conv (v::b'::r')
 | [],b,hs,he,hc,ht,hl=>⟨b,[],rfl,List.suffix_refl _,λp hp=>ht p hp (hl b rfl p hp),trivial,trivial⟩
 | a::r,b,hs,he,hc,ht,hl=>by
  have hab:=he.2.1;have hbv:=hv b (hs b (by simp))
  by_cases h:cr a b v<=0
  ·have e:pops v (b::a::r)=pops v (a::r):=by rw[pops,if_pos h]
   obtain⟨b',r',h1,h2,h3,h4,h5⟩:=zdf hv (r:=r) (b:=a) (λx hx=>hs x (List.mem_cons_of_mem _ hx)) he.tail hc.tail (λp hp hn=>by
    have q1:=he.1 p hp;have:=zg9 (u1:=v.1 - a.1) (u2:=v.2 - a.2) (w1:=b.1 - a.1) (w2:=b.2 - a.2) (z1:=p.1 - a.1) (z2:=p.2 - a.2) (by unfold Lx at hab; lia) (by have:=hab.tr hbv; unfold Lx at this; lia) (by unfold Lx at hn; lia)
     (by unfold cr at h; grind) (by unfold cr at q1; grind)
    unfold cr
    grind) (λz hz=>hl z (by rw[List.getLast?_cons_cons]; exact hz))
   exact⟨b',r',e.trans h1,h2.trans (List.suffix_cons _ _),h3,h4,h5⟩
  ·have h':0<cr a b v:=by lia
   have e:pops v (b::a::r)=b::a::r:=by rw[pops,if_neg h]
   refine⟨b,a::r,e,List.suffix_refl _,λp hp =>?_,zal he hc hbv h',⟨h',hc⟩⟩
   by_cases hn:Lx p b
   ·have q1:=he.1 p hp;have:=zg9 (u1:=b.1 - p.1) (u2:=b.2 - p.2) (w1:=b.1 - a.1) (w2:=b.2 - a.2) (z1:=v.1 - b.1) (z2:=v.2 - b.2) (by unfold Lx at hab; lia) (by unfold Lx at hn; lia) (by unfold Lx at hbv; lia)
     (by unfold cr at q1; grind) (by unfold cr at h'; grind)
    unfold cr
    grind
   ·exact ht p hp hn
structure Ok (S:P->Prop)(s:List P):Prop where
 sub:∀x∈s,S x
 desc:s.Pairwise λx y=>Lx y x
 top:∃b r,s=b::r/\∀p,S p->¬ Lx b p
 bot:∃z,s.getLast? = some z/\∀p,S p->¬ Lx p z
 edges:z89 S s
 conv:Conv s
def z77 {s t:List P}{b:P}(h:(b::t) <:+ s):s.getLast? = (b::t).getLast? := by
 obtain⟨u,rfl⟩:=h;rw[List.getLast?_append];rw[List.getLast?_cons]
 rfl
def Ok.push {S:P->Prop}{s:List P}{v:P}(o:Ok S s)(hv:∀p,S p->Lx p v):Ok (λp=>p=v\/S p) (v::pops v s):=by
 obtain⟨b,r,rfl,htop⟩:=o.top;obtain⟨z,hz,hbot⟩:=o.bot;obtain⟨b',r',h1,h2,h3,h4,h5⟩:=zdf hv o.sub o.edges o.conv (λp hp hn=>by
  have:p=b:=za7 hn (htop p hp);subst this;unfold cr
  grind) (λz' hz'=>by rw[hz] at hz'; injection hz' with e; subst e; exact hbot)
 have hin:∀x∈b'::r',S x:=λx hx=>o.sub x (h2.subset hx);rw[h1];refine⟨λx hx =>?_,?_,⟨v,_,rfl,λp hp =>?_⟩,⟨z,?_,λp hp =>?_⟩,⟨λp hp =>?_,hv b' (hin b' (by simp)),h4⟩,h5⟩
 ·rcases List.mem_cons.mp hx with rfl | hx
  ·exact .inl rfl
  ·exact .inr (hin x hx)
 ·exact List.pairwise_cons.mpr ⟨λx hx=>hv x (hin x hx),o.desc.sublist h2.sublist⟩
 ·rcases hp with rfl | hp
  ·exact Lx.irr
  ·exact(hv p hp).asym
 ·rw[List.getLast?_cons_cons, <- z77 h2]; exact hz
 ·rcases hp with rfl | hp
  ·exact(hv z (by rw[z77 h2] at hz; exact hin z (List.mem_of_getLast? hz))).asym
  ·exact hbot p hp
 ·rcases hp with rfl | hp
  ·unfold cr; grind
  ·exact h3 p hp
def z55 (l:List P):List P:=l.foldl (λs v=>v::pops v s) []
def Ok.one (v:P):Ok (λp=>p=v) [v]:=⟨by simp,by simp,⟨v,[],rfl,λp hp=>by subst hp; exact Lx.irr⟩,⟨v,rfl,λp hp=>by subst hp; exact Lx.irr⟩,trivial,trivial⟩
def Ok.congr {S S':P->Prop}{s:List P}(o:Ok S s)(h:∀p,S p↔S' p):Ok S' s:=by
 have e:S=S':=funext λp=>propext (h p);subst e;exact o
def zc0:∀(l:List P) (S:P->Prop) (s:List P),Ok S s->(∀x∈l,∀p,S p->Lx p x)->l.Pairwise Lx->Ok (λp=>S p\/p∈l) (l.foldl (λs v=>v::pops v s) s)
 | [],S,s,o,_,_=>o.congr (by simp)
 | v::l,S,s,o,h,hp=>by
  obtain⟨h1,h2⟩:=List.pairwise_cons.mp hp;have:=zc0 l _ _ (o.push (v:=v) (h v (by simp))) (λx hx p hp=>by
   rcases hp with rfl | hp
   ·exact h1 x hx
   ·exact h x (by simp[hx]) p hp) h2
  refine this.congr λp =>?_;simp only[List.mem_cons]
  constructor
  ·rintro((h | h) | h)
   ·exact .inr (.inl h)
   ·exact .inl h
   ·exact .inr (.inr h)
  ·rintro(h | h | h)
   ·exact .inl (.inr h)
   ·exact .inl (.inl h)
   ·exact .inr h
def zav {l:List P}(hn:l≠[])(hp:l.Pairwise Lx):Ok (· ∈ l) (z55 l):=by
 match l,hn with
 | v::l,_=>
  obtain⟨h1,h2⟩:=List.pairwise_cons.mp hp;have:=zc0 l (λp=>p=v) [v] (Ok.one v) (λx hx p hp=>by subst hp; exact h1 x hx) h2;exact this.congr λp=>by simp
def ng (p:P):P:=(-p.1,-p.2)
def z5O (p:P):ng (ng p)=p:=by unfold ng; simp
def zft (a b c:P):cr (ng a) (ng b) (ng c)=cr a b c:=by unfold cr ng; grind
def zcm {a b:P}:Lx (ng a) (ng b)↔Lx b a:=by unfold Lx ng; simp; lia
def zdg (v:P):∀s:List P,pops (ng v) (s.map ng)=(pops v s).map ng
 | []=>rfl
 | [_]=>rfl
 | b::a::r=>by
  show (if cr (ng a) (ng b) (ng v)<=0 then pops (ng v) ((a::r).map ng) else _)=_;rw[zft,zdg v (a::r),pops]
  by_cases h:cr a b v<=0
  ·rw[if_pos h,if_pos h]
  ·rw[if_neg h,if_neg h]; rfl
def zdV:∀(l s:List P),(l.map ng).foldl (λs v=>v::pops v s) (s.map ng)=(l.foldl (λs v=>v::pops v s) s).map ng
 | [],_=>rfl
 | v::l,s=>by
  show (l.map ng).foldl _ (ng v::pops (ng v) (s.map ng))=_;rw[zdg];exact zdV l (v::pops v s)
def ze5 (l:List P):z55 (l.map ng)=(z55 l).map ng:=zdV l []
def dot (a b p:P):Int:=(p.1 - a.1)*(b.1 - a.1)+(p.2 - a.2)*(b.2 - a.2)
structure Edge (S:P->Prop)(a b:P):Prop where
 sa:S a
 sb:S b
 ne:a≠b
 left:∀p,S p->0<=cr a b p
 btw:∀p,S p->cr a b p=0->0<=dot a b p/\0<=dot b a p
def Edge.ng {S:P->Prop}{a b:P}(e:Edge (λp=>S (Geo.ng p)) a b):Edge S (Geo.ng a) (Geo.ng b):=by
 refine⟨e.sa,e.sb,λz=>e.ne (by have:=congrArg Geo.ng z; rwa [z5O,z5O] at this),λp hp =>?_,λp hp h =>?_⟩
 ·have:=e.left (Geo.ng p) (by rw[z5O]; exact hp);rw[<- zft,z5O] at this;exact this
 ·have:=e.btw (Geo.ng p) (by rw[z5O]; exact hp) (by rw[<- zft,z5O]; exact h);unfold dot Geo.ng at*;dsimp only at*
  constructor
  ·have:=this.1; grind
  ·have:=this.2; grind
def zhg (a b c:P):cr a c b = -cr a b c:=by unfold cr; grind
def z0r (x:Int):0<=x*x:=by
 rcases(show x<=0\/0<=x by lia) with h | h
 ·exact Int.mul_nonneg_of_nonpos_of_nonpos h h
 ·exact Int.mul_nonneg h h
def z5w {x y:Int}(h:x*x+y*y=0):x=0/\y=0:=by
 have h1:=z0r x;have h2:=z0r y;have t1:x*x=0:=by omega
 have t2:y*y=0:=by omega
 constructor
 ·rcases Int.mul_eq_zero.mp t1 with z | z <;> exact z
 ·rcases Int.mul_eq_zero.mp t2 with z | z <;> exact z
def Edge.det {S:P->Prop}{a b c:P}(e:Edge S a b)(f:Edge S a c):b=c:=by
 have h1:=e.left c f.sb;have h2:=f.left b e.sb;have hsw:=zhg a b c;have h0:cr a b c=0:=by lia
 have h0':cr a c b=0:=by lia
 have q1:=e.btw c f.sb h0;have q2:=f.btw b e.sb h0';have ne1:=e.ne;have ne2:=f.ne;obtain⟨a1,a2⟩:=a;obtain⟨b1,b2⟩:=b;obtain⟨c1,c2⟩:=c;unfold cr at h0;unfold dot at q1 q2;simp only[ne_eq,Prod.mk.injEq] at*;obtain⟨q11,q12⟩:=q1;obtain⟨q21,q22⟩:=q2;have k1:(b1 - c1)*(b1 - c1)+(b2 - c2)*(b2 - c2)=0:=by
  generalize hu1:b1 - a1=u1 at*;generalize hu2:b2 - a2=u2 at*;generalize hw1:c1 - a1=w1 at*;generalize hw2:c2 - a2=w2 at*;have e1:b1 - c1=u1 - w1:=by lia
  have e2:b2 - c2=u2 - w2:=by lia
  have e3:c1 - b1=w1 - u1:=by lia
  have e4:c2 - b2=w2 - u2:=by lia
  have e5:a1 - b1 = -u1:=by lia
  have e6:a2 - b2 = -u2:=by lia
  have e7:a1 - c1 = -w1:=by lia
  have e8:a2 - c2 = -w2:=by lia
  rw[e1,e2] at q22 ⊢;rw[e3,e4,e5,e6] at q12;rw[e7,e8] at q22;have A:0<=(u1*u1+u2*u2) - (u1*w1+u2*w2):=by grind
  have B:0<=(w1*w1+w2*w2) - (u1*w1+u2*w2):=by grind
  have C:(u1*u1+u2*u2)*(w1*w1+w2*w2)=(u1*w1+u2*w2)*(u1*w1+u2*w2):=by
   have:(u1*u1+u2*u2)*(w1*w1+w2*w2)=(u1*w1+u2*w2)*(u1*w1+u2*w2)+(u1*w2 - u2*w1)*(u1*w2 - u2*w1):=by grind
   rw[this,h0]; lia
  have D:0<=u1*w1+u2*w2:=by grind
  have PX:0<u1*u1+u2*u2:=by
   have n1:=z0r u1;have n2:=z0r u2
   rcases(show u1*u1+u2*u2=0\/0<u1*u1+u2*u2 by lia) with z | z
   ·have:=z5w z; lia
   ·exact z
  have PY:0<w1*w1+w2*w2:=by
   have n1:=z0r w1;have n2:=z0r w2
   rcases(show w1*w1+w2*w2=0\/0<w1*w1+w2*w2 by lia) with z | z
   ·have:=z5w z; lia
   ·exact z
  have E:(u1 - w1)*(u1 - w1)+(u2 - w2)*(u2 - w2)=((u1*u1+u2*u2) - (u1*w1+u2*w2))+((w1*w1+w2*w2) - (u1*w1+u2*w2)):=by grind
  rw[E];generalize u1*u1+u2*u2=X at*;generalize w1*w1+w2*w2=Y at*;generalize u1*w1+u2*w2=Z at*;have F:(X - Z)*Y+Z*(Y - Z)=0:=by grind
  have G1:=Int.mul_nonneg A (show 0<=Y by lia);have G2:=Int.mul_nonneg D B;have G3:(X - Z)*Y=0:=by omega
  have G4:Z*(Y - Z)=0:=by omega
  rcases Int.mul_eq_zero.mp G3 with h | h
  ·rcases Int.mul_eq_zero.mp G4 with h' | h'
   ·have:X*Y=0:=by rw[C,h']; rfl
    rcases Int.mul_eq_zero.mp this with h'' | h'' <;> lia
   ·lia
  ·rcases Int.mul_eq_zero.mp G4 with h' | h' <;> lia
 have:=z5w k1;lia
def Path (R:P->P->Prop):List P->Prop
 | a::b::r=>R a b/\Path R (b::r)
 | _=>True
def Path.join {R:P->P->Prop}{M:P}{t:List P}:∀{A:List P},Path R (A++[M])->Path R (M::t)->Path R (A++M::t)
 | [],_,h=>h
 | [a],h,q=>⟨h.1,q⟩
 | a::b::A,h,q=>⟨h.1,Path.join (A:=b::A) h.2 q⟩
def Path.snoc {R:P->P->Prop}{a b:P}{A:List P}(h:Path R (A++[a]))(q:R a b):Path R (A++[a,b]):=Path.join h ⟨q,trivial⟩
def Path.rev {R:P->P->Prop}:∀{l:List P},Path (λx y=>R y x) l->Path R l.reverse
 | [],_=>trivial
 | [_],_=>trivial
 | a::b::r,h=>by
  have:=Path.rev (l:=b::r) h.2;rw[List.reverse_cons] at this ⊢;rw[List.reverse_cons];rw[List.append_assoc];exact Path.snoc this h.1
def Path.imp {R R':P->P->Prop}(i:∀a b,R a b->R' a b):∀{l:List P},Path R l->Path R' l
 | [],_=>trivial
 | [_],_=>trivial
 | _::_::_,h=>⟨i _ _ h.1,Path.imp i h.2⟩
def Path.map {R:P->P->Prop}{f:P->P}:∀{l:List P},Path (λa b=>R (f a) (f b)) l->Path R (l.map f)
 | [],_=>trivial
 | [_],_=>trivial
 | _::b::r,h=>⟨h.1,Path.map (l:=b::r) h.2⟩
def zfU {a b p:P}(h:Lx a b)(q:¬ Lx b p)(z:cr a b p=0):0<=dot b a p:=by
 unfold Lx at h q;unfold cr at z;unfold dot;have e:(p.1 - b.1)*(a.1 - b.1)+(p.2 - b.2)*(a.2 - b.2)=(b.1 - a.1)*(b.1 - p.1)+(b.2 - a.2)*(b.2 - p.2):=by grind
 rw[e];have z':(b.1 - a.1)*(b.2 - p.2)=(b.2 - a.2)*(b.1 - p.1):=by grind
 generalize hu1:b.1 - a.1=u1 at*;generalize hu2:b.2 - a.2=u2 at*;generalize hw1:b.1 - p.1=w1 at*;generalize hw2:b.2 - p.2=w2 at*
 rcases(show 0<u1\/u1=0/\0<u2 by lia) with h1 | ⟨h1,h2⟩
 ·refine z4I h1 ?_;have:(u1*w1+u2*w2)*u1=w1*(u1*u1+u2*u2):=by grind
  rw[this];have n1:=z0r u1;have n2:=z0r u2;exact Int.mul_nonneg (by lia) (by lia)
 ·subst h1;have:u2*w1=0:=by lia
  rcases Int.mul_eq_zero.mp this with z | z
  ·lia
  ·subst z;have:=Int.mul_nonneg (Int.le_of_lt h2) (show 0<=w2 by lia);lia
def zgZ {a b p:P}(h:Lx a b)(q:¬ Lx p a)(z:cr a b p=0):0<=dot a b p:=by
 have:=zfU (a:=ng b) (b:=ng a) (p:=ng p) (zcm.mpr h) (λy=>q (zcm.mp y)) (by rw[zft]; unfold cr at *; grind);unfold dot ng at*;dsimp only at this
 grind
def zdA {a b c p:P}(h:0<cr a b c)(q:0<=cr b c p)(z:cr a b p=0):0<=dot b a p:=by
 unfold cr at h q z;unfold dot;have e1:(p.1 - b.1)*(a.1 - b.1)+(p.2 - b.2)*(a.2 - b.2) = -((p.1 - b.1)*(b.1 - a.1)+(p.2 - b.2)*(b.2 - a.2)):=by grind
 rw[e1];have h':0<(b.1 - a.1)*(c.2 - b.2) - (b.2 - a.2)*(c.1 - b.1):=by grind
 have z':(b.1 - a.1)*(p.2 - b.2) - (b.2 - a.2)*(p.1 - b.1)=0:=by grind
 generalize b.1 - a.1=u1 at*;generalize b.2 - a.2=u2 at*;generalize c.1 - b.1=c1 at*;generalize c.2 - b.2=c2 at*;generalize p.1 - b.1=w1 at*;generalize p.2 - b.2=w2 at*;refine z4I h' ?_;have : -(w1*u1+w2*u2)*(u1*c2 - u2*c1)=(c1*w2 - c2*w1)*(u1*u1+u2*u2) - (u1*w2 - u2*w1)*(c1*u1+c2*u2):=by grind
 rw[this,z',Int.zero_mul,Int.sub_zero];have n1:=z0r u1;have n2:=z0r u2;exact Int.mul_nonneg q (by lia)
def zbI {y a b p:P}(h:0<cr y a b)(q:0<=cr y a p)(z:cr a b p=0):0<=dot a b p:=by
 unfold cr at h q z;unfold dot;have h':0<(a.1 - y.1)*(b.2 - a.2) - (a.2 - y.2)*(b.1 - a.1):=by grind
 have q':0<=(a.1 - y.1)*(p.2 - a.2) - (a.2 - y.2)*(p.1 - a.1):=by grind
 generalize b.1 - a.1=u1 at*;generalize b.2 - a.2=u2 at*;generalize a.1 - y.1=c1 at*;generalize a.2 - y.2=c2 at*;generalize p.1 - a.1=w1 at*;generalize p.2 - a.2=w2 at*;refine z4I h' ?_;have:(w1*u1+w2*u2)*(c1*u2 - c2*u1)=(c1*w2 - c2*w1)*(u1*u1+u2*u2) - (u1*w2 - u2*w1)*(c1*u1+c2*u2):=by grind
 rw[this,z,Int.zero_mul,Int.sub_zero];have n1:=z0r u1;have n2:=z0r u2;exact Int.mul_nonneg q' (by lia)
def z8A {S:P->Prop}:∀{r:List P}{b a:P},(∀x∈b::a::r,S x)->z89 S (b::a::r)->Conv (b::a::r)->(∀z,(b::a::r).getLast? = some z->∀p,S p->¬ Lx p z)->(∀p,S p->cr a b p=0->0<=dot b a p)->Path (λx y=>Edge S y x) (b::a::r)
 | [],b,a,hs,he,hc,hl,ht=>⟨⟨hs a (by simp),hs b (by simp),he.2.1.ne,he.1,λp hp z=>⟨zgZ he.2.1 (hl a rfl p hp) z,ht p hp z⟩⟩,trivial⟩
 | y::r,b,a,hs,he,hc,hl,ht=>by
  refine⟨⟨hs a (by simp),hs b (by simp),he.2.1.ne,he.1,λp hp z=>⟨zbI hc.1 (he.2.2.1 p hp) z,ht p hp z⟩⟩,?_⟩;exact z8A (λx hx=>hs x (List.mem_cons_of_mem _ hx)) he.2.2 hc.2 (λz hz=>hl z (by rw[List.getLast?_cons_cons]; exact hz)) λp hp z=>zdA hc.1 (he.1 p hp) z
def Ok.path {S:P->Prop}{s:List P}(o:Ok S s):Path (Edge S) s.reverse:=by
 refine Path.rev ?_;obtain⟨b,r,rfl,ht⟩:=o.top;obtain⟨z,hz,hl⟩:=o.bot
 cases r with
 | nil=>trivial
 | cons a r=>exact z8A o.sub o.edges o.conv (λz' hz'=>by rw[hz] at hz'; injection hz' with e; subst e; exact hl) λp hp z=>zfU o.edges.2.1 (ht p hp) z
def hull (l:List P):List P:=if l.length<=1 then l else (z55 l).reverse.dropLast++(z55 l.reverse).reverse.dropLast
structure z17 (S:P->Prop)(h:List P):Prop where
 ex:∃m t,h=m::t/\S m/\(∀p,S p->¬ Lx p m)/\m ∉ t/\((t=[]/\∀p,S p->p=m)\/(t≠[]/\Path (Edge S) (m::t++[m])))
def z5u {R:P->P->Prop}(det:∀a b c,R a b->R a c->b=c){m:P}:∀{t t':List P}{a:P},m ∉ t->m ∉ t'->Path R (a::t++[m])->Path R (a::t'++[m])->t=t'
 | [],[],_,_,_,_,_=>rfl
 | [],b::t',a,_,h,p,q=>by
  have:b=m:=det a b m q.1 p.1;exact absurd (by rw[this]; simp) h
 | b::t,[],a,h,_,p,q=>by
  have:b=m:=det a b m p.1 q.1;exact absurd (by rw[this]; simp) h
 | b::t,c::t',a,h,h',p,q=>by
  have e:b=c:=det a b c p.1 q.1;subst e;rw[z5u det (t:=t) (t':=t') (λz=>h (by simp[z])) (λz=>h' (by simp[z])) p.2 q.2]
def z17.unique {S:P->Prop}{h h':List P}(x:z17 S h)(y:z17 S h'):h=h':=by
 obtain⟨m,t,rfl,sm,lm,nm,e⟩:=x.ex;obtain⟨m',t',rfl,sm',lm',nm',e'⟩:=y.ex;have em:m=m':=za7 (lm' m sm) (lm m' sm');subst em;have one:∀{u:List P},u≠[]->Path (Edge S) (m::u++[m])->(∀p,S p->p=m)->False:=λ{u} hu hp ha=>by
  match u,hu with
  | b::u,_=>
   have e:Edge S m b:=hp.1;exact e.ne (ha b e.sb).symm
 rcases e with ⟨rfl,ha⟩ | ⟨hn,hp⟩
 ·rcases e' with ⟨rfl,_⟩ | ⟨hn',hp'⟩
  ·rfl
  ·exact(one hn' hp' ha).elim
 ·rcases e' with ⟨rfl,ha⟩ | ⟨hn',hp'⟩
  ·exact(one hn hp ha).elim
  ·rw[z5u (R:=Edge S) (λa b c p q=>Edge.det p q) nm nm' hp hp']
def z4C {s:List P}{z:P}(h:s.getLast? = some z):s.dropLast++[z]=s:=by
 have hn:s≠[]:=λe=>by rw[e] at h; simp at h
 have e:s.getLast hn=z:=by
  rw[List.getLast?_eq_some_getLast hn] at h;exact Option.some.inj h
 rw[<- e];exact List.dropLast_concat_getLast hn
def zhq {l:List P}(hl:2<=l.length)(hp:l.Pairwise Lx):∃x y,x∈l/\y∈l/\Lx x y:=by
 match l,hl,hp with
 | x::y::r,_,hp=>exact⟨x,y,by simp,by simp,(List.pairwise_cons.mp hp).1 y (by simp)⟩
def zcp {l:List P}(hl:2<=l.length)(hp:l.Pairwise Lx):∃m M A B,hull l=m::A++M::B/\m∈l/\M∈l/\Lx m M/\(∀p∈l,¬ Lx p m)/\(∀p∈l,¬ Lx M p)/\
  (m::A++[M]).Pairwise Lx/\(M::B++[m]).Pairwise (λx y=>Lx y x)/\Path (Edge (· ∈ l)) (m::A++[M])/\Path (Edge (· ∈ l)) (M::B++[m]):=by
 have hne:l≠[]:=λz=>by rw[z] at hl; simp at hl
 have o1:=zav hne hp;have hp2:(l.reverse.map ng).Pairwise Lx:=by
  rw[List.pairwise_map,List.pairwise_reverse];exact hp.imp λh=>zcm.mpr h
 have o2:=zav (l:=l.reverse.map ng) (by simpa using hne) hp2;rw[ze5] at o2;have mem:∀p,p∈l.reverse.map ng↔ng p∈l:=λp=>by
  simp only[List.mem_map,List.mem_reverse]
  constructor
  ·rintro⟨q,hq,rfl⟩; rw[z5O]; exact hq
  ·intro h; exact⟨ng p,h,z5O p⟩
 obtain⟨M,r1,e1,t1⟩:=o1.top;obtain⟨m,b1,b1'⟩:=o1.bot;obtain⟨M',r2,e2,t2⟩:=o2.top;obtain⟨m',b2,b2'⟩:=o2.bot;have Ml:M∈l:=o1.sub M (by rw[e1]; simp);have ml:m∈l:=o1.sub m (List.mem_of_getLast? b1);have M'l:ng M'∈l:=(mem M').mp (o2.sub M' (by rw[e2]; simp));have m'l:ng m'∈l:=(mem m').mp (o2.sub m' (List.mem_of_getLast? b2));have hMm:ng M'=m:=by
  refine za7 (b1' _ M'l) λz =>?_;have:=t2 (ng m) ((mem _).mpr (by rw[z5O]; exact ml));exact this (by rw[<- z5O M']; exact zcm.mpr z)
 have hmM:ng m'=M:=by
  refine za7 (λz =>?_) (t1 _ m'l);have:=b2' (ng M) ((mem _).mpr (by rw[z5O]; exact Ml));exact this (by rw[<- z5O m']; exact zcm.mpr z)
 have hlt:Lx m M:=by
  rcases Lx.tri m M with h | h | h
  ·exact h
  ·exfalso
   subst h;have all:∀p∈l,p=m:=λp hp=>za7 (b1' p hp) (t1 p hp);obtain⟨x,y,hx,hy,this⟩:=zhq hl hp;rw[all x hx,all y hy] at this;exact Lx.irr this
  ·exact absurd h (t1 m ml)
 have there:∃A,(z55 l).reverse=m::A++[M]:=by
  rw[e1] at b1 ⊢
  cases r1 with
  | nil=>simp at b1; exact absurd (b1 ▸ hlt) Lx.irr
  | cons c r=>
   rw[List.getLast?_cons_cons] at b1;refine⟨(c::r).dropLast.reverse,?_⟩;rw[List.reverse_cons, <- z4C b1];simp
 obtain⟨A,eA⟩:=there;have ec2:z55 l.reverse=(M'::r2).map ng:=by
  have:((z55 l.reverse).map ng).map ng=(M'::r2).map ng:=by rw[e2]
  rw[List.map_map] at this;simpa[Function.comp_def,z5O] using this
 have back:∃B,(z55 l.reverse).reverse=M::B++[m]:=by
  rw[e2] at b2;rw[ec2]
  cases r2 with
  | nil=>
   simp at b2;rw[b2] at hMm;rw[hMm] at hmM;exact absurd (hmM ▸ hlt) Lx.irr
  | cons c r=>
   rw[List.getLast?_cons_cons] at b2;refine⟨((c::r).dropLast.map ng).reverse,?_⟩;have:(c::r)=(c::r).dropLast++[m']:=(z4C b2).symm;rw[List.map_cons,List.reverse_cons,hMm,this,List.map_append];simp[hmM]
 obtain⟨B,eB⟩:=back;refine⟨m,M,A,B,?_,ml,Ml,hlt,b1',t1,?_,?_,?_,?_⟩
 ·unfold hull;rw[if_neg (by lia),eA,eB,List.dropLast_concat,List.dropLast_concat]
 ·rw[<- eA,List.pairwise_reverse];exact o1.desc
 ·rw[<- eB,List.pairwise_reverse];have q:=o2.desc;rw[List.pairwise_map] at q;exact q.imp λh=>zcm.mp h
 ·rw[<- eA]; exact o1.path
 ·rw[<- eB];have q:=o2.path;rw[<- List.map_reverse] at q;have h2:Path (λa b=>Edge (· ∈ l) (ng a) (ng b)) ((z55 l.reverse).map ng).reverse:=by
   rw[<- List.map_reverse];refine Path.imp (λa b e =>?_) q;refine Edge.ng ?_;have es:(λp=>ng p∈l)=(λp=>p∈l.reverse.map ng):=funext λp=>propext (mem p).symm;rw[es];exact e
  have h3:=Path.map (f:=ng) h2;rw[List.map_reverse,List.map_map] at h3;simpa[Function.comp_def,z5O] using h3
def zh8 {l:List P}(hn:l≠[])(hp:l.Pairwise Lx):z17 (· ∈ l) (hull l):=by
 by_cases h1:l.length<=1
 ·match l,hn,h1 with
  | [x],_,_=>exact⟨x,[],rfl,by simp,λp hp=>by rw[List.mem_singleton.mp hp]; exact Lx.irr,by simp,.inl ⟨rfl,λp hp=>List.mem_singleton.mp hp⟩⟩
 ·obtain⟨m,M,A,B,e,ml,Ml,hlt,hmin,hmax,pa,pb,wa,wb⟩:=zcp (by lia) hp;refine⟨m,A++M::B,e,ml,hmin,λz =>?_,.inr ⟨by simp,?_⟩⟩
  ·rcases List.mem_append.mp z with z | z
   ·exact Lx.irr ((List.pairwise_cons.mp pa).1 m (by simp[z]))
   ·rcases List.mem_cons.mp z with z | z
    ·exact Lx.irr (z ▸ hlt)
    ·have:(M::B++[m]).Pairwise (λx y=>Lx y x):=pb;rw[List.pairwise_append] at this;exact Lx.irr (this.2.2 m (by simp[z]) m (by simp))
  ·have:m::(A++M::B)++[m]=(m::A)++M::(B++[m]):=by simp
   rw[this];exact Path.join wa wb
end Geo
namespace Lcg
def zbV (d:Nat):(5 ^ d) % 2=1:=by
 induction d with
 | zero=>rfl
 | succ d ih=>rw[Nat.pow_succ]; lia
def zdW (d:Nat):(5 ^ d) % 4=1:=by
 induction d with
 | zero=>rfl
 | succ d ih=>rw[Nat.pow_succ]; lia
def zcr (d:Nat):(5 ^ (2*d)) % 8=1/\(5 ^ (2*d+1)) % 8=5:=by
 induction d with
 | zero=>exact⟨rfl,rfl⟩
 | succ d ih=>
  have e1:5 ^ (2*(d+1))=5 ^ (2*d)*25:=by rw[show 2*(d+1)=2*d+2 by lia,Nat.pow_add]
  have e2:5 ^ (2*(d+1)+1)=5 ^ (2*d+1)*25:=by rw[show 2*(d+1)+1=(2*d+1)+2 by lia,Nat.pow_add]
  rw[e1,e2];lia
def z7I {a k:Nat}(h:a % 2=1):Nat.Coprime (2 ^ k) a:=by
 refine Nat.Coprime.pow_left k ?_;show Nat.gcd 2 a=1;rw[Nat.gcd_rec,h]
 rfl
def z2E:∀(k d:Nat),2 ^ (k+2) ∣ 5 ^ d - 1->2 ^ k ∣ d
 | 0,d,_=>Nat.one_dvd d
 | k+1,d,h=>by
  have h8:8 ∣ 5 ^ d - 1:=Nat.dvd_trans ⟨2 ^ k,by rw[show k+1+2=3+k by lia,Nat.pow_add]⟩ h;have he:d % 2=0:=by
   rcases Nat.mod_two_eq_zero_or_one d with z | z
   ·exact z
   ·obtain⟨e,rfl⟩:∃e,d=2*e+1:=⟨d / 2,by lia⟩
    have:=(zcr e).2;obtain⟨c,hc⟩:=h8;have p:1<=5 ^ (2*e+1):=Nat.one_le_pow _ _ (by decide);lia
  obtain⟨e,rfl⟩:∃e,d=2*e:=⟨d / 2,by lia⟩
  have p:1<=5 ^ e:=Nat.pos_of_ne_zero (by
   intro z;have:=zbV e;lia)
  have fac:5 ^ (2*e) - 1=(5 ^ e - 1)*(5 ^ e+1):=by
   have e1:5 ^ (2*e)=5 ^ e*5 ^ e:=by rw[Nat.two_mul,Nat.pow_add]
   rw[e1];generalize 5 ^ e=x at p ⊢;obtain⟨y,rfl⟩:∃y,x=y+1:=⟨x - 1,by lia⟩
   simp only[Nat.add_sub_cancel];have:(y+1)*(y+1)=y*(y+1+1)+1:=by grind
   lia
  obtain⟨o,ho⟩:∃o,5 ^ e+1=2*(2*o+1):=⟨(5 ^ e+1) / 4,by have:=zdW e; lia⟩
  rw[fac,ho] at h;have h2:2 ^ (k+2)*2 ∣ (5 ^ e - 1)*(2*o+1)*2:=by
   have:(5 ^ e - 1)*(2*(2*o+1))=(5 ^ e - 1)*(2*o+1)*2:=by grind
   rw[<- this, <- Nat.pow_succ];exact h
  have h3:2 ^ (k+2) ∣ (5 ^ e - 1)*(2*o+1):=Nat.dvd_of_mul_dvd_mul_right (by decide) h2;have h4:2 ^ (k+2) ∣ 5 ^ e - 1:=(z7I (by lia)).dvd_of_dvd_mul_right h3;obtain⟨c,hc⟩:=z2E k e h4;exact⟨c,by rw[hc,Nat.pow_succ]; grind⟩
def step (M x:Nat):Nat:=(x*5+1) % M
def orb (M x:Nat):Nat->Nat
 | 0=>x
 | n+1=>step M (orb M x n)
def z8W (M x:Nat):∀n,(4*orb M x n+1) % (4*M)=(5 ^ n*(4*x+1)) % (4*M)
 | 0=>by rw[orb,Nat.pow_zero,Nat.one_mul]
 | n+1=>by
  have ih:=z8W M x n;have e1:4*orb M x (n+1)+1=4*((orb M x n*5+1) % M)+1:=rfl;have e2:(4*((orb M x n*5+1) % M)+1) % (4*M)=(4*(orb M x n*5+1)+1) % (4*M):=by
   have:4*((orb M x n*5+1) % M)=(4*(orb M x n*5+1)) % (4*M):=(Nat.mul_mod_mul_left 4 (orb M x n*5+1) M).symm;rw[this,Nat.mod_add_mod]
  rw[e1,e2];have e3:4*(orb M x n*5+1)+1=5*(4*orb M x n+1):=by lia
  rw[e3,Nat.mul_mod,ih, <- Nat.mul_mod,Nat.pow_succ]
  congr 1
  grind
def zgL {k x:Nat}{m n:Nat}(hmn:m<n)(hn:n<m+2 ^ k)(h:orb (2 ^ k) x m=orb (2 ^ k) x n):False:=by
 have h1:=z8W (2 ^ k) x m;have h2:=z8W (2 ^ k) x n;rw[h,h2] at h1;have e4:4*2 ^ k=2 ^ (k+2):=by rw[Nat.pow_add]; lia
 rw[e4] at h1;have hle:5 ^ m*(4*x+1)<=5 ^ n*(4*x+1):=Nat.mul_le_mul_right _ (Nat.pow_le_pow_right (by decide) (Nat.le_of_lt hmn));have hd:2 ^ (k+2) ∣ 5 ^ n*(4*x+1) - 5 ^ m*(4*x+1):=Nat.dvd_of_mod_eq_zero (Nat.sub_mod_eq_zero_of_mod_eq h1);have e5:5 ^ n*(4*x+1) - 5 ^ m*(4*x+1)=(5 ^ (n - m) - 1)*(5 ^ m*(4*x+1)):=by
  have:5 ^ n=5 ^ (n - m)*5 ^ m:=by rw[<- Nat.pow_add]; congr 1; lia
  rw[this,Nat.sub_mul,Nat.one_mul,Nat.mul_assoc]
 rw[e5] at hd;have ho:(5 ^ m*(4*x+1)) % 2=1:=by
  have:=zbV m;rw[Nat.mul_mod,this];lia
 have hd2:=(z7I ho).dvd_of_dvd_mul_right hd;have:=Nat.le_of_dvd (by lia) (z2E k (n - m) hd2);lia
def zbG:∀(n:Nat) (l:List Nat),l.Nodup->(∀x∈l,x<n)->l.length<=n
 | 0,l,_,h=>by
  cases l with
  | nil=>exact Nat.le_refl _
  | cons a _=>exact absurd (h a (by simp)) (Nat.not_lt_zero _)
 | n+1,l,hd,h=>by
  have h2:=zbG n (l.erase n) (hd.erase n) λx hx=>by
   have hne:x≠n:=λz=>by
    subst z;exact(List.Nodup.not_mem_erase hd) hx
   have:=h x (List.mem_of_mem_erase hx);lia
  by_cases hm:n∈l
  ·rw[List.length_erase_of_mem hm] at h2;lia
  ·rw[List.erase_of_not_mem hm] at h2;lia
def ziA {M x:Nat}(hM:0<M)(hx:x<M):∀n,orb M x n<M
 | 0=>hx
 | n+1=>Nat.mod_lt _ hM
def zgM {k x e:Nat}(hx:x<2 ^ k)(he:e<2 ^ k):∃n,n<2 ^ k/\orb (2 ^ k) x n=e:=by
 refine Classical.byContradiction λhno =>?_;have hM:0<2 ^ k:=Nat.two_pow_pos k;have hl:=zbG (2 ^ k) (e::(List.range (2 ^ k)).map (orb (2 ^ k) x)) (by
  refine List.nodup_cons.mpr ⟨λz =>?_,?_⟩
  ·obtain⟨n,hn,e'⟩:=List.mem_map.mp z;exact hno ⟨n,List.mem_range.mp hn,e'⟩
  ·rw[List.nodup_iff_pairwise_ne,List.pairwise_map];refine List.Pairwise.imp_of_mem (R:=(· < ·)) ?_ List.pairwise_lt_range;intro a b ha hb hab z;exact zgL hab (by have:=List.mem_range.mp hb; lia) z) (λy hy=>by
  rcases List.mem_cons.mp hy with rfl | hy
  ·exact he
  ·obtain⟨n,_,rfl⟩:=List.mem_map.mp hy;exact ziA hM hx n)
 simp at hl;lia
end Lcg
namespace Tab
open PySem PySem.SetTable
def z9z (xs:Array Nat)(j:Nat)(hr:∀a b,a<b->b<xs.size->xs.getD a 0<xs.getD b 0):∀(fuel lo hi:Nat),hi<=xs.size->hi - lo<=fuel->lo<=hi->(∀i,i<lo->xs.getD i 0<j)->(∀i,hi<=i->i<xs.size->j<=xs.getD i 0)->
  below.go xs j fuel lo hi<=xs.size/\(∀i,i<below.go xs j fuel lo hi->xs.getD i 0<j)/\(∀i,below.go xs j fuel lo hi<=i->i<xs.size->j<=xs.getD i 0)
 | 0,lo,hi,h1,h2,h3,h4,h5=>by
  have:lo=hi:=by lia
  subst this;exact⟨h1,h4,h5⟩
 | fuel+1,lo,hi,h1,h2,h3,h4,h5=>by
  rw[below.go]
  by_cases hlt:lo<hi
  ·rw[if_pos hlt];have hm:(lo+hi) / 2<xs.size:=by lia
   have e:xs.getD ((lo+hi) / 2) j=xs.getD ((lo+hi) / 2) 0:=by simp[Array.getD,hm]
   dsimp only;rw[e]
   by_cases hj:xs.getD ((lo+hi) / 2) 0<j
   ·rw[if_pos hj];refine z9z xs j hr fuel _ hi h1 (by lia) (by lia) (λi hi' =>?_) h5
    rcases Nat.lt_or_ge i ((lo+hi) / 2) with z | z
    ·have:=hr i _ z hm; lia
    ·have:i=(lo+hi) / 2:=by lia
     subst this; exact hj
   ·rw[if_neg hj];refine z9z xs j hr fuel lo _ (by lia) (by lia) (by lia) h4 (λi hi' hi2 =>?_)
    rcases Nat.lt_or_ge ((lo+hi) / 2) i with z | z
    ·have:=hr _ i z hi2; lia
    ·have:i=(lo+hi) / 2:=by lia
     subst this; lia
  ·rw[if_neg hlt];have:lo=hi:=by lia
   subst this;exact⟨h1,h4,h5⟩
abbrev Rise (xs:Array Nat):Prop:=∀a b,a<b->b<xs.size->xs.getD a 0<xs.getD b 0
def z6B {xs:Array Nat}(hr:Rise xs)(j:Nat):below xs j<=xs.size/\(∀i,i<below xs j->xs.getD i 0<j)/\(∀i,below xs j<=i->i<xs.size->j<=xs.getD i 0):=
 z9z xs j hr xs.size 0 xs.size (Nat.le_refl _) (by lia) (Nat.zero_le _) (λ_ h=>absurd h (Nat.not_lt_zero _)) (λi h1 h2=>absurd h1 (by lia))
def zha {xs:Array Nat}{i j:Nat}(h:xs[i]? = some j):i<xs.size/\xs.getD i 0=j:=by
 obtain⟨hi,e⟩:=Array.getElem?_eq_some_iff.mp h;exact⟨hi,by simp[Array.getD,hi,e]⟩
def zkX {xs:Array Nat}{i:Nat}(h:i<xs.size):xs[i]? = some (xs.getD i 0):=by simp[Array.getD,h]
def zfy {xs:Array Nat}(hr:Rise xs){i j:Nat}(h:xs[i]? = some j):below xs j=i:=by
 obtain⟨h1,h2,h3⟩:=z6B hr j;obtain⟨hi,e⟩:=zha h
 rcases Nat.lt_trichotomy (below xs j) i with z | z | z
 ·have:=h3 _ (Nat.le_refl _) (by lia);have:=hr _ _ z hi;lia
 ·exact z
 ·have:=h2 i z; lia
def z9L {t:SetTable}(hr:Rise t.place){i j:Nat}(h:t.place[i]? = some j):t.slot j = .live i:=by
 unfold SetTable.slot;rw[zfy hr h];dsimp only;rw[h];simp
def zca {t:SetTable}(hd:t.dummies = #[]){j:Nat}(h:∀i:Nat,t.place[i]? ≠ some j):t.slot j = .empty:=by
 unfold SetTable.slot;have h1:(t.place[below t.place j]? == some j)=false:=by
  have:=h (below t.place j);simpa using this
 have h2:has t.dummies j=false:=by rw[hd]; unfold has; simp
 simp only[h1,h2]
 rfl
def adv (mask:Nat)(p:Probe):Probe:=
 if p.more > 0 then { p with j:=p.j+1,more:=p.more - 1 } else
 { p with j:=(leap mask p.i p.perturb).1,more:=runEnd mask (leap mask p.i p.perturb).1 - (leap mask p.i p.perturb).1,i:=(leap mask p.i p.perturb).1,perturb:=(leap mask p.i p.perturb).2 }
def advs (mask:Nat)(p:Probe):Nat->Probe
 | 0=>p
 | n+1=>adv mask (advs mask p n)
def z3Q (mask:Nat)(p:Probe)(m:Nat):∀n,advs mask p (m+n)=advs mask (advs mask p m) n
 | 0=>rfl
 | n+1=>congrArg (adv mask) (z3Q mask p m n)
def z6f (mask:Nat)(p:Probe)(n:Nat):advs mask p (n+1)=advs mask (adv mask p) n:=by
 rw[Nat.add_comm,z3Q]
 rfl
def zaG (mask:Nat)(p:Probe):(adv mask p).dummy=p.dummy:=by
 unfold adv; split <;> rfl
def z8F (mask:Nat)(p:Probe):∀n,(advs mask p n).dummy=p.dummy
 | 0=>rfl
 | n+1=>by rw[advs,zaG,z8F mask p n]
def z9A (mask:Nat):∀(p:Probe) (n:Nat),n<=p.more->advs mask p n={ p with j:=p.j+n,more:=p.more - n }
 | p,0,_=>rfl
 | p,n+1,h=>by
  rw[advs,z9A mask p n (by lia)];unfold adv;rw[if_pos (by show p.more - n > 0; lia)];show ({ p with j:=p.j+n+1,more:=p.more - n - 1 }:Probe)=_
  congr 1
def z8M (mask i:Nat):runEnd mask i - i<=9:=by unfold runEnd; split <;> lia
def lp (mask:Nat)(i q:Nat):Nat->Nat × Nat
 | 0=>(i,q)
 | c+1=>leap mask (lp mask i q c).1 (lp mask i q c).2
def zdE (mask:Nat)(i q:Nat):∀c,lp mask i q (c+1)=lp mask (leap mask i q).1 (leap mask i q).2 c
 | 0=>rfl
 | c+1=>by
  show leap mask (lp mask i q (c+1)).1 (lp mask i q (c+1)).2=_;rw[zdE mask i q c]
  rfl
def z57 (mask:Nat)(p:Probe):advs mask p (p.more+1)={ p with j:=(leap mask p.i p.perturb).1,more:=runEnd mask (leap mask p.i p.perturb).1 - (leap mask p.i p.perturb).1,i:=(leap mask p.i p.perturb).1,perturb:=(leap mask p.i p.perturb).2 }:=by
 rw[advs,z9A mask p p.more (Nat.le_refl _)];unfold adv;rw[if_neg (by show ¬ p.more - p.more > 0; lia)]
def runs (mask:Nat):∀(c:Nat) (p:Probe),p.more<=9->∃s,s<=10*(c+1)/\(advs mask p s).j=(lp mask p.i p.perturb (c+1)).1/\(advs mask p s).i=(lp mask p.i p.perturb (c+1)).1/\(advs mask p s).perturb=(lp mask p.i p.perturb (c+1)).2/\(advs mask p s).more<=9
 | 0,p,h=>⟨p.more+1,by lia,by rw[z57]; rfl,by rw[z57]; rfl,by rw[z57]; rfl,by rw[z57]; exact z8M _ _⟩
 | c+1,p,h=>by
  obtain⟨s,h1,h2,h3,h4,h5⟩:=runs mask c p h;refine⟨s+((advs mask p s).more+1),by lia,?_⟩;rw[z3Q,z57];refine⟨?_,?_,?_,z8M _ _⟩
  ·show (leap mask (advs mask p s).i (advs mask p s).perturb).1=_; rw[h3,h4]; rfl
  ·show (leap mask (advs mask p s).i (advs mask p s).perturb).1=_; rw[h3,h4]; rfl
  ·show (leap mask (advs mask p s).i (advs mask p s).perturb).2=_; rw[h3,h4]; rfl
def z6s (mask i q:Nat):∀c,(lp mask i q c).2=q / 32 ^ c
 | 0=>by simp[lp]
 | c+1=>by
  show (lp mask i q c).2 / 32=_;rw[z6s mask i q c,Nat.div_div_eq_div_mul,Nat.pow_succ]
def zfX {mask i q:Nat}(hq:q=0):∀c:Nat,(lp mask i q c).1=Lcg.orb (mask+1) i c
 | 0=>rfl
 | c+1=>by
  show ((lp mask i q c).1*5+1+(lp mask i q c).2 / 32) % (mask+1)=_;rw[z6s,zfX hq c,hq,Nat.zero_div,Nat.zero_div,Nat.add_zero]
  rfl
def zfY (mask i q m:Nat):∀n,lp mask i q (m+n)=lp mask (lp mask i q m).1 (lp mask i q m).2 n
 | 0=>rfl
 | n+1=>by
  show leap mask (lp mask i q (m+n)).1 (lp mask i q (m+n)).2=_;rw[zfY mask i q m n]
  rfl
def zfM {k mask i q e:Nat}(hm:mask+1=2 ^ k)(hq:q<2 ^ 64)(he:e<=mask):∃c,c<=13+mask/\13<=c/\(lp mask i q c).1=e:=by
 have hq13:(lp mask i q 13).2=0:=by
  rw[z6s];exact Nat.div_eq_of_lt (Nat.lt_of_lt_of_le hq (by decide))
 have hi13:(lp mask i q 13).1<2 ^ k:=by
  rw[<- hm];exact Nat.mod_lt _ (by lia)
 obtain⟨d,hd,e1⟩:=Lcg.zgM hi13 (show e<2 ^ k by lia);refine⟨13+d,by lia,by lia,?_⟩;rw[zfY,zfX hq13,hm];exact e1
def zcQ {k mask e:Nat}{p:Probe}(hm:mask+1=2 ^ k)(hq:p.perturb<2 ^ 64)(hp:p.more<=9)(he:e<=mask):∃s,s<10*turns mask/\(advs mask p s).j=e:=by
 obtain⟨c,h1,h2,h3⟩:=zfM (i:=p.i) (q:=p.perturb) hm hq he;obtain⟨c',rfl⟩:∃c',c=c'+1:=⟨c - 1,by lia⟩
 obtain⟨s,g1,g2,_⟩:=runs mask c' p hp;exact⟨s,by unfold turns; lia,g2.trans h3⟩
def zjI {mask:Nat}{p:Probe}(hq:p.perturb<2 ^ 64)(hp:p.more<=9):(adv mask p).perturb<2 ^ 64/\(adv mask p).more<=9:=by
 unfold adv
 split
 ·exact⟨hq,by show p.more - 1<=9; lia⟩
 ·exact⟨Nat.lt_of_le_of_lt (Nat.div_le_self _ _) hq,z8M _ _⟩
def zbh {mask:Nat}{p:Probe}(hq:p.perturb<2 ^ 64)(hp:p.more<=9):∀n,(advs mask p n).perturb<2 ^ 64/\(advs mask p n).more<=9
 | 0=>⟨hq,hp⟩
 | n+1=>zjI (zbh hq hp n).1 (zbh hq hp n).2
def z5F (t:SetTable)(h:Int):(t.probeStart h).perturb<2 ^ 64/\(t.probeStart h).more<=9:=by
 refine⟨?_,z8M _ _⟩;show (h % (2 ^ 64:Int)).toNat<2 ^ 64;have h1:=Int.emod_nonneg h (show (2 ^ 64:Int)≠0 by decide);have h2:=Int.emod_lt_of_pos h (show (0:Int)<2 ^ 64 by decide);lia
def zbB {t:SetTable}(hd:t.dummies = #[])(hr:Rise t.place)(hashAt:Nat->Int)(h:Int):∀(fuel:Nat) (p:Probe),(∃s,s<fuel/\∀i:Nat,t.place[i]? ≠ some (advs t.mask p s).j)->
  ∃s,(∀m,m<s->∃i:Nat,t.place[i]? = some (advs t.mask p m).j/\hashAt i≠h)/\
   (((∀i:Nat,t.place[i]? ≠ some (advs t.mask p s).j)/\probe.go t hashAt h fuel p=some (.empty (advs t.mask p s).j p.dummy))\/
    ∃i:Nat,t.place[i]? = some (advs t.mask p s).j/\hashAt i=h/\probe.go t hashAt h fuel p=some (.candidate (advs t.mask p s).j i (advs t.mask p (s+1))))
 | 0,p,⟨s,hs,_⟩=>absurd hs (Nat.not_lt_zero _)
 | fuel+1,p,⟨s,hs,he⟩=>by
  by_cases hl:∃i:Nat,t.place[i]? = some p.j
  ·obtain⟨i,hi⟩:=hl;have e1:probe.go t hashAt h (fuel+1) p=if hashAt i == h then some (.candidate p.j i (t.advance p)) else probe.go t hashAt h fuel (t.advance p):=by
    rw[probe.go,z9L hr hi]
   by_cases hh:hashAt i=h
   ·refine⟨0,λm hm=>absurd hm (Nat.not_lt_zero _),.inr ⟨i,hi,hh,?_⟩⟩;rw[e1,if_pos (by simpa using hh)]
    rfl
   ·have hs0:s≠0:=λz=>by subst z; exact he i hi
    obtain⟨s',rfl⟩:∃s',s=s'+1:=⟨s - 1,by lia⟩
    rw[z6f] at he;obtain⟨r,h1,h2⟩:=zbB hd hr hashAt h fuel (adv t.mask p) ⟨s',by lia,he⟩;refine⟨r+1,λm hm =>?_,?_⟩
    ·cases m with
     | zero=>exact⟨i,hi,hh⟩
     | succ m=>rw[z6f]; exact h1 m (by lia)
    ·rw[e1,if_neg (by simpa using hh),z6f,z6f, <- zaG t.mask p];exact h2
  ·have hn:∀i:Nat,t.place[i]? ≠ some p.j:=λi z=>hl ⟨i,z⟩;refine⟨0,λm hm=>absurd hm (Nat.not_lt_zero _),.inl ⟨hn,?_⟩⟩;rw[probe.go,zca hd hn]
   rfl
def z4l:∀{l l':List Nat},l.Nodup->(∀x∈l,x∈l')->l.length<=l'.length
 | [],_,_,_=>Nat.zero_le _
 | a::l,l',h,hs=>by
  obtain⟨h1,h2⟩:=List.nodup_cons.mp h;have ha:=hs a (by simp);have:=z4l (l:=l) (l':=l'.erase a) h2 λx hx=>(List.mem_erase_of_ne (λ(z:x=a)=>h1 (z ▸ hx))).mpr (hs x (by simp[hx]));rw[List.length_erase_of_mem ha] at this;have hp:0<l'.length:=List.length_pos_of_mem ha;simp only[List.length_cons];lia
def z5K:∀{l l':List Nat},l.Nodup->l'.Nodup->(∀x,x∈l↔x∈l')->l.Perm l'
 | [],l',_,_,h=>by
  cases l' with
  | nil=>exact List.Perm.refl _
  | cons b l'=>exact absurd ((h b).mpr (by simp)) (by simp)
 | a::l,l',h1,h2,h=>by
  obtain⟨n1,n2⟩:=List.nodup_cons.mp h1;have ha:a∈l':=(h a).mp (by simp);have p:=z5K (l:=l) (l':=l'.erase a) n2 (h2.erase a) λx=>by
   constructor
   ·intro hx;exact(List.mem_erase_of_ne (λ(z:x=a)=>n1 (z ▸ hx))).mpr ((h x).mp (by simp[hx]))
   ·intro hx;have hne:x≠a:=λz=>by
     subst z;exact(List.Nodup.not_mem_erase h2) hx
    rcases List.mem_cons.mp ((h x).mpr (List.mem_of_mem_erase hx)) with z | z
    ·exact absurd z hne
    ·exact z
  exact(List.Perm.cons a p).trans (List.perm_cons_erase ha).symm
variable {α:Type}
abbrev Rw (α:Type):=Nat × Int × α
def zcz (mask:Nat)(occ:Nat->Prop)(h:Int)(j:Nat):Prop:=∃n,(advs mask (probeStart { mask:=mask,place := #[],dummies := #[],finger:=0,led:=true,moves:=0,plain:=true } h) n).j=j/\∀m,m<n->occ (advs mask (probeStart { mask:=mask,place := #[],dummies := #[],finger:=0,led:=true,moves:=0,plain:=true } h) m).j
abbrev st0 (mask:Nat)(h:Int):Probe:=probeStart { mask:=mask,place := #[],dummies := #[],finger:=0,led:=true,moves:=0,plain:=true } h
def zcz.mono {mask:Nat}{occ occ':Nat->Prop}{h:Int}{j:Nat}(x:zcz mask occ h j)(i:∀a,occ a->occ' a):zcz mask occ' h j:=by
 obtain⟨n,h1,h2⟩:=x;exact⟨n,h1,λm hm=>i _ (h2 m hm)⟩
structure TabW (t:SetTable)(es:Array (Int × α))(L:List (Rw α)):Prop where
 place:t.place=(L.map (·.1)).toArray
 es:es=(L.map (·.2)).toArray
 rise:L.Pairwise λa b=>a.1<b.1
 le:∀r∈L,r.1<=t.mask
 dum:t.dummies = #[]
 pow:∃k,3<=k/\t.mask+1=2 ^ k
 reach:∀r∈L,zcz t.mask (λj=>∃r'∈L,r'.1=j) r.2.1 r.1
def TabW.occ {t:SetTable}{es:Array (Int × α)}{L:List (Rw α)}(w:TabW t es L){j:Nat}:(∃i:Nat,t.place[i]? = some j)↔∃r∈L,r.1=j:=by
 rw[w.place]
 constructor
 ·rintro⟨i,h⟩;have h':(L.map (·.1))[i]? = some j:=by simpa using h
  obtain⟨r,hr,e⟩:=List.mem_map.mp (List.mem_of_getElem? h');exact⟨r,hr,e⟩
 ·rintro⟨r,hr,rfl⟩;obtain⟨i,hi,e⟩:=List.mem_iff_getElem.mp hr;exact⟨i,by simp[hi,e]⟩
def TabW.riseP {t:SetTable}{es:Array (Int × α)}{L:List (Rw α)}(w:TabW t es L):Rise t.place:=by
 rw[w.place];intro a b hab hb;have hb':b<L.length:=by simpa using hb
 have:=List.pairwise_iff_getElem.mp w.rise a b (by lia) hb' hab;simpa[Array.getD,show a<L.length by lia,hb'] using this
def TabW.size {t:SetTable}{es:Array (Int × α)}{L:List (Rw α)}(w:TabW t es L):t.place.size=L.length/\es.size=L.length/\t.fill=L.length:=by
 refine⟨by rw[w.place]; simp,by rw[w.es]; simp,?_⟩;unfold fill;rw[w.place,w.dum];simp
def TabW.nodup {t:SetTable}{es:Array (Int × α)}{L:List (Rw α)}(w:TabW t es L):(L.map (·.1)).Nodup:=by
 rw[List.nodup_iff_pairwise_ne,List.pairwise_map];exact w.rise.imp λh=>Nat.ne_of_lt h
def TabW.room {t:SetTable}{es:Array (Int × α)}{L:List (Rw α)}(w:TabW t es L)(h:L.length<=t.mask):∃e,e<=t.mask/\¬ ∃r∈L,r.1=e:=by
 refine Classical.byContradiction λhno =>?_;have all:∀e,e<=t.mask->∃r∈L,r.1=e:=λe he=>Classical.byContradiction λz=>hno ⟨e,he,z⟩;have:=z4l (l:=List.range (t.mask+1)) (l':=L.map (·.1)) List.nodup_range λx hx=>by
  obtain⟨r,hr,e⟩:=all x (by have:=List.mem_range.mp hx; lia);exact List.mem_map.mpr ⟨r,hr,e⟩
 simp at this;lia
def TabW.probe {t:SetTable}{es:Array (Int × α)}{L:List (Rw α)}(w:TabW t es L)(hroom:L.length<=t.mask)(hashAt:Nat->Int)(h:Int)(n:Nat):
  ∃s,(∀m,n<=m->m<n+s->∃i:Nat,t.place[i]? = some (advs t.mask (st0 t.mask h) m).j/\hashAt i≠h)/\
   (((∀i:Nat,t.place[i]? ≠ some (advs t.mask (st0 t.mask h) (n+s)).j)/\t.probe hashAt h (advs t.mask (st0 t.mask h) n)=some (.empty (advs t.mask (st0 t.mask h) (n+s)).j none))\/
    ∃i:Nat,t.place[i]? = some (advs t.mask (st0 t.mask h) (n+s)).j/\hashAt i=h/\t.probe hashAt h (advs t.mask (st0 t.mask h) n)=some (.candidate (advs t.mask (st0 t.mask h) (n+s)).j i (advs t.mask (st0 t.mask h) (n+s+1)))):=by
 obtain⟨e,he,hne⟩:=w.room hroom;obtain⟨k,_,hk⟩:=w.pow;have ok:=zbh (mask:=t.mask) (z5F t h).1 (z5F t h).2 n;obtain⟨s0,hs0,e0⟩:=zcQ (p:=advs t.mask (st0 t.mask h) n) hk ok.1 ok.2 he;obtain⟨s,h1,h2⟩:=zbB w.dum w.riseP hashAt h (10*turns t.mask) (advs t.mask (st0 t.mask h) n) ⟨s0,hs0,λi z=>by
  rw[e0] at z;exact hne (w.occ.mp ⟨i,z⟩)⟩
 refine⟨s,λm hm1 hm2 =>?_,?_⟩
 ·obtain⟨d,rfl⟩:∃d,m=n+d:=⟨m - n,by lia⟩
  rw[z3Q];exact h1 d (by lia)
 ·rw[Nat.add_assoc,z3Q,z3Q];rw[z8F] at h2;exact h2
def TabW.soon {t:SetTable}{es:Array (Int × α)}{L:List (Rw α)}(w:TabW t es L)(hroom:L.length<=t.mask)(h:Int):∃N,N<10*turns t.mask/\¬ ∃r∈L,r.1=(advs t.mask (st0 t.mask h) N).j:=by
 obtain⟨e,he,hne⟩:=w.room hroom;obtain⟨k,_,hk⟩:=w.pow;obtain⟨s0,hs0,e0⟩:=zcQ (p:=st0 t.mask h) hk (z5F t h).1 (z5F t h).2 he;exact⟨s0,hs0,by rw[e0]; exact hne⟩
def ins (L:List (Rw α))(p:Nat)(r:Rw α):List (Rw α):=L.take p++r::L.drop p
def z99 {L:List (Rw α)}{p:Nat}{r x:Rw α}:x∈ins L p r↔x=r\/x∈L:=by
 unfold ins;rw[List.mem_append,List.mem_cons]
 constructor
 ·rintro(h | h | h)
  ·exact .inr (List.mem_of_mem_take h)
  ·exact .inl h
  ·exact .inr (List.mem_of_mem_drop h)
 ·rintro(h | h)
  ·exact .inr (.inl h)
  ·rw[<- List.take_append_drop p L,List.mem_append] at h
   rcases h with h | h
   ·exact .inl h
   ·exact .inr (.inr h)
def z5T {β:Type}(l:List β){p:Nat}(x:β):insertAt l.toArray p x=(l.take p++x::l.drop p).toArray:=by
 unfold insertAt;apply Array.ext';simp;exact List.take_of_length_le (by simp)
def TabW.put {t:SetTable}{es:Array (Int × α)}{L:List (Rw α)}(w:TabW t es L){h:Int}{x:α}{n:Nat}(hocc:∀m,m<n->∃r∈L,r.1=(advs t.mask (st0 t.mask h) m).j)(hemp:¬ ∃r∈L,r.1=(advs t.mask (st0 t.mask h) n).j)(hle:(advs t.mask (st0 t.mask h) n).j<=t.mask):
  TabW (t.put (advs t.mask (st0 t.mask h) n).j).1 (insertAt es (t.put (advs t.mask (st0 t.mask h) n).j).2 (h,x)) (ins L (t.put (advs t.mask (st0 t.mask h) n).j).2 ((advs t.mask (st0 t.mask h) n).j,h,x)):=by
 generalize hj:(advs t.mask (st0 t.mask h) n).j=j at*;obtain⟨b1,b2,b3⟩:=z6B w.riseP j;have hp:(t.put j).2=below t.place j:=rfl;rw[hp];generalize hq:below t.place j=p at*;have hpl:p<=L.length:=by rw[<- w.size.1]; exact b1
 have at':∀i (hi:i<L.length),t.place.getD i 0=(L[i]).1:=λi hi=>by rw[w.place]; simp[Array.getD,hi]
 have lo:∀r∈L.take p,r.1<j:=λr hr=>by
  obtain⟨i,hi,rfl⟩:=List.mem_iff_getElem.mp hr;have hi':i<p/\i<L.length:=by simp at hi; lia
  have:=b2 i hi'.1;rw[at' i hi'.2] at this;simpa using this
 have hi:∀r∈L.drop p,j<r.1:=λr hr=>by
  obtain⟨i,hi,rfl⟩:=List.mem_iff_getElem.mp hr;have hi':p+i<L.length:=by simp at hi; lia
  have h1:=b3 (p+i) (by lia) (by rw[w.size.1]; exact hi');rw[at' _ hi'] at h1;have h2:(L[p+i]).1≠j:=λz=>hemp ⟨L[p+i],List.getElem_mem hi',z⟩;simp only[List.getElem_drop];lia
 have hdum:(t.put j).1.dummies = #[]:=by
  show (if has t.dummies j then eraseAt t.dummies (below t.dummies j) else t.dummies) = #[];rw[w.dum];simp[has]
 refine⟨?_,?_,?_,λr hr =>?_,hdum,w.pow,λr hr =>?_⟩
 ·show insertAt t.place (below t.place j) j=_;rw[hq,w.place,z5T];unfold ins;rw[List.map_append,List.map_cons,List.map_take,List.map_drop]
 ·rw[w.es,z5T];unfold ins;rw[List.map_append,List.map_cons,List.map_take,List.map_drop]
 ·unfold ins;rw[List.pairwise_append];have pw:=w.rise;rw[<- List.take_append_drop p L,List.pairwise_append] at pw;refine⟨pw.1,List.pairwise_cons.mpr ⟨λr hr=>hi r hr,pw.2.1⟩,λa ha b hb =>?_⟩
  rcases List.mem_cons.mp hb with rfl | hb
  ·exact lo a ha
  ·exact pw.2.2 a ha b hb
 ·show r.1<=t.mask
  rcases z99.mp hr with rfl | hr
  ·exact hle
  ·exact w.le r hr
 ·show zcz t.mask _ r.2.1 r.1
  rcases z99.mp hr with rfl | hr
  ·exact⟨n,hj,λm hm=>by
    obtain⟨r',hr',e⟩:=hocc m hm;exact⟨r',z99.mpr (.inr hr'),e⟩⟩
  ·exact(w.reach r hr).mono λa ⟨r',hr',e⟩=>⟨r',z99.mpr (.inr hr'),e⟩
def j_le {mask:Nat}:∀(n:Nat) {p:Probe},p.j+p.more<=mask->(advs mask p n).j+(advs mask p n).more<=mask
 | 0,_,h=>h
 | n+1,p,h=>by
  have ih:=j_le n h;show (adv mask (advs mask p n)).j+(adv mask (advs mask p n)).more<=mask;unfold adv
  split
  ·show (advs mask p n).j+1+((advs mask p n).more - 1)<=mask; lia
  ·have hl:(leap mask (advs mask p n).i (advs mask p n).perturb).1<=mask:=Nat.le_of_lt_succ (Nat.mod_lt _ (Nat.succ_pos _));show (leap mask (advs mask p n).i (advs mask p n).perturb).1+(runEnd mask (leap mask (advs mask p n).i (advs mask p n).perturb).1 - (leap mask (advs mask p n).i (advs mask p n).perturb).1)<=mask;generalize (leap mask (advs mask p n).i (advs mask p n).perturb).1=x at hl;unfold runEnd
   split <;> lia
def zcN (mask:Nat)(h:Int)(n:Nat):(advs mask (st0 mask h) n).j<=mask:=by
 have:(st0 mask h).j+(st0 mask h).more<=mask:=by
  show bits h % (mask+1)+(runEnd mask (bits h % (mask+1)) - bits h % (mask+1))<=mask;have hl:bits h % (mask+1)<=mask:=Nat.le_of_lt_succ (Nat.mod_lt _ (Nat.succ_pos _));generalize bits h % (mask+1)=x at hl;unfold runEnd
  split <;> lia
 have:=j_le n this;lia
variable {α:Type}
def rp (mask i q:Nat):Probe:={ j:=i,more:=runEnd mask i - i,i:=i,perturb:=q,dummy:=none }
def zhC (mask:Nat)(h:Int):st0 mask h=rp mask (bits h % (mask+1)) (bits h):=rfl
def zd2 (mask i q:Nat):advs mask (rp mask i q) (runEnd mask i - i+1)=rp mask (leap mask i q).1 (leap mask i q).2:=z57 mask (rp mask i q)
def zex (mask i q:Nat){m:Nat}(h:m<=runEnd mask i - i):(advs mask (rp mask i q) m).j=i+m:=by rw[z9A mask (rp mask i q) m h]; rfl
def zhT (mask i:Nat):i<=runEnd mask i:=by unfold runEnd; split <;> lia
def zai {mask:Nat}{owner:Array (Option Nat)}:∀(fuel i q:Nat),(∃c,c<fuel/\(owner.getD (lp mask i q c).1 (some 0)).isNone=true)->
  ∃s,layClean.free mask owner fuel i q=some (advs mask (rp mask i q) s).j/\(owner.getD (advs mask (rp mask i q) s).j (some 0)).isNone=true/\∀m,m<s->(owner.getD (advs mask (rp mask i q) m).j (some 0)).isNone=false
 | 0,i,q,⟨c,hc,_⟩=>absurd hc (Nat.not_lt_zero _)
 | fuel+1,i,q,⟨c,hc,he⟩=>by
  rw[layClean.free];have hge:=zhT mask i
  cases hf:(List.range (runEnd mask i+1 - i)).find? λk=>(owner.getD (i+k) (some 0)).isNone with
  | some k=>
   obtain⟨h1,h2,h3⟩:=List.find?_range_eq_some.mp hf;have hk:k<runEnd mask i+1 - i:=by simpa using h2
   dsimp only;refine⟨k,by rw[zex mask i q (by lia)],by rw[zex mask i q (by lia)]; exact h1,λm hm =>?_⟩;rw[zex mask i q (by lia)];have:=h3 m hm;simpa using this
  | none=>
   have hn:=List.find?_range_eq_none.mp hf;have all:∀k,k<=runEnd mask i - i->(owner.getD (i+k) (some 0)).isNone=false:=λk hk=>by
    have:=hn k (by lia);simpa using this
   have hc0:c≠0:=λz=>by
    subst z;have:=all 0 (Nat.zero_le _);rw[Nat.add_zero] at this;have he':(owner.getD i (some 0)).isNone=true:=he;rw[this] at he'
    cases he'
   obtain⟨c',rfl⟩:∃c',c=c'+1:=⟨c - 1,by lia⟩
   rw[zdE] at he;obtain⟨s,h1,h2,h3⟩:=zai fuel _ _ ⟨c',by lia,he⟩;rw[<- zd2, <- z3Q] at h1 h2;dsimp only;refine⟨runEnd mask i - i+1+s,h1,h2,λm hm =>?_⟩
   rcases Nat.lt_or_ge m (runEnd mask i - i+1) with z | z
   ·rw[zex mask i q (by lia)];exact all m (by lia)
   ·obtain⟨d,rfl⟩:∃d,m=runEnd mask i - i+1+d:=⟨m - (runEnd mask i - i+1),by lia⟩
    rw[z3Q,zd2];exact h3 d (by lia)
structure Own (mask:Nat)(hs:List Int)(owner:Array (Option Nat))(pos:List Nat):Prop where
 size:owner.size=mask+1
 len:pos.length=hs.length
 le:∀j∈pos,j<=mask
 nd:pos.Nodup
 own:∀j,j<=mask->∀k,owner.getD j (some 0)=some k↔pos[k]? = some j
 reach:∀(k:Nat) (h:Int) (j:Nat),hs[k]? = some h->pos[k]? = some j->zcz mask (· ∈ pos) h j
def Own.free {mask:Nat}{hs:List Int}{owner:Array (Option Nat)}{pos:List Nat}(o:Own mask hs owner pos){j:Nat}(hj:j<=mask):(owner.getD j (some 0)).isNone=true↔j ∉ pos:=by
 constructor
 ·intro h z;obtain⟨k,hk,e⟩:=List.mem_iff_getElem.mp z;have:=(o.own j hj k).mpr (by rw[List.getElem?_eq_getElem hk,e]);rw[this] at h
  cases h
 ·intro h
  cases e:owner.getD j (some 0) with
  | none=>rfl
  | some k=>exact absurd (List.mem_of_getElem? ((o.own j hj k).mp e)) h
def Own.add {mask k:Nat}{hs:List Int}{owner:Array (Option Nat)}{pos:List Nat}(o:Own mask hs owner pos)(hm:mask+1=2 ^ k)(hroom:hs.length<=mask)(h:Int):
  ∃j,layClean.free mask owner (turns mask) (bits h % (mask+1)) (bits h)=some j/\Own mask (hs++[h]) (owner.setIfInBounds j (some hs.length)) (pos++[j]):=by
 have hex:∃e,e<=mask/\e ∉ pos:=by
  refine Classical.byContradiction λhno =>?_;have:=z4l (l:=List.range (mask+1)) (l':=pos) List.nodup_range λx hx=>Classical.byContradiction λz=>hno ⟨x,by have:=List.mem_range.mp hx; lia,z⟩;rw[List.length_range,o.len] at this;lia
 obtain⟨e,he,hne⟩:=hex;have hq:bits h<2 ^ 64:=(z5F { mask:=mask,place := #[],dummies := #[],finger:=0,led:=true,moves:=0,plain:=true } h).1;obtain⟨c,c1,c2,c3⟩:=zfM (i:=bits h % (mask+1)) (q:=bits h) hm hq he;obtain⟨s,h1,h2,h3⟩:=zai (mask:=mask) (owner:=owner) (turns mask) (bits h % (mask+1)) (bits h) ⟨c,by unfold turns; lia,by rw[c3]; exact(o.free he).mpr hne⟩;rw[<- zhC] at h1 h2 h3;have hjl:=zcN mask h s;refine⟨_,h1,?_⟩;generalize hj:(advs mask (st0 mask h) s).j=j at*;have hjn:j ∉ pos:=(o.free hjl).mp h2;refine⟨by rw[Array.size_setIfInBounds]; exact o.size,by rw[List.length_append,List.length_append,o.len]; rfl,λx hx =>?_,?_,λx hx n =>?_,λn h' j' e1 e2 =>?_⟩
 ·rcases List.mem_append.mp hx with z | z
  ·exact o.le x z
  ·rw[List.mem_singleton.mp z]; exact hjl
 ·rw[List.nodup_append];exact⟨o.nd,by simp,λa ha b hb z=>hjn (by rw[List.mem_singleton.mp hb] at z; exact z ▸ ha)⟩
 ·have hxs:x<owner.size:=by rw[o.size]; lia
  have e0:(owner.setIfInBounds j (some hs.length)).getD x (some 0)=if j=x then some hs.length else owner.getD x (some 0):=by
   have hjs:j<owner.size:=by rw[o.size]; lia
   rw[Array.getD_eq_getD_getElem?, Array.getD_eq_getD_getElem?, Array.getElem?_setIfInBounds]
   by_cases hxj:j=x
   ·subst hxj; rw[if_pos rfl,if_pos hjs,if_pos rfl]; rfl
   ·rw[if_neg hxj,if_neg hxj]
  rw[e0]
  by_cases hxj:j=x
  ·subst hxj;rw[if_pos rfl]
   constructor
   ·intro z;have:hs.length=n:=Option.some.inj z;rw[<- this, <- o.len,List.getElem?_append_right (Nat.le_refl _)];simp
   ·intro z
    rcases Nat.lt_or_ge n pos.length with hl | hl
    ·rw[List.getElem?_append_left hl] at z;exact absurd (List.mem_of_getElem? z) hjn
    ·rw[List.getElem?_append_right hl] at z;have hn0:n - pos.length=0:=by
      rcases Nat.eq_zero_or_pos (n - pos.length) with w | w
      ·exact w
      ·rw[List.getElem?_eq_none (by show 1<=_; lia)] at z; cases z
     rw[<- o.len]
     congr 1
     lia
  ·rw[if_neg hxj,o.own x hx n]
   constructor
   ·intro z;obtain⟨hn,_⟩:=List.getElem?_eq_some_iff.mp z;rw[List.getElem?_append_left hn]; exact z
   ·intro z
    rcases Nat.lt_or_ge n pos.length with hl | hl
    ·rw[List.getElem?_append_left hl] at z; exact z
    ·rw[List.getElem?_append_right hl] at z;exact absurd (List.mem_singleton.mp (List.mem_of_getElem? z)).symm hxj
 ·rcases Nat.lt_or_ge n pos.length with hl | hl
  ·rw[List.getElem?_append_left hl] at e2;rw[List.getElem?_append_left (by rw[<- o.len]; exact hl)] at e1;exact(o.reach n h' j' e1 e2).mono λa ha=>List.mem_append_left _ ha
  ·rw[List.getElem?_append_right hl] at e2;rw[List.getElem?_append_right (by rw[<- o.len]; exact hl)] at e1;have z1:=List.mem_singleton.mp (List.mem_of_getElem? e1);have z2:=List.mem_singleton.mp (List.mem_of_getElem? e2);subst z1 z2;refine⟨s,hj,λm hm=>List.mem_append_left _ ?_⟩;have:=h3 m hm;refine Classical.byContradiction λz =>?_;rw[(o.free (zcN mask h' m)).mpr z] at this
   cases this
def z7k {mask k:Nat}(hm:mask+1=2 ^ k):∀(hs done:List Int) (owner:Array (Option Nat)) (pos:List Nat),Own mask done owner pos->done.length+hs.length<=mask+1->
  ∃owner' pos',(hs.foldl (init:=some (owner,done.length)) λacc h=>do
   let (owner,k) <- acc
   let j <- layClean.free mask owner (turns mask) (bits h % (mask+1)) (bits h)
   pure (owner.setIfInBounds j (some k),k+1))=some (owner',done.length+hs.length)/\Own mask (done++hs) owner' pos'
 | [],done,owner,pos,o,_=>⟨owner,pos,rfl,by rw[List.append_nil]; exact o⟩
 | h::hs,done,owner,pos,o,hl=>by
  simp only[List.length_cons] at hl;obtain⟨j,e,o'⟩:=o.add hm (by lia) h;obtain⟨ow,ps,e2,o2⟩:=z7k hm hs (done++[h]) _ _ o' (by simp; lia);refine⟨ow,ps,?_,by simpa using o2⟩;rw[List.foldl_cons];have:(do
   let (owner,k) <- some (owner,done.length)
   let j <- layClean.free mask owner (turns mask) (bits h % (mask+1)) (bits h)
   pure (owner.setIfInBounds j (some k),k+1))=some (owner.setIfInBounds j (some done.length),(done++[h]).length):=by
   simp[e]
  rw[this,e2];simp;lia
def own0 (mask:Nat):Own mask [] (Array.replicate (mask+1) none) []:=by
 refine⟨by simp,rfl,by simp,by simp,λj hj k =>?_,λk h j e _=>by simp at e⟩;have:(Array.replicate (mask+1) (none:Option Nat)).getD j (some 0)=none:=by simp[Array.getD,show j<mask+1 by lia]
 rw[this];simp
def zh2 {mask k finger moves:Nat}{led plain:Bool}(hm:mask+1=2 ^ k)(hk:3<=k){es:Array (Int × α)}(hl:es.size<=mask+1):
  ∃t' z2E L',laid mask finger moves led plain (es.map (·.1))=some (t',z2E)/\t'.mask=mask/\t'.finger=finger/\t'.moves=moves/\t'.led=led/\t'.plain=plain/\(z2E.filterMap (es[·]?)).size=es.size/\TabW t' (z2E.filterMap (es[·]?)) L'/\(z2E.filterMap (es[·]?)).toList.Perm es.toList:=by
 obtain⟨owner,pos,e,o⟩:=z7k hm (es.map (·.1)).toList [] _ _ (own0 mask) (by simpa using hl);simp only[List.nil_append,List.length_nil,Nat.zero_add] at e o;have hlay:layClean mask (es.map (·.1))=some owner:=by
  unfold layClean;rw[<- Array.foldl_toList,e]
  rfl
 have hn:(es.map (·.1)).toList.length=es.size:=by simp
 have hpl:pos.length=es.size:=by rw[o.len,hn]
 generalize hlive:((List.range (mask+1)).filterMap λj=>(owner.getD j none).map (j, ·))=live;have gd:∀j,j<=mask->owner.getD j none=owner.getD j (some 0):=λj hj=>by
  have:j<owner.size:=by rw[o.size]; lia
  simp[Array.getD,this]
 have mem:∀j n,(j,n)∈live↔pos[n]? = some j:=λj n=>by
  rw[<- hlive,List.mem_filterMap]
  constructor
  ·rintro⟨x,hx,e⟩;have hx':x<=mask:=by have:=List.mem_range.mp hx; lia
   rw[gd x hx'] at e;obtain⟨y,hy,e2⟩:=Option.map_eq_some_iff.mp e
   cases e2
   exact(o.own j hx' n).mp hy
  ·intro h;have hj:j<=mask:=o.le j (List.mem_of_getElem? h);refine⟨j,List.mem_range.mpr (by lia),?_⟩;rw[gd j hj,(o.own j hj n).mpr h]
   rfl
 have sorted:live.Pairwise λa b=>a.1<b.1:=by
  rw[<- hlive];have h1:(List.range (mask+1)).Pairwise (· < ·):=List.pairwise_lt_range;generalize List.range (mask+1)=rg at h1
  induction rg with
  | nil=>simp
  | cons x rg ih=>
   obtain⟨p1,p2⟩:=List.pairwise_cons.mp h1;rw[List.filterMap_cons]
   cases hx:(owner.getD x none).map (x, ·) with
   | none=>exact ih p2
   | some y=>
    obtain⟨z,_,rfl⟩:=Option.map_eq_some_iff.mp hx;refine List.pairwise_cons.mpr ⟨λb hb =>?_,ih p2⟩;obtain⟨x',hx',e'⟩:=List.mem_filterMap.mp hb;obtain⟨z',_,rfl⟩:=Option.map_eq_some_iff.mp e';exact p1 x' hx'
 have nd2:(live.map (·.2)).Nodup:=by
  rw[List.nodup_iff_pairwise_ne,List.pairwise_map];refine List.Pairwise.imp_of_mem ?_ sorted;intro a b ha hb hab z;have h1:=(mem a.1 a.2).mp ha;have h2:=(mem b.1 b.2).mp hb;rw[<- z,h1] at h2;have:a.1=b.1:=Option.some.inj h2;lia
 have perm:(live.map (·.2)).Perm (List.range es.size):=by
  refine z5K nd2 List.nodup_range λn =>?_;rw[List.mem_range]
  constructor
  ·intro h;obtain⟨a,ha,rfl⟩:=List.mem_map.mp h;obtain⟨hlt,_⟩:=List.getElem?_eq_some_iff.mp ((mem a.1 a.2).mp ha);lia
  ·intro h;refine List.mem_map.mpr ⟨(pos[n]'(by lia),n),(mem _ _).mpr (List.getElem?_eq_getElem (by lia)),rfl⟩
 have self:(List.range es.size).filterMap (es[·]?)=es.toList:=by
  have:∀(l:List (Int × α)),(List.range l.length).filterMap (l[·]?)=l:=λl=>by
   have e1:(List.range l.length).map (l[·]?)=l.map some:=by
    apply List.ext_getElem
    ·simp
    ·intro i h1 h2;simp at h1;simp[h1]
   have e2:(List.range l.length).filterMap (l[·]?)=((List.range l.length).map (l[·]?)).filterMap id:=by rw[List.filterMap_map]; rfl
   rw[e2,e1,List.filterMap_map];simp
  have h:=this es.toList;simpa using h
 have pe:(((live.map (·.2)).toArray).filterMap (es[·]?)).toList.Perm es.toList:=by
  have:=perm.filterMap (es[·]?);rw[self] at this;simpa using this
 refine⟨{ mask,place:=(live.map (·.1)).toArray,dummies := #[],finger,led,moves,plain },(live.map (·.2)).toArray,live.filterMap λa=>(es[a.2]?).map λx=>(a.1,x),?_,rfl,rfl,rfl,rfl,rfl,?_,?_,pe⟩
 ·unfold laid;rw[hlay];simp only[Option.bind_eq_bind,Option.bind_some];rw[hlive]
  rfl
 ·have:=pe.length_eq;simpa using this
 ·-- each live row has an element
  have has:∀a∈live,∃x,es[a.2]? = some x:=λa ha=>by
   obtain⟨hlt,_⟩:=List.getElem?_eq_some_iff.mp ((mem a.1 a.2).mp ha);exact⟨es[a.2]'(by lia),Array.getElem?_eq_getElem (by lia)⟩
  have e1:∀(l:List (Nat × Nat)),(∀a∈l,∃x,es[a.2]? = some x)->(l.filterMap λa=>(es[a.2]?).map λx=>(a.1,x)).map (·.1)=l.map (·.1)/\(l.filterMap λa=>(es[a.2]?).map λx=>(a.1,x)).map (·.2)=(l.map (·.2)).filterMap (es[·]?):=λl=>by
   induction l with
   | nil=>intro _; exact⟨rfl,rfl⟩
   | cons a l ih=>
    intro h;obtain⟨x,hx⟩:=h a (by simp);obtain⟨i1,i2⟩:=ih λb hb=>h b (by simp[hb]);refine⟨?_,?_⟩
    ·rw[List.filterMap_cons,hx]; simp only[Option.map_some,List.map_cons]; rw[i1]
    ·rw[List.filterMap_cons,hx]; simp only[Option.map_some,List.map_cons,List.filterMap_cons,hx]; rw[i2]
  have memL:∀r:Rw α,r∈(live.filterMap λa=>(es[a.2]?).map λx=>(a.1,x))->∃n,pos[n]? = some r.1/\es[n]? = some r.2:=λr hr=>by
   obtain⟨a,ha,e⟩:=List.mem_filterMap.mp hr;obtain⟨x,hx,rfl⟩:=Option.map_eq_some_iff.mp e;exact⟨a.2,(mem a.1 a.2).mp ha,hx⟩
  have occ:∀j,j∈pos->∃r'∈(live.filterMap λa=>(es[a.2]?).map λx=>(a.1,x)),r'.1=j:=λj hj=>by
   obtain⟨n,hn',e⟩:=List.mem_iff_getElem.mp hj;have hlv:(j,n)∈live:=(mem j n).mpr (by rw[List.getElem?_eq_getElem hn',e]);obtain⟨x,hx⟩:=has _ hlv;exact⟨(j,x),List.mem_filterMap.mpr ⟨(j,n),hlv,by rw[show es[(j,n).2]? = some x from hx]; rfl⟩,rfl⟩
  refine⟨by rw[(e1 live has).1],?_,?_,λr hr =>?_,rfl,⟨k,hk,hm⟩,λr hr =>?_⟩
  ·rw[(e1 live has).2];apply Array.ext';simp
  ·have:((live.filterMap λa=>(es[a.2]?).map λx=>(a.1,x)).map (·.1)).Pairwise (· < ·):=by
    rw[(e1 live has).1,List.pairwise_map];exact sorted
   rw[List.pairwise_map] at this;exact this
  ·obtain⟨n,h1,_⟩:=memL r hr;exact o.le r.1 (List.mem_of_getElem? h1)
  ·obtain⟨n,h1,h2⟩:=memL r hr;exact(o.reach n r.2.1 r.1 (by simp[h2]) h1).mono λa ha=>occ a ha
end Tab
namespace Tab
open PySem PySem.SetTable PyProof.Rows
section
variable {prog:Program}{w:World}{A:Around}{E:Value->Shared->Prop}{s:Shared}
abbrev TK (prog:Program)(w:World)(h:Heap)(k:List Int)(a:Addr):Prop:=IsTupleKey (intKind prog w) h k a
def zb6 {n:Nat}{v:Value}(h:carriedByValue v=true):ofAClassStatement n v=pure false:=by
 cases v with
 | ref a=>simp[carriedByValue] at h
 | _=>first | rfl | (unfold ofAClassStatement; rfl) | (cases n <;> rfl)
def z3f {ks:List Int}{a:Addr}{Q:Bool->Shared->Prop}(hk:TK prog w s.heap ks a)(h:Q false s):wpAny (model prog w) A (ofAClassStatement 8 (.ref a)) Q E s:=by
 have hT:=hk.typeIs;obtain⟨o,z0d,n,ho,_,hd,hi⟩:=hk;unfold ofAClassStatement;refine wpAny_bind (wpAny_typeOf hT ?_);dsimp only;rw[if_pos (by decide)];refine wpAny_bind (wpAny_pure ?_);simp only[Bool.not_true,Bool.false_eq_true,if_false];refine wpAny_bind (wpAny_seqItems ho hd ?_);refine wpAny_bind ?_;show wpAny _ _ (forIn z0d _ _) _ _ s;rw[<- Array.forIn_toList];refine wpAny_forIn_list _ (λrest r s'=>r.1=none/\s'=s/\∀v∈rest,carriedByValue v=true) _ ?_ ?_ _ _ ⟨rfl,rfl,hi.byValue⟩
 ·rintro v rest r s' ⟨hr,rfl,hall⟩;rw[zb6 (hall v List.mem_cons_self)];refine wpAny_bind (wpAny_pure ?_);simp only[Bool.false_eq_true,if_false];exact wpAny_pure ⟨rfl,rfl,λu hu'=>hall u (List.mem_cons_of_mem _ hu')⟩
 ·rintro⟨r1,r2⟩ s' ⟨hr,rfl,_⟩;simp only at hr;subst hr;exact wpAny_pure h
def zcq {n:Nat}{k:Int}{v:Value}(h:(intKind prog w).is k v=true):hashByValue n v=pure true:=by
 obtain⟨t,rfl⟩:=Value.isInt_shape h
 cases n <;> rfl
def z5E {ks:List Int}{a:Addr}{Q:Bool->Shared->Prop}(hk:TK prog w s.heap ks a)(h:Q true s):wpAny (model prog w) A (hashByValue 8 (.ref a)) Q E s:=by
 have hT:=hk.typeIs;obtain⟨o,z0d,n,ho,_,hd,hi⟩:=hk;unfold hashByValue;refine wpAny_bind (wpAny_specialOf hT F.slot_tuple_hash.lookup ?_);dsimp only;refine wpAny_bind (wpAny_seqItems ho hd ?_);refine wpAny_bind ?_;show wpAny _ _ (forIn z0d _ _) _ _ s;rw[<- Array.forIn_toList];refine wpAny_forIn_list _ (λrest r s'=>r.1=none/\s'=s/\∃l,ItemsAre (intKind prog w) l rest) _ ?_ ?_ _ _ ⟨rfl,rfl,ks,hi⟩
 ·rintro v rest r s' ⟨hr,rfl,l,hl⟩
  cases hl with
  | cons h1 h2=>
   rw[zcq h1];refine wpAny_bind (wpAny_pure ?_);simp only[Bool.not_true,Bool.false_eq_true,if_false];exact wpAny_pure ⟨rfl,rfl,_,h2⟩
 ·rintro⟨r1,r2⟩ s' ⟨hr,rfl,_⟩;simp only at hr;subst hr;exact wpAny_pure h
def zc4 {ks:List Int}{a:Addr}{stored:List Value}{Q:Bool->Shared->Prop}(hk:TK prog w s.heap ks a)(hst:∀y∈stored,∃b k,y = .ref b/\TK prog w s.heap k b)(h:Q false s):wpAny (model prog w) A (searchCouldBeSeen (.ref a) stored) Q E s:=by
 unfold searchCouldBeSeen;refine wpAny_bind ?_;refine wpAny_forIn_list _ (λrest r s'=>r.1=none/\s'=s/\∀y∈rest,∃b k,y = .ref b/\TK prog w s.heap k b) _ ?_ ?_ _ _ ⟨rfl,rfl,hst⟩
 ·rintro y rest r s' ⟨hr,rfl,hall⟩;obtain⟨b,k,rfl,hb⟩:=hall y List.mem_cons_self;dsimp only
  split
  ·exact wpAny_pure ⟨rfl,rfl,λu hu=>hall u (List.mem_cons_of_mem _ hu)⟩
  ·refine wpAny_bind (wpAny_eqIsQuiet_tuple hk ?_);simp only[Bool.not_true,Bool.false_eq_true,if_false];refine wpAny_bind (wpAny_eqIsQuiet_tuple hb ?_);simp only[Bool.not_true,Bool.false_eq_true,if_false];refine wpAny_bind (z3f hk ?_);simp only[Bool.false_eq_true,if_false];refine wpAny_bind (z3f hb ?_);simp only[Bool.false_eq_true,if_false];exact wpAny_pure ⟨rfl,rfl,λu hu=>hall u (List.mem_cons_of_mem _ hu)⟩
 ·rintro⟨r1,r2⟩ s' ⟨hr,rfl,_⟩;simp only at hr;subst hr;exact wpAny_pure h
structure zaI (prog:Program)(w:World)(h:Heap)(a:Addr)(L:List (Rw Value))(o:Obj)(es:Array (Int × Value))(ep:Nat)(t:SetTable):Prop where
 get:h.get? a=some o
 ex:o.ExactSet
 data:o.data = .set es ep t
 tab:TabW t es L
 room:L.length<=t.mask
 small:t.mask<=8191
 plain:t.plain=true
 led:t.led = !w.params.followText "set-order"
 key:∀r∈L,∃b k,r.2.2 = .ref b/\TK prog w h k b/\r.2.1=tupleKeyHash (intKind prog w) k
def zaI.fits {h:Heap}{a:Addr}{L:List (Rw Value)}{o:Obj}{es:Array (Int × Value)}{ep:Nat}{t:SetTable}(x:zaI prog w h a L o es ep t):t.fits es.size=true:=by
 unfold SetTable.fits;rw[x.tab.size.1,x.tab.size.2.1,x.tab.size.2.2];simp[x.room]
def zaI.odd {h:Heap}{a:Addr}{L:List (Rw Value)}{o:Obj}{es:Array (Int × Value)}{ep:Nat}{t:SetTable}(x:zaI prog w h a L o es ep t):t.gaveWay=false:=by
 unfold SetTable.gaveWay;obtain⟨k,hk,e⟩:=x.tab.pow;have:2 ^ k=2*2 ^ (k - 1):=by rw[<- Nat.pow_succ']; congr 1; lia
 have h1:t.mask % 2=1:=by lia
 rw[h1]
 rfl
def zfN {t:SetTable}{es:Array (Int × Value)}{L:List (Rw Value)}(w:TabW t es L){i j:Nat}(h:t.place[i]? = some j):∃r,L[i]? = some r/\r.1=j/\es[i]? = some r.2:=by
 have h':(L.map (·.1))[i]? = some j:=by rw[w.place] at h; simpa using h
 rw[List.getElem?_map] at h';obtain⟨r,hr,e⟩:=Option.map_eq_some_iff.mp h';refine⟨r,hr,e,?_⟩;rw[w.es];simp[hr]
def z9E {a b:Addr}{kx:List Int}{L:List (Rw Value)}{o:Obj}{es:Array (Int × Value)}{ep:Nat}{t:SetTable}(x:zaI prog w s.heap a L o es ep t)(hu:A.units<cLine)(hk:TK prog w s.heap kx b){N:Nat}
  (hN:¬ ∃r∈L,r.1=(advs t.mask (st0 t.mask (tupleKeyHash (intKind prog w) kx)) N).j) {Q:SetFound->Shared->Prop}
  (hthere:(∃r∈L,∃c,r.2.2 = .ref c/\TK prog w s.heap kx c)->Q (.there none) s)
  (hfree:∀n,(∀m,m<n->∃r∈L,r.1=(advs t.mask (st0 t.mask (tupleKeyHash (intKind prog w) kx)) m).j/\∀c,r.2.2 = .ref c->¬ TK prog w s.heap kx c)->(¬ ∃r∈L,r.1=(advs t.mask (st0 t.mask (tupleKeyHash (intKind prog w) kx)) n).j)->Q (.free (advs t.mask (st0 t.mask (tupleKeyHash (intKind prog w) kx)) n).j false) s):
  ∀(fuel n:Nat) (stand:Option Probe),stand.getD (t.probeStart (tupleKeyHash (intKind prog w) kx))=advs t.mask (st0 t.mask (tupleKeyHash (intKind prog w) kx)) n->N<fuel+n->
   (∀m,m<n->∃r∈L,r.1=(advs t.mask (st0 t.mask (tupleKeyHash (intKind prog w) kx)) m).j/\∀c,r.2.2 = .ref c->¬ TK prog w s.heap kx c)->
   wpAny (model prog w) A (setSearchFrom a (.ref b) (tupleKeyHash (intKind prog w) kx) true fuel stand) Q E s:=by
 intro fuel
 induction fuel with
 | zero=>
  intro n stand hs hl hocc;obtain⟨r,hr,e,_⟩:=hocc N (by lia);exact absurd ⟨r,hr,e⟩ hN
 | succ fuel ih=>
  intro n stand hs hl hocc;generalize hh:tupleKeyHash (intKind prog w) kx=hx at*;unfold setSearchFrom;refine wpAny_bind (wpAny_setState_of x.get x.data x.fits ?_);dsimp only;rw[x.odd];simp only[Bool.false_eq_true,if_false]
  try refine wpAny_bind (wpAny_pure ?_)
  rw[hs];obtain⟨f,hf⟩:∃f:Nat->Int,f=λi=>(es[i]?.map (·.1)).getD 0:=⟨_,rfl⟩
  show wpAny (model prog w) A (match t.probe (λi=>(es[i]?.map (·.1)).getD 0) hx (advs t.mask (st0 t.mask hx) n) with
   | some met=>_
   | _=>_) Q E s
  rw[<- hf];have other:∀r∈L,r.2.1≠hx->∀c,r.2.2 = .ref c->¬ TK prog w s.heap kx c:=λr hr hne c e z=>by
   obtain⟨b',k,e',hk',eh⟩:=x.key r hr;rw[e'] at e
   cases e
   rw[hk'.inj z] at eh;exact hne (eh.trans hh)
  obtain⟨d,h1,h2⟩:=x.tab.probe x.room f hx n;have grown:∀m,m<n+d->∃r∈L,r.1=(advs t.mask (st0 t.mask hx) m).j/\∀c,r.2.2 = .ref c->¬ TK prog w s.heap kx c:=λm hm=>by
   rcases Nat.lt_or_ge m n with z | z
   ·exact hocc m z
   ·obtain⟨i,hi,hne⟩:=h1 m z hm;obtain⟨r,hr,e1,e2⟩:=zfN x.tab hi;have hrL:r∈L:=List.mem_of_getElem? hr;refine⟨r,hrL,e1,other r hrL ?_⟩;rw[hf] at hne;simpa[e2] using hne
  rcases h2 with ⟨hemp,e⟩ | ⟨i,hi,hhash,e⟩
  ·rw[e];dsimp only;exact wpAny_pure (hfree (n+d) grown λ⟨r,hr,e'⟩=>by
    obtain⟨i,hi⟩:=x.tab.occ.mpr ⟨r,hr,e'⟩;exact hemp i hi)
  ·rw[e];dsimp only;obtain⟨r,hr,e1,e2⟩:=zfN x.tab hi;have hrL:r∈L:=List.mem_of_getElem? hr;obtain⟨c,k,ec,hc,ehash⟩:=x.key r hrL;have rest:wpAny (model prog w) A (match es[i]? with
             | some (_,y)=>do
              let equal <- holding [y] (eqBool y (Value.ref b))
              let __x <- setState a
              if (true && equal)=true then pure (SetFound.there none)
               else
                match __x.2.snd.sameMemory t.moves t.mask with
                | some same=>
                 match if same=true then __x.2.snd.slot (advs t.mask (st0 t.mask hx) (n+d)).j else Slot.empty with
                 | Slot.live i'=>
                  match __x.fst[i']? with
                  | some (_,y')=>do
                   let __do_lift <- isSame y' y
                   let still <- pure (if __do_lift=true then some i' else none)
                   match still with
                    | none=>do
                     rule "set.search.anew"
                     setSearchFrom a (Value.ref b) hx true fuel none
                    | some i'=>if equal=true then pure (SetFound.there (some i')) else setSearchFrom a (Value.ref b) hx true fuel (some (advs t.mask (st0 t.mask hx) (n+d+1)))
                  | none=>do
                   let still <- pure none
                   match still with
                    | none=>do
                     rule "set.search.anew"
                     setSearchFrom a (Value.ref b) hx true fuel none
                    | some i'=>if equal=true then pure (SetFound.there (some i')) else setSearchFrom a (Value.ref b) hx true fuel (some (advs t.mask (st0 t.mask hx) (n+d+1)))
                 | _=>do
                  let still <- pure none
                  match still with
                   | none=>do
                    rule "set.search.anew"
                    setSearchFrom a (Value.ref b) hx true fuel none
                   | some i'=>if equal=true then pure (SetFound.there (some i')) else setSearchFrom a (Value.ref b) hx true fuel (some (advs t.mask (st0 t.mask hx) (n+d+1)))
                | _=>unsupported "set.changed-during-lookup:is-the-new-block-at-the-old-address"
             | _=>unsupported "internal:set-entry") Q E s:=by
    rw[e2, <- Prod.eta r.2];dsimp only;rw[ec];refine wpAny_bind (wpAny_holding (wpAny_eqBool_tuple hu hc hk ?_));refine wpAny_bind (wpAny_setState_of x.get x.data x.fits ?_);dsimp only
    by_cases hkk:k=kx
    ·rw[decide_eq_true hkk];simp only[Bool.and_self,if_true];exact wpAny_pure (hthere ⟨r,hrL,c,ec,hkk ▸ hc⟩)
    ·rw[decide_eq_false hkk];simp only[Bool.and_false,Bool.false_eq_true,if_false];have hsm:t.sameMemory t.moves t.mask=some true:=by unfold SetTable.sameMemory; simp
     rw[hsm];dsimp only;rw[if_pos rfl,z9L x.tab.riseP hi];dsimp only;rw[e2, <- Prod.eta r.2];dsimp only;rw[ec];refine wpAny_bind (wpAny_isSame_ref_self ?_);refine wpAny_bind (wpAny_pure ?_);simp only[if_true];refine ih (n+d+1) _ rfl (by lia) λm hm =>?_
     rcases Nat.lt_or_ge m (n+d) with z | z
     ·exact grown m z
     ·have:m=n+d:=by lia
      subst this;exact⟨r,hrL,e1,λc' e' z=>by
       rw[ec] at e'
       cases e'
       exact hkk (hc.inj z)⟩
   by_cases hled:t.led=true
   ·rw[hled];simp only[Bool.not_true,Bool.false_eq_true,if_false];exact rest
   ·have hled':t.led=false:=by simpa using hled
    rw[hled'];simp only[Bool.not_false,if_true];refine wpAny_bind (zc4 hk (λy hy =>?_) ?_)
    ·obtain⟨p,hp,rfl⟩:=List.mem_map.mp hy;have hp':p∈es:=by
      have:=Array.mem_toList_iff.mp hp;exact(Array.mem_filter.mp this).1
     have hp2:p∈L.map (·.2):=by rw[x.tab.es] at hp'; simpa using hp'
     obtain⟨r',hr',rfl⟩:=List.mem_map.mp hp2;obtain⟨b',k',e',hk',_⟩:=x.key r' hr';exact⟨b',k',e',hk'⟩
    ·simp only[Bool.false_eq_true,if_false];exact rest
end
def z6D (n:Nat):∀(fuel j:Nat),n<2 ^ (j+fuel)->∃k,sizeAbove.go n fuel (2 ^ j)=2 ^ k/\j<=k/\n<2 ^ k/\(k=j\/2 ^ k<=2*n)
 | 0,j,h=>⟨j,rfl,Nat.le_refl _,h,.inl rfl⟩
 | fuel+1,j,h=>by
  rw[sizeAbove.go]
  by_cases hl:2 ^ j<=n
  ·rw[if_pos hl, <- Nat.pow_succ];obtain⟨k,h1,h2,h3,h4⟩:=z6D n fuel (j+1) (by rw[show j+1+fuel=j+(fuel+1) by lia]; exact h);refine⟨k,h1,by lia,h3,.inr ?_⟩
   rcases h4 with h4 | h4
   ·subst h4; rw[Nat.pow_succ]; lia
   ·exact h4
  ·rw[if_neg hl];exact⟨j,rfl,Nat.le_refl _,by lia,.inl rfl⟩
def z7O {n:Nat}(h:n<2 ^ 60):∃k,sizeAbove n=2 ^ k/\3<=k/\n<2 ^ k/\(k=3\/2 ^ k<=2*n):=z6D n 64 3 (Nat.lt_of_lt_of_le h (by decide))
section
variable {prog:Program}{w:World}{A:Around}{E:Value->Shared->Prop}{s:Shared}
def TK.stay {h h':Heap}{k:List Int}{a b:Addr}{o:Obj}{es ep t}(x:TK prog w h k b)(ho:h.get? a=some o)(hd:o.data = .set es ep t)(hs:Heap.SameBut a h h'):TK prog w h' k b:=by
 obtain⟨o',z0d,n,ho',hc,hd',hi⟩:=x;have hne:b≠a:=by
  rintro rfl;obtain rfl:o'=o:=Option.some.inj (ho'.symm.trans ho);rw[hd] at hd'
  cases hd'
 exact⟨o',z0d,n,(hs.2 b hne).trans ho',hc,hd',hi⟩
structure zed (prog:Program)(w:World)(h:Heap)(a:Addr)(L:List (Rw Value)):Prop where
 ex:∃o es ep t,zaI prog w h a L o es ep t/\L.length*5<t.mask*3
def z9I {h:Heap}{a:Addr}{o:Obj}{es:Array (Int × Value)}{ep:Nat}{t:SetTable}(ho:h.get? a=some o)(hd:o.data = .set es ep t)(es':Array (Int × Value))(t':SetTable):
  (h.update a (Obj.putSet es' t')).get? a=some { o with data :=.set es' (ep+1) t' }:=by
 have:=Heap.get?_update_self (Obj.putSet es' t') ho (by rw[putSet_of es' t' hd]; rfl);rw[putSet_of es' t' hd] at this;exact this
def z6T {a b:Addr}{kx:List Int}{L:List (Rw Value)}(x:zed prog w s.heap a L)(hu:A.units<cLine)(hk:TK prog w s.heap kx b)(hlen:L.length<2047){Q:Bool->Shared->Prop}
  (hthere:(∃r∈L,∃c,r.2.2 = .ref c/\TK prog w s.heap kx c)->∀tk,Q false { s with toks:=tk })
  (hnew:(¬ ∃r∈L,∃c,r.2.2 = .ref c/\TK prog w s.heap kx c)->∀h' tk L',Heap.SameBut a s.heap h'->zed prog w h' a L'->(L'.map (·.2)).Perm ((tupleKeyHash (intKind prog w) kx,.ref b)::L.map (·.2))->Q true { s with heap:=h',toks:=tk }):
  wpAny (model prog w) A (setAdd a (.ref b)) Q E s:=by
 obtain⟨o,es,ep,t,y,hfull⟩:=x.ex;unfold setAdd;refine wpAny_holding (wpAny_bind (wpAny_pyHash_tuple hu hk ?_));generalize hs1:({ s with toks:=s.toks+(kx.length+1) }:Shared)=s1;have y1:zaI prog w s1.heap a L o es ep t:=by rw[<- hs1]; exact y
 have hk1:TK prog w s1.heap kx b:=by rw[<- hs1]; exact hk
 unfold setAddHashed;refine wpAny_holding ?_;show wpAny _ _ (setAddHashedIn a (.ref b) _ (99999+1)) _ _ _;unfold setAddHashedIn;refine wpAny_bind (wpAny_setState_of y1.get y1.data y1.fits ?_);dsimp only;have hbs:byScan (Value.ref b) es=false:=by unfold byScan; simp[Value.scannable]
 rw[hbs];simp only[Bool.false_eq_true,if_false];obtain⟨N,hN,hNe⟩:=y1.tab.soon y1.room (tupleKeyHash (intKind prog w) kx);have hmask:t.mask<=8191:=y1.small;refine wpAny_bind ?_;unfold setSearch;refine z9E (s:=s1) y1 hu hk1 hNe ?_ ?_ 100000 0 none rfl (by unfold turns at hN; lia) (λm hm=>absurd hm (Nat.not_lt_zero _))
 ·intro hex;dsimp only;refine wpAny_pure ?_;rw[<- hs1] at hex ⊢;exact hthere hex _
 ·intro n hocc hemp;dsimp only;refine wpAny_bind (wpAny_setState_of y1.get y1.data y1.fits ?_);dsimp only;have habs:¬ ∃r∈L,∃c,r.2.2 = .ref c/\TK prog w s1.heap kx c:=by
   rintro⟨r,hr,c,ec,hc⟩;obtain⟨b',k',e',hk',eh⟩:=y1.key r hr;rw[ec] at e'
   cases e'
   have ek:=hk'.inj hc;subst ek;obtain⟨m,e1,e2⟩:=y1.tab.reach r hr;rw[eh] at e1 e2
   rcases Nat.lt_trichotomy m n with z | z | z
   ·obtain⟨r',hr',e3,e4⟩:=hocc m z;have:r'=r:=by
     have nd:=y1.tab.nodup;have e5:r'.1=r.1:=e3.trans e1;obtain⟨i,hi,ei⟩:=List.mem_iff_getElem.mp hr';obtain⟨j,hj,ej⟩:=List.mem_iff_getElem.mp hr;have hij:i=j:=by
      rcases Nat.lt_trichotomy i j with q | q | q
      ·have:=List.pairwise_iff_getElem.mp y1.tab.rise i j hi hj q;rw[ei,ej] at this; lia
      ·exact q
      ·have:=List.pairwise_iff_getElem.mp y1.tab.rise j i hj hi q;rw[ei,ej] at this; lia
     subst hij;exact ei.symm.trans ej
    subst this;exact e4 c ec hc
   ·subst z;exact hemp ⟨r,hr,e1.symm⟩
   ·obtain⟨r',hr',e3⟩:=e2 n z;exact hemp ⟨r',hr',e3⟩
  generalize hh:tupleKeyHash (intKind prog w) kx=hx at*;generalize hj:(advs t.mask (st0 t.mask hx) n).j=j at*;have hjl:j<=t.mask:=by rw[<- hj]; exact zcN t.mask hx n
  have tab2:TabW (t.put j).1 (insertAt es (t.put j).2 (hx,Value.ref b)) (ins L (t.put j).2 (j,hx,Value.ref b)):=by
   have:=y1.tab.put (x:=Value.ref b) (h:=hx) (n:=n) (λm hm=>by
    obtain⟨r,hr,e,_⟩:=hocc m hm;exact⟨r,hr,e⟩) (by rw[hj]; exact hemp) (by rw[hj]; exact hjl)
   rw[hj] at this;exact this
  have hlp:(ins L (t.put j).2 (j,hx,Value.ref b)).length=L.length+1:=by
   unfold ins;rw[List.length_append,List.length_cons,List.length_take,List.length_drop];lia
  have hmk:(t.put j).1.mask=t.mask:=rfl;have hpl:(t.put j).1.plain=true:=y1.plain;have hperm:((ins L (t.put j).2 (j,hx,Value.ref b)).map (·.2)).Perm ((hx,Value.ref b)::L.map (·.2)):=by
   unfold ins;rw[List.map_append,List.map_cons];refine List.perm_middle.trans ?_;refine List.Perm.cons _ ?_;rw[<- List.map_append,List.take_append_drop]
  generalize hT2:(t.put j).1=t2 at*;generalize hL2:ins L (t.put j).2 (j,hx,Value.ref b)=L2 at*;generalize hE2:insertAt es (t.put j).2 (hx,Value.ref b)=es2 at*;have hput:t.put j=(t2,(t.put j).2):=by rw[<- hT2]
  rw[hpl];simp only[if_true];refine wpAny_bind (z5E hk1 ?_);simp only[if_true];have hsz2:es2.size=L.length+1:=by rw[tab2.size.2.1,hlp]
  refine wpAny_bind (wpAny_storeSet_of y1.get y1.data ?_ (by rw[hsz2]; exact fits_of_scanBound (by unfold scanBound; lia)));have g2:=z9I y1.get y1.data es2 t2;have sb2:=Heap.SameBut.update s1.heap a (Obj.putSet es2 t2);have hled2:t2.led=t.led:=by rw[<- hT2]; rfl
  have key2:∀h',Heap.SameBut a s1.heap h'->∀r:Int × Value,r∈(hx,Value.ref b)::L.map (·.2)->∃b' k,r.2 = .ref b'/\TK prog w h' k b'/\r.1=tupleKeyHash (intKind prog w) k:=λh' sb r hr=>by
   rcases List.mem_cons.mp hr with rfl | hr
   ·exact⟨b,kx,rfl,hk1.stay y1.get y1.data sb,hh.symm⟩
   ·obtain⟨r',hr',rfl⟩:=List.mem_map.mp hr;obtain⟨b',k',e',hk',eh⟩:=y1.key r' hr';exact⟨b',k',e',hk'.stay y1.get y1.data sb,eh⟩
  have fin:∀h' L',Heap.SameBut a s1.heap h'->zed prog w h' a L'->(L'.map (·.2)).Perm ((hx,.ref b)::L.map (·.2))->Q true { s1 with heap:=h' }:=λh' L' sb ok pm=>by
   rw[<- hs1] at sb habs ⊢;exact hnew habs h' _ L' sb ok pm
  have h7:7<=t.mask:=by
   obtain⟨k,hk3,e⟩:=y1.tab.pow;have:2 ^ 3<=2 ^ k:=Nat.pow_le_pow_right (by decide) hk3;lia
  have at2:zaI prog w (s1.heap.update a (Obj.putSet es2 t2)) a L2 { o with data :=.set es2 (ep+1) t2 } es2 (ep+1) t2:=by
   refine⟨g2,y1.ex,rfl,tab2,?_,?_,hpl,?_,λr hr =>?_⟩
   ·rw[hlp,hmk]; lia
   ·rw[hmk]; exact hmask
   ·rw[hled2]; exact y1.led
   ·obtain⟨b',k',e',hk',eh⟩:=key2 _ sb2 r.2 (hperm.mem_iff.mp (List.mem_map.mpr ⟨r,hr,rfl⟩));exact⟨b',k',e',hk',eh⟩
  have hfill:t2.fill=L.length+1:=by rw[tab2.size.2.2,hlp]
  by_cases htf:t2.tooFull=true
  ·rw[htf];simp only[Bool.not_false,Bool.and_self,if_true];obtain⟨k,hk1',hk3,hk4,hk5⟩:=z7O (n:=SetTable.grown (es.size+1)) (by
    have:es.size=L.length:=y1.tab.size.2.1;unfold SetTable.grown;rw[this,if_neg (by lia)];exact Nat.lt_of_lt_of_le (show (L.length+1)*4<8192 by lia) (by decide))
   have hgr:SetTable.grown (es.size+1)=(L.length+1)*4:=by
    have:es.size=L.length:=y1.tab.size.2.1;unfold SetTable.grown;rw[this,if_neg (by lia)]
   have hk6:2 ^ k<=8192:=by
    rcases hk5 with z | z
    ·subst z; decide
    ·rw[hgr] at z
     rcases Nat.lt_or_ge k 14 with y | y
     ·exact Nat.pow_le_pow_right (by decide) (show k<=13 by lia)
     ·have:=Nat.pow_le_pow_right (show 0<2 by decide) y;have:(2:Nat) ^ 14=16384:=by decide
      lia
   have hmk1:2 ^ k - 1+1=2 ^ k:=Nat.sub_add_cancel (Nat.one_le_two_pow);obtain⟨t3,z2E,L3,hl,m1,m2,m3,m4,m5,m6,tab3,pm3⟩:=zh2 (es:=es2) (mask:=2 ^ k - 1) (finger:=t2.finger) (moves:=t2.movedTo (2 ^ k - 1)) (led:=t2.led) (plain:=t2.plain) hmk1 hk3 (by rw[hsz2,hmk1]; lia);unfold setRelay;refine wpAny_bind (wpAny_bind (wpAny_setState_of at2.get at2.data at2.fits ?_));dsimp only;rw[hk1'];rw[if_neg (show ¬ 2 ^ k > sizeLine by rw[sizeLine_eq]; lia)]
   try refine wpAny_bind (wpAny_pure ?_)
   have hrl:t2.relaid (es2.map (·.1)) (SetTable.grown (es.size+1))=some (t3,z2E):=by
    unfold SetTable.relaid;rw[hk1'];exact hl
   rw[hrl];refine wpAny_bind ?_;show wpAny _ _ (if (((z2E.filterMap (es2[·]?)).size != es2.size)=true) then _ else _) _ _ _;rw[if_neg (by rw[m6]; simp)];refine wpAny_pure ?_;dsimp only;generalize hE3:z2E.filterMap (es2[·]?)=es3 at*;have hsz3:es3.size=L.length+1:=by rw[m6,hsz2]
   have hl3:L3.length=L.length+1:=by rw[<- tab3.size.2.1,hsz3]
   refine wpAny_storeSet_of at2.get at2.data ?_ (by rw[hsz3]; exact fits_of_scanBound (by unfold scanBound; lia));have g3:=z9I at2.get at2.data es3 t3;have sb3:=sb2.trans (Heap.SameBut.update (s1.heap.update a (Obj.putSet es2 t2)) a (Obj.putSet es3 t3));have e3:es3.toList=L3.map (·.2):=by rw[tab3.es]
   have e2':es2.toList=L2.map (·.2):=by rw[tab2.es]
   have pm:(L3.map (·.2)).Perm ((hx,Value.ref b)::L.map (·.2)):=by
    rw[e3,e2'] at pm3;exact pm3.trans hperm
   refine wpAny_pure (fin _ L3 sb3 ⟨_,_,_,_,⟨g3,y1.ex,rfl,tab3,?_,?_,m5.trans hpl,?_,λr hr =>?_⟩,?_⟩ pm)
   ·rw[hl3,m1]; lia
   ·rw[m1]; lia
   ·rw[m4,hled2]; exact y1.led
   ·obtain⟨b',k',e',hk',eh⟩:=key2 _ sb3 r.2 (pm.mem_iff.mp (List.mem_map.mpr ⟨r,hr,rfl⟩));exact⟨b',k',e',hk',eh⟩
   ·rw[hl3,m1]; lia
  ·have htf':t2.tooFull=false:=by simpa using htf
   rw[htf'];simp only[Bool.and_false,Bool.false_eq_true,if_false];refine wpAny_pure (fin _ L2 sb2 ⟨_,_,_,_,at2,?_⟩ hperm);unfold SetTable.tooFull at htf';rw[hfill] at htf';rw[hlp];have:=of_decide_eq_false htf';lia
end
inductive Two {α β:Type}(R:α->β->Prop):List α->List β->Prop
 | nil:Two R [] []
 | cons {a b l m}:R a b->Two R l m->Two R (a::l) (b::m)
def Two.imp {α β:Type}{R R':α->β->Prop}(i:∀a b,R a b->R' a b){l:List α}{m:List β}(h:Two R l m):Two R' l m:=by
 induction h with
 | nil=>exact .nil
 | cons h _ ih=>exact .cons (i _ _ h) ih
def Two.perm {α β:Type}{R:α->β->Prop}{l l':List α}(p:l.Perm l'):∀{m:List β},Two R l m->∃m',m.Perm m'/\Two R l' m':=by
 induction p with
 | nil=>intro m h; exact⟨m,List.Perm.refl _,h⟩
 | cons x _ ih=>
  intro m h
  cases h with
  | cons h1 h2=>
   obtain⟨m',p',h'⟩:=ih h2;exact⟨_::m',p'.cons _,.cons h1 h'⟩
 | swap x y l=>
  intro m h
  cases h with
  | cons h1 h2=>
   cases h2 with
   | cons h3 h4=>exact⟨_,List.Perm.swap _ _ _,.cons h3 (.cons h1 h4)⟩
 | trans _ _ ih1 ih2=>
  intro m h;obtain⟨m',p',h'⟩:=ih1 h;obtain⟨m'',p'',h''⟩:=ih2 h';exact⟨m'',p'.trans p'',h''⟩
def Two.mem_left {α β:Type}{R:α->β->Prop}{l:List α}{m:List β}(h:Two R l m){a:α}(ha:a∈l):∃b∈m,R a b:=by
 induction h with
 | nil=>simp at ha
 | cons h _ ih=>
  rcases List.mem_cons.mp ha with rfl | ha
  ·exact⟨_,by simp,h⟩
  ·obtain⟨b,hb,r⟩:=ih ha;exact⟨b,by simp[hb],r⟩
def Two.mem_right {α β:Type}{R:α->β->Prop}{l:List α}{m:List β}(h:Two R l m){b:β}(hb:b∈m):∃a∈l,R a b:=by
 induction h with
 | nil=>simp at hb
 | cons h _ ih=>
  rcases List.mem_cons.mp hb with rfl | hb
  ·exact⟨_,by simp,h⟩
  ·obtain⟨a,ha,r⟩:=ih hb;exact⟨a,by simp[ha],r⟩
section
variable {prog:Program}{w:World}
def IsK (prog:Program)(w:World)(M:Value->Prop)(h:Heap)(v:Value)(k:List Int):Prop:=M v/\∃b,v = .ref b/\TK prog w h k b
structure SetK (prog:Program)(w:World)(M:Value->Prop)(h:Heap)(a:Addr)(kl:List (List Int)):Prop where
 ex:∃L,zed prog w h a L/\Two (IsK prog w M h) (L.map (·.2.2)) kl
 nd:kl.Nodup
def SetK.len {M:Value->Prop}{h:Heap}{a:Addr}{kl:List (List Int)}(x:SetK prog w M h a kl):∃L,zed prog w h a L/\Two (IsK prog w M h) (L.map (·.2.2)) kl/\L.length=kl.length:=by
 obtain⟨L,h1,h2⟩:=x.ex;refine⟨L,h1,h2,?_⟩;have:∀{l:List Value}{m:List (List Int)},Two (IsK prog w M h) l m->l.length=m.length:=by
  intro l m t
  induction t with
  | nil=>rfl
  | cons _ _ ih=>simp[ih]
 have:=this h2;simpa using this
def SetK.stay {M:Value->Prop}{h h':Heap}{a:Addr}{kl:List (List Int)}{wr:List Addr}(x:SetK prog w M h a kl)(k:∀b o,b ∉ wr->h.get? b=some o->h'.get? b=some o)(ha:a ∉ wr)(hw:∀b∈wr,∀ks,¬ TK prog w h ks b):SetK prog w M h' a kl:=by
 obtain⟨L,⟨o,es,ep,t,y,hf⟩,h2⟩:=x.ex;have tk:∀{ks:List Int}{b:Addr},TK prog w h ks b->TK prog w h' ks b:=λ{ks b} z=>by
  have hb:b ∉ wr:=λq=>hw b q ks z;obtain⟨o,it,n,e,r⟩:=z;exact⟨o,it,n,k _ _ hb e,r⟩
 refine⟨⟨L,⟨o,es,ep,t,⟨k _ _ ha y.get,y.ex,y.data,y.tab,y.room,y.small,y.plain,y.led,λr hr =>?_⟩,hf⟩,h2.imp λa b ⟨m,c,e,z⟩=>⟨m,c,e,tk z⟩⟩,x.nd⟩;obtain⟨b,ks,e,z,q⟩:=y.key r hr;exact⟨b,ks,e,tk z,q⟩
variable {A:Around}{R:Result->Shared->Prop}{I:Addr}{fp wr:List Addr}{G:Array GenState->Array GenState->Prop}{n:Nat}{P:Nat->Value->Prop}{St:Nat->Shared->Prop}
def z74 {M:Value->Prop}(W:WalksS prog w A.in1 I fp wr G n P St)(S:Addr)(hSf:S ∉ fp)(hu:A.in1.units<cLine)(ks:Nat->List Int)(hn:n<=2040)(hw:∀i s,St i s->∀b∈wr,∀k,¬ TK prog w s.heap k b)(hM:∀j v,P j v->M v):
  ∀(k i:Nat) (s:Shared) (kl:List (List Int)),n - i=k->i<=n->St i s->(∀j v,P j v->∃b,v = .ref b/\TK prog w s.heap (ks j) b)->
   SetK prog w M s.heap S kl->kl.length<=i->(∀x,x∈kl↔∃j,j<i/\ks j=x)->
   (∀s' kl',Moved (S::wr) G s s'->SetK prog w M s'.heap S kl'->kl'.length<=n->(∀x,x∈kl'↔∃j,j<n/\ks j=x)->R (.ok (.ret .none)) s')->
   codeAny (model prog w) A (.builtin "set.update.loop" ⟨[.ref S,.ref I],[]⟩) R s:=by
 have hSw:S ∉ wr:=λh=>hSf (W.sub _ h);have hsub:∀b∈wr,b∈S::wr:=λb hb=>List.mem_cons_of_mem _ hb;intro k
 induction k with
 | zero=>
  intro i s kl hk hi hst hP hS hl hm hR;have hin:i=n:=by lia
  subst hin;refine codeAny_builtin F.entry_set_update_loop ?_;rw[Around.under_plainId F.plain_set_update_loop _];show wpAny _ A.in1 (pyNext (.ref I) >>= _) _ _ s;refine wpAny_bind (W.done s _ _ hst λs' hmv =>?_);show wpAny _ A.in1 (ret Value.none) _ _ s';exact wpAny_pure (hR s' kl (hmv.mono hsub) (hS.stay hmv.heap hSw (hw _ _ hst)) hl hm)
 | succ k ih=>
  intro i s kl hk hi hst hP hS hl hm hR;have hlt:i<n:=by lia
  refine codeAny_builtin F.entry_set_update_loop ?_;rw[Around.under_plainId F.plain_set_update_loop _];show wpAny _ A.in1 (pyNext (.ref I) >>= _) _ _ s;refine wpAny_bind (W.item i s _ _ hlt hst λv s' hPv hst' hmv =>?_);have hS':=hS.stay hmv.heap hSw (hw _ _ hst);have hP':∀j v,P j v->∃b,v = .ref b/\TK prog w s'.heap (ks j) b:=λj u hu'=>by
   obtain⟨b,e,z⟩:=hP j u hu';have hb:b ∉ wr:=λq=>hw _ _ hst b q _ z;obtain⟨o,it,m,e',r⟩:=z;exact⟨b,e,o,it,m,hmv.heap _ _ hb e',r⟩
  obtain⟨b,rfl,hkb⟩:=hP' i v hPv;show wpAny _ A.in1 (holding [Value.ref b] (setAdd S (.ref b)) >>= _) _ _ s';refine wpAny_bind (wpAny_holding ?_);obtain⟨L,hL,h2,hlen⟩:=hS'.len;have grow:∀(h':Heap) (tk:Nat),s'.toks<=tk->Heap.SameBut S s'.heap h'->St (i+1) { s' with heap:=h',toks:=tk }/\(∀j v,P j v->∃b,v = .ref b/\TK prog w h' (ks j) b)/\∀s'',Moved (S::wr) G { s' with heap:=h',toks:=tk } s''->Moved (S::wr) G s s'':=λh' tk htk hsb=>by
   obtain⟨o,es,ep,t,y,_⟩:=hL.ex;refine⟨W.frame _ s' _ _ hst' htk λc hc o' e =>?_,λj u hu' =>?_,λs'' hm'' =>?_⟩
   ·rw[hsb.2 c (λz:c=S=>hSf (by rw[<- z]; exact hc))]; exact e
   ·obtain⟨c,e,z⟩:=hP' j u hu';exact⟨c,e,z.stay y.get y.data hsb⟩
   ·refine Moved.trans W.gtrans ((hmv.mono hsub).then_heap htk λc o' hc e =>?_) hm'';rw[hsb.2 c (λz:c=S=>hc (by rw[z]; exact List.mem_cons_self))]; exact e
  refine wpAny_with_toks (Nat.le_refl s'.toks) ?_;refine z6T hL hu hkb (by lia) ?_ ?_
  ·intro hex tk htk;obtain⟨g1,g2,g3⟩:=grow s'.heap tk htk (Heap.SameBut.refl _ _);refine wpAny_pure ⟨plainId_quiet F.plain_set_update_loop _,ih (i+1) _ kl (by lia) hlt g1 g2 hS' (by lia) (λx =>?_) λs'' kl' hm''=>hR s'' kl' (g3 s'' hm'')⟩;rw[hm x]
   constructor
   ·rintro⟨j,hj,e⟩;exact⟨j,by lia,e⟩
   ·rintro⟨j,hj,e⟩
    rcases Nat.lt_or_ge j i with z | z
    ·exact⟨j,z,e⟩
    ·have:j=i:=by lia
     subst this;obtain⟨r,hr,c,ec,hc⟩:=hex;obtain⟨y,hy,_,c',ec',hc'⟩:=h2.mem_left (List.mem_map.mpr ⟨r,hr,rfl⟩);rw[ec] at ec'
     cases ec'
     have:=hc.inj hc';rw[<- e,this];exact(hm y).mp hy
  ·intro habs h' tk L' hsb hok pm htk;obtain⟨g1,g2,g3⟩:=grow h' tk htk hsb;obtain⟨o,es,ep,t,y,_⟩:=hL.ex;have t1:Two (IsK prog w M h') (Value.ref b::L.map (·.2.2)) (ks i::kl) :=.cons ⟨hM i _ hPv,b,rfl,hkb.stay y.get y.data hsb⟩ (h2.imp λa k ⟨m,c,e,z⟩=>⟨m,c,e,z.stay y.get y.data hsb⟩);have pm2:(Value.ref b::L.map (·.2.2)).Perm (L'.map (·.2.2)):=by
    have:=pm.symm.map (·.2);simpa[Function.comp_def] using this
   obtain⟨kl',p',t'⟩:=t1.perm pm2;have hnk:ks i ∉ kl:=λz=>by
    obtain⟨a',ha',_,c,e,z'⟩:=h2.mem_right z;obtain⟨r,hr,rfl⟩:=List.mem_map.mp ha';exact habs ⟨r,hr,c,e,z'⟩
   have nd':kl'.Nodup:=p'.nodup_iff.mp (List.nodup_cons.mpr ⟨hnk,hS.nd⟩);have hl':kl'.length=kl.length+1:=by rw[<- p'.length_eq]; rfl
   refine wpAny_pure ⟨plainId_quiet F.plain_set_update_loop _,ih (i+1) _ kl' (by lia) hlt g1 g2 ⟨⟨L',hok,t'⟩,nd'⟩ (by lia) (λx =>?_) λs'' kl'' hm''=>hR s'' kl'' (g3 s'' hm'')⟩;rw[<- p'.mem_iff,List.mem_cons,hm x]
   constructor
   ·rintro(e | ⟨j,hj,e⟩)
    ·exact⟨i,by lia,e.symm⟩
    ·exact⟨j,by lia,e⟩
   ·rintro⟨j,hj,e⟩
    rcases Nat.lt_or_ge j i with z | z
    ·exact .inr ⟨j,z,e⟩
    ·have:j=i:=by lia
     subst this;exact .inl e.symm
end
section
variable {prog:Program}{w:World}{A:Around}{E:Value->Shared->Prop}{s:Shared}
def z8H:isSubtype (.type "tuple") (.type "set")=pure false:=by rw[isSubtype_type]; kernel_rfl
def z5v:isSubtype (.type "tuple") (.type "frozenset")=pure false:=by rw[isSubtype_type]; kernel_rfl
abbrev led0 (w:World):Bool := !w.params.followText "set-order"
def z6d (a:Value){Q₁:Value->Shared->Prop}
  (h:Q₁ (.ref s.heap.objs.size) { s with heap:=s.heap.push { cls :=.type "set",dict:=none,data :=.set #[] 0 (.fresh 0 0 (led0 w)) } }):
  codeAny (model prog w) A (.call (.builtin "set.__new__") ⟨[.type "set",a],[]⟩) (wants Q₁ E) s:=by
 refine codeAny_of_tree ?_;show wpAny _ A.in1 (do checkBuiltinCall "set.__new__" ⟨[.type "set",a],[]⟩; again (.builtin "set.__new__" ⟨[.type "set",a],[]⟩)) _ _ s;refine wpAny_bind (wpAny_of_eq (F.newCall_set_1 a) (wpAny_pure ⟨plainId_quiet F.plain_set_new _,codeAny_builtin F.entry_set_new ?_⟩));rw[Around.under_plainId F.plain_set_new _];unfold Builtin.«set.__new__» Builtin.Frozenset.newClass;have hsub:=sub_set_self;obtain⟨hp,g,d,tk,os⟩:=s;dsimp only
 wp_walk
 refine wpAny_askSetting (wpAny_pure ?_);dsimp only;simp only[newObj];refine wpAny_bind (wpAny_alloc (wpAny_pure ?_));exact wpAny_pure h
def z8g {M:Value->Prop}{h:Heap}{a:Addr}(e:h.get? a=some { cls :=.type "set",dict:=none,data :=.set #[] 0 (.fresh 0 0 (led0 w)) }):SetK prog w M h a []:=by
 refine⟨⟨[],⟨_, #[],0,_,⟨e,⟨rfl,rfl,rfl⟩,rfl,⟨rfl,rfl,.nil,(λr hr=>by simp at hr),rfl,⟨3,Nat.le_refl _,rfl⟩,(λr hr=>by simp at hr)⟩,(by show 0<=7; decide),(by show 7<=8191; decide),rfl,rfl,(λr hr=>by simp at hr)⟩,(by show 0*5<7*3; decide)⟩,.nil⟩,.nil⟩
def z9x {M:Value->Prop}{l:Addr}{z0d:Array Value}{ks:List (List Int)}{Q:Value->Shared->Prop}
  (hh:A.handled=none) (hu:A.units+8<cLine) (hl:s.heap.IsList l z0d) (hi:Two (IsK prog w M s.heap) z0d.toList ks) (hb:z0d.size<=2040)
  (h:∀(h':Heap) (tk:Nat) (kl:List (List Int)),SetK prog w M h' s.heap.objs.size kl->kl.length<=z0d.size->(∀x,x∈kl↔x∈ks)->
   (∀b o,b<s.heap.objs.size->s.heap.get? b=some o->h'.get? b=some o)->Q (.ref s.heap.objs.size) { s with heap:=h',toks:=tk }):
  wpAny (model prog w) A (call (.type "set") [.ref l]) Q E s:=by
 obtain⟨c,tl,hmro⟩:=F.called_set.mro;have hmade:=F.called_set.made;have hsub:=F.called_set.sub;refine wpAny_call (codeAny_of_tree ?_);show wpAny _ _ (callAny (.type "set") _) _ _ _;refine wpAny_pure ⟨Code.quiet_builtin _ (by decide +kernel),codeAny_builtin F.entry_type_call ?_⟩;rw[Around.under_plain (weight_type_call_type "set" [.ref l] []) rfl];have h1:=F.called_set.notType;have h2:=F.called_set.canCreate;have hct:=F.typeCall_set_1 (.ref l)
 repeat (any_goals (first | assumption | wp_step))
 refine codeAny_mono (z6d (.ref l) (E:=E) (Q₁:=λobj s₁=>obj = .ref s.heap.objs.size/\s₁={ s with heap:=s.heap.push { cls :=.type "set",dict:=none,data :=.set #[] 0 (.fresh 0 0 (led0 w)) } }) ⟨rfl,rfl⟩) λr s₁ hr =>?_
 cases r with
 | error e=>exact hr
 | ok fl=>
  cases fl with
  | ret obj=>
   obtain⟨rfl,rfl⟩:=hr;generalize hled:led0 w=led at*;have hS:(s.heap.push { cls :=.type "set",dict:=none,data :=.set #[] 0 (.fresh 0 0 led) }).get? s.heap.objs.size=some { cls :=.type "set",dict:=none,data :=.set #[] 0 (.fresh 0 0 led) }:=Heap.get?_push_size _ rfl;have hT:Shared.TypeIs { s with heap:=s.heap.push { cls :=.type "set",dict:=none,data :=.set #[] 0 (.fresh 0 0 led) } } (.ref s.heap.objs.size) "set":=⟨_,hS,rfl⟩
   have hli:=F.called_set.init.lookup;have hbi:=F.called_set.init.bind (.ref s.heap.objs.size)
   repeat (any_goals (first | assumption | wp_step))
   refine codeAny_mono (codeAny_call_builtin (R:=wants (λr s₂=>r = .none/\∃h' tk kl,s₂={ s with heap:=h',toks:=tk }/\SetK prog w M h' s.heap.objs.size kl/\kl.length<=z0d.size/\(∀x,x∈kl↔x∈ks)/\
     (∀b o,b<s.heap.objs.size->s.heap.get? b=some o->h'.get? b=some o)) E) F.called_set.init.plain F.entry_set_init (check_set_init_1 hT ?_)) λr₂ s₂ hr₂ =>?_
   ·obtain⟨ol,hol,hcl,nl,hdl⟩:=hl;obtain⟨ocls,odict,odata,oslots⟩:=ol;simp only at hcl hdl;subst hcl; subst hdl;have hol':(s.heap.push { cls :=.type "set",dict:=none,data :=.set #[] 0 (.fresh 0 0 led) }).get? l=some { cls :=.type "list",dict:=odict,data :=.seq z0d nl,slots:=oslots }:=Heap.get?_push_of_some _ hol;have hsls:=F.sub_list_set;have hslf:=F.sub_list_frozenset;have hne:(Value.type "list" == Value.type "dict")=false:=by decide
    have hl1:(s.heap.push { cls :=.type "set",dict:=none,data :=.set #[] 0 (.fresh 0 0 led) }).IsList l z0d:=⟨_,hol',rfl,nl,rfl⟩
    unfold Builtin.«set.__init__» noKeywords Builtin.Frozenset.updateFrom;generalize hPI:pyIter=PI
    wp_walk
    subst hPI;refine wpAny_pyIter_list hl1 ?_;refine wpAny_bind (wpAny_runValue ?_);have hlS:l<s.heap.objs.size:=Heap.lt_size hol;have hh3:A.in1.in1.in1.handled=none:=by simp[hh]
    have hneI:l≠(s.heap.push { cls :=.type "set",dict:=none,data :=.set #[] 0 (.fresh 0 0 led) }).objs.size:=by
     rw[Heap.size_push]; exact Nat.ne_of_lt (Nat.lt_succ_of_lt hlS)
    have hSf:s.heap.objs.size ∉ [(s.heap.push { cls :=.type "set",dict:=none,data :=.set #[] 0 (.fresh 0 0 led) }).objs.size,l]:=by
     rw[Heap.size_push]; simp only[List.mem_cons,List.mem_singleton,List.not_mem_nil,or_false,not_or];exact⟨Nat.ne_of_lt (Nat.lt_succ_self _),Nat.ne_of_gt hlS⟩
    have hkat:∀(i:Nat) (v:Value),z0d[i]? = some v->M v/\∃b,v = .ref b/\TK prog w s.heap (ks.getD i []) b:=λi v hv=>by
     have hv':z0d.toList[i]? = some v:=by simpa using hv
     generalize z0d.toList=il at hi hv';clear hv h
     induction hi generalizing i with
     | nil=>simp at hv'
     | cons h0 _ ih=>
      cases i with
      | zero=>
       simp at hv';subst hv';exact h0
      | succ i=>exact ih i (by simpa using hv')
    have hks:ks.length=z0d.size:=by
     have:∀{l:List Value}{m:List (List Int)},Two (IsK prog w M s.heap) l m->l.length=m.length:=by
      intro l m t
      induction t with
      | nil=>rfl
      | cons _ _ ih=>simp[ih]
     have:=this hi;simpa using this.symm
    refine z74 ((Walks.list hh3 _ l hneI z0d).toS) s.heap.objs.size hSf (by simp; lia) (λi=>ks.getD i []) hb ?hw (λj v hv=>(hkat j v hv).1) (z0d.size - 0) 0 _ [] (by lia) (Nat.zero_le _)
     ⟨⟨_,Heap.get?_push_size _ rfl,rfl,rfl⟩,?hl2⟩ (λj v hv => ?hP) ?hS0 (Nat.zero_le _) (λx=>by simp) ?hR
    case hl2=>exact⟨_,Heap.get?_push_of_some _ hol',rfl,nl,rfl⟩
    case hw=>
     intro i s0 hst b hb' k z;rw[List.mem_singleton.mp hb'] at z;obtain⟨⟨o1,e1,c1,_⟩,_⟩:=hst;obtain⟨o2,_,_,e2,c2,_⟩:=z;rw[e1] at e2
     cases e2
     rw[c1] at c2
     injection c2 with c3
     exact absurd c3 (by decide)
    case hP=>
     obtain⟨_,b,e,o2,it,m,e2,r⟩:=hkat j v hv;exact⟨b,e,o2,it,m,Heap.get?_push_of_some _ (Heap.get?_push_of_some _ e2),r⟩
    case hS0=>
     refine z8g (h:=(s.heap.push { cls :=.type "set",dict:=none,data :=.set #[] 0 (.fresh 0 0 led) }).push { cls :=.type "list_iterator",data :=.fields #[.ref l,.int 0 0] }) ?_;rw[hled];exact Heap.get?_push_of_some _ hS
    case hR=>
     intro s' kl hm hS' hkl hmem;obtain⟨h',g',d',tk',os'⟩:=s';have eg:g'=s.gens:=hm.gens;have ed:d'=s.drawn:=hm.drawn;have eo:os'=s.os:=hm.os;subst eg; subst ed; subst eo;show wpAny _ _ _ _ _ _;refine wpAny_pure ?_;show wpAny _ _ (ret Value.none) _ _ _;refine wpAny_pure ⟨rfl,h',tk',kl,rfl,hS',hkl,λx =>?_,λb o hb e =>?_⟩
     ·rw[hmem x]
      constructor
      ·rintro⟨j,hj,e⟩;have hj':j<ks.length:=by rw[hks]; exact hj
       rw[<- e];show ks.getD j []∈ks;rw[List.getD_eq_getElem?_getD,List.getElem?_eq_getElem hj'];exact List.getElem_mem hj'
      ·intro hx;obtain⟨j,hj,e⟩:=List.mem_iff_getElem.mp hx;refine⟨j,by rw[<- hks]; exact hj,?_⟩;show ks.getD j []=x;rw[List.getD_eq_getElem?_getD,List.getElem?_eq_getElem hj];exact e
     ·have hb1:b≠s.heap.objs.size:=Nat.ne_of_lt hb;have hb2:b≠(s.heap.push { cls :=.type "set",dict:=none,data :=.set #[] 0 (.fresh 0 0 led) }).objs.size:=by
       rw[Heap.size_push]; exact Nat.ne_of_lt (Nat.lt_succ_of_lt hb)
      exact hm.heap b o (by simp only[List.mem_cons,List.mem_singleton,List.not_mem_nil,or_false,not_or]; exact⟨hb1,hb2⟩) (Heap.get?_push_of_some _ (Heap.get?_push_of_some _ e))
   ·cases r₂ with
    | error e=>exact hr₂
    | ok fl₂=>
     cases fl₂ with
     | ret r=>
      obtain⟨rfl,h',tk,kl,rfl,hS',hk1,hk2,hk'⟩:=hr₂
      repeat (any_goals (first | assumption | wp_step))
      exact h _ _ _ hS' hk1 hk2 hk'
     | _=>exact hr₂.elim
  | _=>exact hr.elim
def z88 {M:Value->Prop}{l:Addr}{z0d:Array Value}{ks:List (List Int)}{Q:Value->Shared->Prop}
  (hh:A.handled=none) (hu:A.units+8<cLine) (hl:s.heap.IsTuple l z0d) (hi:Two (IsK prog w M s.heap) z0d.toList ks) (hb:z0d.size<=2040)
  (h:∀(h':Heap) (tk:Nat) (kl:List (List Int)),SetK prog w M h' s.heap.objs.size kl->kl.length<=z0d.size->(∀x,x∈kl↔x∈ks)->
   (∀b o,b<s.heap.objs.size->s.heap.get? b=some o->h'.get? b=some o)->Q (.ref s.heap.objs.size) { s with heap:=h',toks:=tk }):
  wpAny (model prog w) A (call (.type "set") [.ref l]) Q E s:=by
 obtain⟨c,tl,hmro⟩:=F.called_set.mro;have hmade:=F.called_set.made;have hsub:=F.called_set.sub;refine wpAny_call (codeAny_of_tree ?_);show wpAny _ _ (callAny (.type "set") _) _ _ _;refine wpAny_pure ⟨Code.quiet_builtin _ (by decide +kernel),codeAny_builtin F.entry_type_call ?_⟩;rw[Around.under_plain (weight_type_call_type "set" [.ref l] []) rfl];have h1:=F.called_set.notType;have h2:=F.called_set.canCreate;have hct:=F.typeCall_set_1 (.ref l)
 repeat (any_goals (first | assumption | wp_step))
 refine codeAny_mono (z6d (.ref l) (E:=E) (Q₁:=λobj s₁=>obj = .ref s.heap.objs.size/\s₁={ s with heap:=s.heap.push { cls :=.type "set",dict:=none,data :=.set #[] 0 (.fresh 0 0 (led0 w)) } }) ⟨rfl,rfl⟩) λr s₁ hr =>?_
 cases r with
 | error e=>exact hr
 | ok fl=>
  cases fl with
  | ret obj=>
   obtain⟨rfl,rfl⟩:=hr;generalize hled:led0 w=led at*;have hS:(s.heap.push { cls :=.type "set",dict:=none,data :=.set #[] 0 (.fresh 0 0 led) }).get? s.heap.objs.size=some { cls :=.type "set",dict:=none,data :=.set #[] 0 (.fresh 0 0 led) }:=Heap.get?_push_size _ rfl;have hT:Shared.TypeIs { s with heap:=s.heap.push { cls :=.type "set",dict:=none,data :=.set #[] 0 (.fresh 0 0 led) } } (.ref s.heap.objs.size) "set":=⟨_,hS,rfl⟩
   have hli:=F.called_set.init.lookup;have hbi:=F.called_set.init.bind (.ref s.heap.objs.size)
   repeat (any_goals (first | assumption | wp_step))
   refine codeAny_mono (codeAny_call_builtin (R:=wants (λr s₂=>r = .none/\∃h' tk kl,s₂={ s with heap:=h',toks:=tk }/\SetK prog w M h' s.heap.objs.size kl/\kl.length<=z0d.size/\(∀x,x∈kl↔x∈ks)/\
     (∀b o,b<s.heap.objs.size->s.heap.get? b=some o->h'.get? b=some o)) E) F.called_set.init.plain F.entry_set_init (check_set_init_1 hT ?_)) λr₂ s₂ hr₂ =>?_
   ·obtain⟨ol,hol,hcl,nl,hdl⟩:=hl;obtain⟨ocls,odict,odata,oslots⟩:=ol;simp only at hcl hdl;subst hcl; subst hdl;have hol':(s.heap.push { cls :=.type "set",dict:=none,data :=.set #[] 0 (.fresh 0 0 led) }).get? l=some { cls :=.type "tuple",dict:=odict,data :=.seq z0d nl,slots:=oslots }:=Heap.get?_push_of_some _ hol;have hsls:=z8H;have hslf:=z5v;have hne:(Value.type "tuple" == Value.type "dict")=false:=by decide
    have hl1:(s.heap.push { cls :=.type "set",dict:=none,data :=.set #[] 0 (.fresh 0 0 led) }).IsTuple l z0d:=⟨_,hol',rfl,nl,rfl⟩
    unfold Builtin.«set.__init__» noKeywords Builtin.Frozenset.updateFrom;generalize hPI:pyIter=PI
    wp_walk
    subst hPI;refine wpAny_pyIter_tuple hl1 ?_;refine wpAny_bind (wpAny_runValue ?_);have hlS:l<s.heap.objs.size:=Heap.lt_size hol;have hh3:A.in1.in1.in1.handled=none:=by simp[hh]
    have hneI:l≠(s.heap.push { cls :=.type "set",dict:=none,data :=.set #[] 0 (.fresh 0 0 led) }).objs.size:=by
     rw[Heap.size_push]; exact Nat.ne_of_lt (Nat.lt_succ_of_lt hlS)
    have hSf:s.heap.objs.size ∉ [(s.heap.push { cls :=.type "set",dict:=none,data :=.set #[] 0 (.fresh 0 0 led) }).objs.size,l]:=by
     rw[Heap.size_push]; simp only[List.mem_cons,List.mem_singleton,List.not_mem_nil,or_false,not_or];exact⟨Nat.ne_of_lt (Nat.lt_succ_self _),Nat.ne_of_gt hlS⟩
    have hkat:∀(i:Nat) (v:Value),z0d[i]? = some v->M v/\∃b,v = .ref b/\TK prog w s.heap (ks.getD i []) b:=λi v hv=>by
     have hv':z0d.toList[i]? = some v:=by simpa using hv
     generalize z0d.toList=il at hi hv';clear hv h
     induction hi generalizing i with
     | nil=>simp at hv'
     | cons h0 _ ih=>
      cases i with
      | zero=>
       simp at hv';subst hv';exact h0
      | succ i=>exact ih i (by simpa using hv')
    have hks:ks.length=z0d.size:=by
     have:∀{l:List Value}{m:List (List Int)},Two (IsK prog w M s.heap) l m->l.length=m.length:=by
      intro l m t
      induction t with
      | nil=>rfl
      | cons _ _ ih=>simp[ih]
     have:=this hi;simpa using this.symm
    refine z74 ((Walks.tuple hh3 _ l hneI z0d).toS) s.heap.objs.size hSf (by simp; lia) (λi=>ks.getD i []) hb ?hw (λj v hv=>(hkat j v hv).1) (z0d.size - 0) 0 _ [] (by lia) (Nat.zero_le _)
     ⟨⟨_,Heap.get?_push_size _ rfl,rfl,rfl⟩,?hl2⟩ (λj v hv => ?hP) ?hS0 (Nat.zero_le _) (λx=>by simp) ?hR
    case hl2=>exact⟨_,Heap.get?_push_of_some _ hol',rfl,nl,rfl⟩
    case hw=>
     intro i s0 hst b hb' k z;rw[List.mem_singleton.mp hb'] at z;obtain⟨⟨o1,e1,c1,_⟩,_⟩:=hst;obtain⟨o2,_,_,e2,c2,_⟩:=z;rw[e1] at e2
     cases e2
     rw[c1] at c2
     injection c2 with c3
     exact absurd c3 (by decide)
    case hP=>
     obtain⟨_,b,e,o2,it,m,e2,r⟩:=hkat j v hv;exact⟨b,e,o2,it,m,Heap.get?_push_of_some _ (Heap.get?_push_of_some _ e2),r⟩
    case hS0=>
     refine z8g (h:=(s.heap.push { cls :=.type "set",dict:=none,data :=.set #[] 0 (.fresh 0 0 led) }).push { cls :=.type "tuple_iterator",data :=.fields #[.ref l,.int 0 0] }) ?_;rw[hled];exact Heap.get?_push_of_some _ hS
    case hR=>
     intro s' kl hm hS' hkl hmem;obtain⟨h',g',d',tk',os'⟩:=s';have eg:g'=s.gens:=hm.gens;have ed:d'=s.drawn:=hm.drawn;have eo:os'=s.os:=hm.os;subst eg; subst ed; subst eo;show wpAny _ _ _ _ _ _;refine wpAny_pure ?_;show wpAny _ _ (ret Value.none) _ _ _;refine wpAny_pure ⟨rfl,h',tk',kl,rfl,hS',hkl,λx =>?_,λb o hb e =>?_⟩
     ·rw[hmem x]
      constructor
      ·rintro⟨j,hj,e⟩;have hj':j<ks.length:=by rw[hks]; exact hj
       rw[<- e];show ks.getD j []∈ks;rw[List.getD_eq_getElem?_getD,List.getElem?_eq_getElem hj'];exact List.getElem_mem hj'
      ·intro hx;obtain⟨j,hj,e⟩:=List.mem_iff_getElem.mp hx;refine⟨j,by rw[<- hks]; exact hj,?_⟩;show ks.getD j []=x;rw[List.getD_eq_getElem?_getD,List.getElem?_eq_getElem hj];exact e
     ·have hb1:b≠s.heap.objs.size:=Nat.ne_of_lt hb;have hb2:b≠(s.heap.push { cls :=.type "set",dict:=none,data :=.set #[] 0 (.fresh 0 0 led) }).objs.size:=by
       rw[Heap.size_push]; exact Nat.ne_of_lt (Nat.lt_succ_of_lt hb)
      exact hm.heap b o (by simp only[List.mem_cons,List.mem_singleton,List.not_mem_nil,or_false,not_or]; exact⟨hb1,hb2⟩) (Heap.get?_push_of_some _ (Heap.get?_push_of_some _ e))
   ·cases r₂ with
    | error e=>exact hr₂
    | ok fl₂=>
     cases fl₂ with
     | ret r=>
      obtain⟨rfl,h',tk,kl,rfl,hS',hk1,hk2,hk'⟩:=hr₂
      repeat (any_goals (first | assumption | wp_step))
      exact h _ _ _ hS' hk1 hk2 hk'
     | _=>exact hr₂.elim
  | _=>exact hr.elim
end
end Tab
namespace Tim
open PySem PyProof.Rows
section
variable {M:Model}{A:Around}{E:Value->Shared->Prop}{s:Shared}{rk:Keyed->Nat}{κ:SortKind}{a₀:Array Keyed}
def Asks (M:Model)(A:Around)(s:Shared)(κ:SortKind)(a₀:Array Keyed)(rk:Keyed->Nat):Prop:=
 ∀x y,x∈a₀.toList->y∈a₀.toList->∀(Q:Bool->Shared->Prop) (E:Value->Shared->Prop),Q (decide (rk x<rk y)) s->wpAny M A (keyLt' κ x.1 y.1) Q E s
structure TB (κ:SortKind)(a₀:Array Keyed)(st:SortSt):Prop where
 kind:kindOf st=κ
 failed:failedOf st=none
 perm:(arrOf st).Perm a₀
def zgR {α:Type}{H P:α->Prop}{G:Prop}(p:∀x,H x->P x)(u:(∀x,H x->P x)->G):G:=u p
def zhn (hL:Asks M A s κ a₀ rk){st:SortSt}{x y:Keyed}{Q:Option Bool->SortSt->Prop}(hk:kindOf st=κ)(hx:x∈a₀.toList)(hy:y∈a₀.toList)(h:Q (some (decide (rk x<rk y))) st):
  wpS M A E s (lt' x y) Q st:=by
 rw[lt'_eq];refine wpS_bind (wpS_get ?_);rw[hk];refine wpS_bind (wpS_lift (wpAny_attempt (hL x y hx hy _ _ ⟨rfl,?_⟩)));exact wpS_pure h
def zbj {st:SortSt}{arr:Array Keyed}{i:Nat}{p:Keyed}{Q:Keyed->SortSt->Prop}(e:arr[i]? = some p)(h:Q p st):wpS M A E s (elem' arr i) Q st:=by
 rw[elem'_eq,e];exact wpS_pure h
def TB.size {st:SortSt}(h:TB κ a₀ st):(arrOf st).size=a₀.size:=h.perm.size_eq
def TB.mem {st:SortSt}(h:TB κ a₀ st){p:Keyed}(hp:p∈(arrOf st).toList):p∈a₀.toList:=(Array.perm_iff_toList_perm.mp h.perm).mem_iff.mp hp
def Rk (rk:Keyed->Nat)(xs:Array Keyed)(i:Nat):Nat:=match xs[i]? with
 | some p=>rk p
 | none=>0
def z9C {xs:Array Keyed}{i:Nat}{p:Keyed}(h:xs[i]? = some p):Rk rk xs i=rk p:=by unfold Rk; rw[h]
def z6g {xs ys:Array Keyed}{i j:Nat}(h:xs[i]? = ys[j]?):Rk rk xs i=Rk rk ys j:=by unfold Rk; rw[h]
def zea {xs:Array Keyed}{i:Nat}(h:i<xs.size):∃p,xs[i]? = some p/\p∈xs.toList:=⟨xs[i],getElem?_pos xs i h,by simp⟩
def TB.setArr {st:SortSt}(h:TB κ a₀ st){xs:Array Keyed}(hp:xs.Perm (arrOf st)):TB κ a₀ (setArr st xs):=⟨h.kind,h.failed,hp.trans h.perm⟩
def z6h (hL:Asks M A s κ a₀ rk){st:SortSt}{i j:Nat}{Q:Option Bool->SortSt->Prop}(hB:TB κ a₀ st)(hi:i<a₀.size)(hj:j<a₀.size)
  (h:Q (some (decide (Rk rk (arrOf st) i<Rk rk (arrOf st) j))) st):wpS M A E s (ltAt' i j) Q st:=by
 obtain⟨p,e1,m1⟩:=zea (xs:=arrOf st) (i:=i) (by rw[hB.size]; exact hi);obtain⟨q,e2,m2⟩:=zea (xs:=arrOf st) (i:=j) (by rw[hB.size]; exact hj);rw[z9C e1,z9C e2] at h;rw[ltAt'_eq];refine wpS_bind (wpS_get ?_);exact wpS_bind (zbj e1 (wpS_bind (zbj e2 (zhn hL hB.kind (hB.mem m1) (hB.mem m2) h))))
def z3d {σ α:Type}{c:Prop}[Decidable c]{x y:StateT σ Sem α}{Q:α->σ->Prop}{st:σ}(h:c)(k:wpS M A E s x Q st):wpS M A E s (if c then x else y) Q st:=by
 rw[if_pos h];exact k
def z3e {σ α:Type}{c:Prop}[Decidable c]{x y:StateT σ Sem α}{Q:α->σ->Prop}{st:σ}(h:¬ c)(k:wpS M A E s y Q st):wpS M A E s (if c then x else y) Q st:=by
 rw[if_neg h];exact k
end
section
variable {t1 t2 t3 t4 t5 t6 t7 C S:Type}{c:C}{s:S}{G:C->S->Prop}
def elc0 {C:Type}{c F:C}{P:Prop}{G:C->Prop}(h:c=F/\P)(k:P->G F):G c:=by
 obtain⟨rfl,p⟩:=h;exact k p
def elc1 {t1 C:Type}{c:C}{F:t1->C}{P:t1->Prop}{G:C->Prop}(h:∃a,c=F a/\P a)(k:∀a,P a->G (F a)):G c:=by
 obtain⟨a,rfl,p⟩:=h;exact k a p
end
section
variable {M:Model}{A:Around}{E:Value->Shared->Prop}{s:Shared}{rk:Keyed->Nat}{κ:SortKind}{a₀:Array Keyed}
def Seg (rk:Keyed->Nat)(xs:Array Keyed)(i j:Nat):Prop:=∀p q,i<=p->p<=q->q<j->Rk rk xs p<=Rk rk xs q
def Gec (rk:Keyed->Nat)(xs:Array Keyed)(i j:Nat):Prop:=∀p q,i<=p->p<=q->q<j->Rk rk xs q<=Rk rk xs p
def Low (xs ys:Array Keyed)(lo:Nat):Prop:=∀k,k<lo->xs[k]? = ys[k]?
def Seg.one {xs:Array Keyed}{i j:Nat}(h:j<=i+1):Seg rk xs i j:=λp q a1 a2 a3=>by
 obtain rfl:p=q:=by lia
 exact Nat.le_refl _
def Low.refl {xs:Array Keyed}{lo:Nat}:Low xs xs lo:=λ_ _=>rfl
def Low.trans {xs ys zs:Array Keyed}{lo:Nat}(h:Low xs ys lo)(k:Low ys zs lo):Low xs zs lo:=λi hi=>(h i hi).trans (k i hi)
def z7L {xs:Array Keyed}{i j:Nat}(hj:j<=xs.size)(k:Nat):
  Rk rk (mirror xs i j ((j - i) / 2)) k=if i<=k/\k<j then Rk rk xs (i+j - 1 - k) else Rk rk xs k:=by
 have e:=getElem?_mirror_all (i:=i) hj k
 by_cases h1:i<=k/\k<j
 ·rw[if_pos h1] at e ⊢; exact z6g e
 ·rw[if_neg h1] at e ⊢; exact z6g e
def z1W {xs:Array Keyed}{i j:Nat}(hj:j<=xs.size)(heq:∀k,i<=k->k<j->Rk rk xs k=Rk rk xs (j - 1))(k:Nat):
  Rk rk (mirror xs i j ((j - i) / 2)) k=Rk rk xs k:=by
 rw[z7L hj]
 split
 ·rw[heq _ (by lia) (by lia),heq k (by lia) (by lia)]
 ·rfl
def z5b {xs:Array Keyed}{i j lo:Nat}(hj:j<=xs.size)(hi:lo<=i):Low (mirror xs i j ((j - i) / 2)) xs lo:=λk hk=>by
 rw[getElem?_mirror_all hj k,if_neg (by lia)]
def zaJ {xs:Array Keyed}{src d:Nat}(hs:src<xs.size)(hd:d<=src)(k:Nat):
  Rk rk (bubble xs src d) k=if k=src - d then Rk rk xs src else if src - d<k/\k<=src then Rk rk xs (k - 1) else Rk rk xs k:=by
 have e:=getElem?_bubble hs d hd k
 by_cases h1:k=src - d
 ·rw[if_pos h1] at e ⊢; exact z6g e
 ·rw[if_neg h1] at e ⊢
  by_cases h2:src - d<k/\k<=src
  ·rw[if_pos h2] at e ⊢; exact z6g e
  ·rw[if_neg h2] at e ⊢; exact z6g e
def zcA {xs:Array Keyed}{src d lo:Nat}(hs:src<xs.size)(hd:d<=src)(hl:lo<=src - d):Low (bubble xs src d) xs lo:=λk hk=>by
 rw[getElem?_bubble hs d hd k,if_neg (by lia),if_neg (by lia)]
def z3x {st:SortSt}{i j:Nat}{Q:Unit->SortSt->Prop}(h:Q () (setArr st (mirror (arrOf st) i j ((j - i) / 2)))):
  wpS M A E s (reverseSlice' i j) Q st:=by
 rw[reverseSlice'_eq]; exact wpS_modify h
def zcB {st:SortSt}{lo a nrem:Nat}{Q:Option Nat->SortSt->Prop}{f:Nat->Option (Option Nat) × Nat->StateT SortSt Sem (ForInStep (Option (Option Nat) × Nat))}{k:Option (Option Nat) × Nat->StateT SortSt Sem (Option Nat)}
  (ha:1<=a) (han:a<=nrem) (hs:Seg rk (arrOf st) lo (lo+a))
  (hf:∀x n (R:ForInStep (Option (Option Nat) × Nat)->SortSt->Prop),1<=n->n<nrem->(Rk rk (arrOf st) (lo+n)<Rk rk (arrOf st) (lo+n - 1)->R (.done (none,n)) st)->(Rk rk (arrOf st) (lo+n - 1)<=Rk rk (arrOf st) (lo+n)->R (.yield (none,n+1)) st)->wpS M A E s (f x (none,n)) R st)
  (hk:∀n,a<=n->n<=nrem->Seg rk (arrOf st) lo (lo+n)->(n=nrem\/Rk rk (arrOf st) (lo+n)<Rk rk (arrOf st) (lo+n - 1))->wpS M A E s (k (none,n)) Q st):
  wpS M A E s (forIn [a:nrem] ((none,a):Option (Option Nat) × Nat) f >>= k) Q st:=by
 refine wpS_bind (wpS_mono (wpS_forRange (I:=λx c st'=>st'=st/\c=(none,x)/\Seg rk (arrOf st) lo (lo+x))
  (Q:=λc st'=>st'=st/\∃n,c=(none,n)/\a<=n/\n<=nrem/\Seg rk (arrOf st) lo (lo+n)/\(n=nrem\/Rk rk (arrOf st) (lo+n)<Rk rk (arrOf st) (lo+n - 1))) ?step ?fin ⟨rfl,rfl,hs⟩) ?post)
 case fin=>
  rintro c st' ⟨rfl,rfl,hs'⟩;rw[show max a nrem=nrem by lia] at hs' ⊢;exact⟨rfl,nrem,rfl,han,Nat.le_refl _,hs',.inl rfl⟩
 case post=>
  rintro c st' ⟨rfl,n,rfl,h1,h2,h3,h4⟩;exact hk n h1 h2 h3 h4
 case step=>
  rintro x c st' hax hxn ⟨rfl,rfl,hs'⟩;refine hf x x _ (by lia) hxn (λhl=>⟨rfl,x,rfl,hax,by lia,hs',.inr hl⟩) (λhl=>⟨rfl,rfl,λp q h1 h2 h3 =>?_⟩)
  by_cases hq:q<lo+x
  ·exact hs' p q h1 h2 hq
  ·have e:q=lo+x:=by lia
   subst e
   by_cases hp:p=lo+x
   ·subst hp; exact Nat.le_refl _
   ·exact Nat.le_trans (hs' p (lo+x - 1) h1 (by lia) (by lia)) hl
def z9D (hL:Asks M A s κ a₀ rk){st:SortSt}{lo nrem:Nat}{Q:Option Nat->SortSt->Prop}(hn:lo+nrem<=a₀.size)(h1:1<=nrem)(hB:TB κ a₀ st)
  (h:∀m st',TB κ a₀ st'->pendingOf st'=pendingOf st->1<=m->m<=nrem->Seg rk (arrOf st') lo (lo+m)->Low (arrOf st') (arrOf st) lo->Q (some m) st'):
  wpS M A E s (countRun' lo nrem) Q st:=by
 try dsimp only
 refine zcB (rk:=rk) (lo:=lo) (Nat.le_refl 1) h1 (Seg.one (Nat.le_refl _)) ?f ?k
 case f=>
  intro x n R n1 n2 ha hb;dsimp only;refine wpS_bind (z6h hL hB (by lia) (by lia) ?_)
  by_cases hl:Rk rk (arrOf st) (lo+n)<Rk rk (arrOf st) (lo+n - 1)
  ·refine z3d (by simpa using hl) ?_; exact wpS_pure (ha hl)
  ·refine z3e (by simpa using hl) ?_; exact wpS_pure (hb (by lia))
 case k=>
  intro n hn1 hn2 hsn hor;dsimp only
  by_cases hnn:n=nrem
  ·refine z3d (by simpa using hnn) ?_;exact wpS_pure (h n st hB rfl hn1 hn2 hsn Low.refl)
  ·refine z3e (by simpa using hnn) ?_;have hlt:=hor.resolve_left hnn;have hsz:lo+n<=(arrOf st).size:=by rw[hB.size]; lia
   refine zgR (H:=λst1:SortSt=>TB κ a₀ st1/\pendingOf st1=pendingOf st/\Gec rk (arrOf st1) lo (lo+n+1)/\Low (arrOf st1) (arrOf st) lo) (P := ?pp1) ?tl1 ?us1
   case us1=>
    intro J
    by_cases hgt:n > 1
    ·refine z3d hgt ?_;refine wpS_bind (z6h hL hB (by lia) (by lia) ?_)
     by_cases hrose:Rk rk (arrOf st) lo<Rk rk (arrOf st) (lo+n - 1)
     ·refine z3d (by simpa using hrose) ?_;exact wpS_pure (h n st hB rfl hn1 hn2 hsn Low.refl)
     refine z3e (by simpa using hrose) ?_;have hall:∀k,lo<=k->k<lo+n->Rk rk (arrOf st) k=Rk rk (arrOf st) (lo+n - 1):=by
      intro k k1 k2;have a1:=hsn lo k (by lia) (by lia) k2;have a2:=hsn k (lo+n - 1) (by lia) (by lia) (by lia);lia
     refine wpS_bind (z3x ?_);obtain⟨st1,e1,hB1,hp1,hG1,hl1⟩:∃st1:SortSt,st1=setArr st (mirror (arrOf st) lo (lo+n) ((lo+n - lo) / 2))/\TB κ a₀ st1/\pendingOf st1=pendingOf st/\Gec rk (arrOf st1) lo (lo+n+1)/\Low (arrOf st1) (arrOf st) lo:=by
      refine⟨_,rfl,hB.setArr (mirror_perm _ _ _ _),rfl,λp q p1 p2 p3 =>?_,z5b hsz (Nat.le_refl _)⟩;show Rk rk (mirror (arrOf st) _ _ _) q<=Rk rk (mirror (arrOf st) _ _ _) p;rw[z1W hsz hall,z1W hsz hall]
      by_cases hq:q<lo+n
      ·rw[hall p (by lia) (by lia),hall q (by lia) hq]; exact Nat.le_refl _
      ·have e:q=lo+n:=by lia
       subst e
       by_cases hp:p=lo+n
       ·subst hp; exact Nat.le_refl _
       ·rw[hall p (by lia) (by lia)]; lia
     rw[<- e1];exact J st1 ⟨hB1,hp1,hG1,hl1⟩
    ·refine z3e hgt ?_;refine J st ⟨hB,rfl,λp q p1 p2 p3 =>?_,Low.refl⟩
     by_cases hp:p=q
     ·subst hp; exact Nat.le_refl _
     ·obtain rfl:p=lo:=by lia
      obtain rfl:q=p+n:=by lia
      obtain rfl:n=1:=by lia
      rw[show p+1 - 1=p by lia] at hlt;lia
   rintro st1 ⟨hB1,hp1,hG1,hl1⟩;refine wpS_bind (wpS_lift (wpAny_rule ⟨rfl,?_⟩));refine wpS_bind (wpS_mono (wpS_forRange (I:=λx c st2=>∃neq,c=(none,x,neq)/\TB κ a₀ st2/\pendingOf st2=pendingOf st/\Low (arrOf st2) (arrOf st) lo/\Gec rk (arrOf st2) lo (lo+x)/\neq+1<=x/\
     (∀i,lo+x - (neq+1)<=i->i<lo+x->Rk rk (arrOf st2) i=Rk rk (arrOf st2) (lo+x - 1)))
    (Q:=λc st2=>∃m neq,c=(none,m,neq)/\m<=nrem/\TB κ a₀ st2/\pendingOf st2=pendingOf st/\Low (arrOf st2) (arrOf st) lo/\Gec rk (arrOf st2) lo (lo+m)/\neq+1<=m/\
     (∀i,lo+m - (neq+1)<=i->i<lo+m->Rk rk (arrOf st2) i=Rk rk (arrOf st2) (lo+m - 1))) ?step ?fin ⟨0,rfl,hB1,hp1,hl1,hG1,by lia,λi h1 h2=>by congr 1; lia⟩) ?post)
   case fin=>
    rintro c st2 hI1;apply elc1 (c:=c) hI1;intro neq p1;have hB2:=p1.1;have hp2:=p1.2.1;have hl2:=p1.2.2.1;have hG2:=p1.2.2.2.1;have hq:=p1.2.2.2.2.1;have he:=p1.2.2.2.2.2;clear p1 hI1;refine⟨_,neq,rfl,by lia,hB2,hp2,hl2,hG2,hq,he⟩
   case step=>
    rintro x c st2 hax hxn hI2;apply elc1 (c:=c) hI2;intro neq p2;have hB2:=p2.1;have hp2:=p2.2.1;have hl2:=p2.2.2.1;have hG2:=p2.2.2.2.1;have hq:=p2.2.2.2.2.1;have he:=p2.2.2.2.2.2;clear p2 hI2;dsimp only;have hsz2:lo+x<=(arrOf st2).size:=by rw[hB2.size]; lia
    refine wpS_bind (z6h hL hB2 (by lia) (by lia) ?_)
    by_cases hless:Rk rk (arrOf st2) (lo+x)<Rk rk (arrOf st2) (lo+x - 1)
    ·refine z3d (by simpa using hless) ?_;have step1:∀xs:Array Keyed,(∀k,Rk rk xs k=Rk rk (arrOf st2) k)->Gec rk xs lo (lo+(x+1)):=by
      intro xs hk p q p1 p2 p3;rw[hk,hk]
      by_cases hq':q<lo+x
      ·exact hG2 p q p1 p2 hq'
      ·obtain rfl:q=lo+x:=by lia
       by_cases hp':p=lo+x
       ·subst hp'; exact Nat.le_refl _
       ·exact Nat.le_trans (Nat.le_of_lt hless) (hG2 p (lo+x - 1) p1 (by lia) (by lia))
     by_cases hneq:neq > 0
     ·refine z3d hneq ?_;refine wpS_bind (z3x (wpS_pure ⟨0,rfl,hB2.setArr (mirror_perm _ _ _ _),hp2,(z5b hsz2 (by lia)).trans hl2,step1 _ (z1W hsz2 he),by lia,λi h1 h2=>by congr 1; lia⟩))
     ·refine z3e hneq ?_;exact wpS_pure ⟨0,rfl,hB2,hp2,hl2,step1 _ (λ_=>rfl),by lia,λi h1 h2=>by congr 1; lia⟩
    ·refine z3e (by simpa using hless) ?_;refine wpS_bind (z6h hL hB2 (by lia) (by lia) ?_)
     by_cases hlarger:Rk rk (arrOf st2) (lo+x - 1)<Rk rk (arrOf st2) (lo+x)
     ·refine z3d (by simpa using hlarger) ?_;exact wpS_pure ⟨x,neq,rfl,by lia,hB2,hp2,hl2,hG2,hq,he⟩
     ·refine z3e (by simpa using hlarger) ?_;have heqx:Rk rk (arrOf st2) (lo+x)=Rk rk (arrOf st2) (lo+x - 1):=by lia
      refine wpS_pure ⟨neq+1,rfl,hB2,hp2,hl2,λp q p1 p2 p3 =>?_,by lia,λi h1 h2 =>?_⟩
      ·by_cases hq':q<lo+x
       ·exact hG2 p q p1 p2 hq'
       ·obtain rfl:q=lo+x:=by lia
        by_cases hp':p=lo+x
        ·subst hp'; exact Nat.le_refl _
        ·rw[heqx]; exact hG2 p (lo+x - 1) p1 (by lia) (by lia)
      ·rw[show lo+(x+1) - 1=lo+x by lia]
       by_cases hix:i=lo+x
       ·subst hix; rfl
       ·rw[heqx]; exact he i (by lia) (by lia)
   case post=>
    rintro c st2 ⟨m,neq,rfl,hm,hB2,hp2,hl2,hG2,hq,he⟩;dsimp only;have hsz2:lo+m<=(arrOf st2).size:=by rw[hB2.size]; lia
    refine zgR (H:=λst3:SortSt=>TB κ a₀ st3/\pendingOf st3=pendingOf st/\Low (arrOf st3) (arrOf st) lo/\Gec rk (arrOf st3) lo (lo+m)) (P := ?pp2) ?tl2 ?us2
    case us2=>
     intro J
     by_cases hneq:neq > 0
     ·refine z3d hneq ?_;refine wpS_bind (z3x ?_);obtain⟨st3,e3,hB3,hp3,hl3,hG3⟩:∃st3:SortSt,st3=setArr st2 (mirror (arrOf st2) (lo+m - (neq+1)) (lo+m) ((lo+m - (lo+m - (neq+1))) / 2))/\TB κ a₀ st3/\pendingOf st3=pendingOf st/\Low (arrOf st3) (arrOf st) lo/\Gec rk (arrOf st3) lo (lo+m):=by
       refine⟨_,rfl,hB2.setArr (mirror_perm _ _ _ _),hp2,(z5b hsz2 (by lia)).trans hl2,λp q p1 p2 p3 =>?_⟩;show Rk rk (mirror (arrOf st2) _ _ _) q<=Rk rk (mirror (arrOf st2) _ _ _) p;rw[z1W hsz2 he,z1W hsz2 he];exact hG2 p q p1 p2 p3
      rw[<- e3];exact J st3 ⟨hB3,hp3,hl3,hG3⟩
     ·refine z3e hneq ?_;exact J st2 ⟨hB2,hp2,hl2,hG2⟩
    rintro st3 ⟨hB3,hp3,hl3,hG3⟩;have hsz3:lo+m<=(arrOf st3).size:=by rw[hB3.size]; lia
    refine wpS_bind (z3x ?_);have hB4:TB κ a₀ (setArr st3 (mirror (arrOf st3) lo (lo+m) ((lo+m - lo) / 2))):=hB3.setArr (mirror_perm _ _ _ _);refine zcB (rk:=rk) (lo:=lo) (by lia) hm (λp q p1 p2 p3 =>?_) ?f ?k
    case f=>
     intro x n R n1 n2 ha hb;dsimp only;refine wpS_bind (z6h hL hB4 (by lia) (by lia) ?_)
     by_cases hl:Rk rk (mirror (arrOf st3) lo (lo+m) ((lo+m - lo) / 2)) (lo+n)<Rk rk (mirror (arrOf st3) lo (lo+m) ((lo+m - lo) / 2)) (lo+n - 1)
     ·refine z3d (by simpa using hl) ?_; exact wpS_pure (ha hl)
     ·refine z3e (by simpa using hl) ?_; exact wpS_pure (hb (Nat.le_of_not_lt hl))
    case k=>
     intro n hn1 hn2 hsn _;exact wpS_pure (h n _ hB4 hp3 (by lia) hn2 hsn ((z5b hsz3 (Nat.le_refl _)).trans hl3))
    show Rk rk (mirror (arrOf st3) lo (lo+m) ((lo+m - lo) / 2)) p<=Rk rk (mirror (arrOf st3) lo (lo+m) ((lo+m - lo) / 2)) q;rw[z7L hsz3,z7L hsz3,if_pos (by lia),if_pos (by lia)];exact hG3 _ _ (by lia) (by lia) (by lia)
end
section
variable {M:Model}{A:Around}{E:Value->Shared->Prop}{s:Shared}{rk:Keyed->Nat}{κ:SortKind}{a₀:Array Keyed}
def z7N (hL:Asks M A s κ a₀ rk){st:SortSt}{lo n ok:Nat}{Q:Bool->SortSt->Prop}(hn:lo+n<=a₀.size)(hok:ok<=n)(h1:1<=ok)(hB:TB κ a₀ st)(hs:Seg rk (arrOf st) lo (lo+ok))
  (h:∀st',TB κ a₀ st'->pendingOf st'=pendingOf st->Seg rk (arrOf st') lo (lo+n)->Low (arrOf st') (arrOf st) lo->Q true st'):wpS M A E s (binarySort' lo n ok) Q st:=by
 refine wpS_bind (wpS_mono (wpS_forRange (I:=λk c st'=>c=(none,())/\TB κ a₀ st'/\pendingOf st'=pendingOf st/\Seg rk (arrOf st') lo (lo+k)/\Low (arrOf st') (arrOf st) lo)
  (Q:=λc st'=>c=(none,())/\TB κ a₀ st'/\pendingOf st'=pendingOf st/\Seg rk (arrOf st') lo (lo+n)/\Low (arrOf st') (arrOf st) lo) ?step ?fin ?init) ?post)
 case post=>
  rintro c st' hI1;apply elc0 (c:=c) hI1;intro p1;have hB':=p1.1;have hp':=p1.2.1;have hs':=p1.2.2.1;have hl':=p1.2.2.2;clear p1 hI1;exact wpS_pure (h st' hB' hp' hs' hl')
 case init=>
  rw[show max ok 1=ok by lia];exact⟨rfl,hB,rfl,hs,Low.refl⟩
 case fin=>
  rintro c st' ⟨hc,hB',hp',hs',hl'⟩;rw[show max (max ok 1) n=n by lia] at hs';exact⟨hc,hB',hp',hs',hl'⟩
 case step=>
  rintro k c st' hak hkn hI2;apply elc0 (c:=c) hI2;intro p2;have hB':=p2.1;have hp':=p2.2.1;have hs':=p2.2.2.1;have hl':=p2.2.2.2;clear p2 hI2;dsimp only;have hk:lo+k<a₀.size:=by lia
  refine wpS_bind (wpS_mono (wpS_forRange (I:=λx c st''=>st''=st'/\∃l r,c=(none,l,r)/\l<=r/\r<=k/\r - l<=k - x/\
    (∀i,i<l->Rk rk (arrOf st') (lo+i)<=Rk rk (arrOf st') (lo+k))/\(∀i,r<=i->i<k->Rk rk (arrOf st') (lo+k)<Rk rk (arrOf st') (lo+i)))
   (Q:=λc st''=>st''=st'/\∃l r,c=(none,l,r)/\l<=k/\
    (∀i,i<l->Rk rk (arrOf st') (lo+i)<=Rk rk (arrOf st') (lo+k))/\(∀i,l<=i->i<k->Rk rk (arrOf st') (lo+k)<Rk rk (arrOf st') (lo+i))) ?istep ?ifin ?iinit) ?ipost)
  case iinit=>exact⟨rfl,0,k,rfl,by lia,by lia,by lia,λi hi=>by lia,λi h1 h2=>by lia⟩
  case ifin=>
   rintro c st'' ⟨rfl,l,r,rfl,hlr,hrk,hm,hlo,hhi⟩;obtain rfl:l=r:=by lia
   exact⟨rfl,l,l,rfl,hrk,hlo,hhi⟩
  case istep=>
   rintro x c st'' _ hxk ⟨rfl,l,r,rfl,hlr,hrk,hm,hlo,hhi⟩;dsimp only
   by_cases hge:l>=r
   ·refine z3d hge ?_;obtain rfl:l=r:=by lia
    exact wpS_pure ⟨rfl,l,l,rfl,hrk,hlo,hhi⟩
   ·refine z3e hge ?_;refine wpS_bind (z6h hL hB' hk (by lia) ?_)
    by_cases hless:Rk rk (arrOf st'') (lo+k)<Rk rk (arrOf st'') (lo+(l+r) / 2)
    ·refine z3d (by simpa using hless) ?_;refine wpS_pure ⟨rfl,l,(l+r) / 2,rfl,by lia,by lia,by lia,hlo,λi h1 h2 =>?_⟩;exact Nat.lt_of_lt_of_le hless (hs' _ _ (by lia) (by lia) (by lia))
    ·refine z3e (by simpa using hless) ?_;refine wpS_pure ⟨rfl,(l+r) / 2+1,r,rfl,by lia,by lia,by lia,λi h1 =>?_,hhi⟩;exact Nat.le_trans (hs' (lo+i) (lo+(l+r) / 2) (by lia) (by lia) (by lia)) (Nat.le_of_not_lt hless)
  case ipost=>
   rintro c st'' ⟨rfl,l,r,rfl,hlk,hlo,hhi⟩;dsimp only;show wpS M A E s (moveDown' _ _ >>= _) _ _;rw[moveDown'_eq];have hks:lo+k<(arrOf st'').size:=by rw[hB'.size]; exact hk
   refine wpS_bind (wpS_modify (wpS_pure ⟨rfl,hB'.setArr (bubble_perm _ _ _),hp',?_,(zcA hks (by lia) (by lia)).trans hl'⟩));intro i j hi hij hj;show Rk rk (bubble (arrOf st'') (lo+k) (lo+k - (lo+l))) i<=Rk rk (bubble (arrOf st'') (lo+k) (lo+k - (lo+l))) j;rw[zaJ hks (by lia),zaJ hks (by lia),show lo+k - (lo+k - (lo+l))=lo+l by lia];have hlo':∀i,lo<=i->i<lo+l->Rk rk (arrOf st'') i<=Rk rk (arrOf st'') (lo+k):=λi h1 h2=>by
    have:=hlo (i - lo) (by lia)
    rwa [show lo+(i - lo)=i by lia] at this
   have hhi':∀i,lo+l<=i->i<lo+k->Rk rk (arrOf st'') (lo+k)<Rk rk (arrOf st'') i:=λi h1 h2=>by
    have:=hhi (i - lo) (by lia) (by lia)
    rwa [show lo+(i - lo)=i by lia] at this
   repeat' split
   all_goals first
    | (exfalso; lia)
    | exact Nat.le_refl _
    | exact hlo' _ (by lia) (by lia)
    | exact Nat.le_of_lt (hhi' _ (by lia) (by lia))
    | exact hs' _ _ (by lia) (by lia) (by lia)
end
section
variable {M:Model}{A:Around}{E:Value->Shared->Prop}{s:Shared}{rk:Keyed->Nat}{κ:SortKind}{a₀:Array Keyed}
def Up (rk:Keyed->Nat)(l:List Keyed):Prop:=l.Pairwise λx y=>rk x<=rk y
def zfH {a:Array Keyed}{i j:Nat}(h:Seg rk a i j)(hj:j<=a.size):Up rk (a.extract i j).toList:=by
 refine List.pairwise_iff_getElem.mpr λp q hp hq hpq =>?_;have hp':p<(a.extract i j).size:=by rw[<- Array.length_toList]; exact hp
 have hq':q<(a.extract i j).size:=by rw[<- Array.length_toList]; exact hq
 have hsz:(a.extract i j).size=j - i:=by rw[Array.size_extract]; lia
 have:=h (i+p) (i+q) (by lia) (by lia) (by lia);rw[z9C (getElem?_pos a (i+p) (by lia)),z9C (getElem?_pos a (i+q) (by lia))] at this;simpa[Array.getElem_extract] using this
end
section
variable {M:Model}{A:Around}{E:Value->Shared->Prop}{s:Shared}{rk:Keyed->Nat}{κ:SortKind}{a₀:Array Keyed}
def z72 (hL:Asks M A s κ a₀ rk){st:SortSt}{Q:Unit->SortSt->Prop}(hB:TB κ a₀ st)(hp:pendingOf st = #[])(h1:1<=a₀.size)(h64:a₀.size<64)
  (h:∀st',TB κ a₀ st'->Seg rk (arrOf st') 0 a₀.size->Q () st'):wpS M A E s sortRuns' Q st:=by
 refine wpS_bind (wpS_get ?_);dsimp only;have hz:(PyProof.Rows.arrOf st).size=a₀.size:=hB.size;rw[hz];have emr:minRun' a₀.size a₀.size 0=a₀.size:=by
  cases e:a₀.size with
  | zero=>rfl
  | succ f=>rw[minRun'_succ,if_pos (by omega)]
 delta minRun' at emr
 rw[emr];refine wpS_bind (wpS_mono (wpS_forRange
  (I:=λx c st'=>TB κ a₀ st'/\(c=(none,0)/\x=0/\pendingOf st' = #[]\/c=(none,a₀.size)/\(pendingOf st').size=1/\Seg rk (arrOf st') 0 a₀.size))
  (Q:=λc st'=>c=(none,a₀.size)/\TB κ a₀ st'/\(pendingOf st').size=1/\Seg rk (arrOf st') 0 a₀.size) ?step ?fin ⟨hB,.inl ⟨rfl,rfl,hp⟩⟩) ?post)
 case fin=>
  rintro c st' ⟨hB',⟨_,e,_⟩ | ⟨rfl,e,q⟩⟩
  ·omega
  ·exact⟨rfl,hB',e,q⟩
 case step=>
  rintro x c st' _ hx ⟨hB',⟨rfl,rfl,e⟩ | ⟨rfl,e,q⟩⟩
  ·dsimp only;rw[if_neg (by omega)];refine wpS_bind (z9D hL (by omega) (by omega) hB' λm st1 hB1 hp1 m1 m2 hs1 hl1 =>?_);dsimp only;refine zgR (H:=λst2:SortSt=>TB κ a₀ st2/\pendingOf st2 = #[]/\Seg rk (arrOf st2) 0 a₀.size) (P := ?pp1) ?tl1 ?us1
   case us1=>
    intro J
    by_cases c2:m<a₀.size
    ·rw[if_pos c2];refine wpS_bind (wpS_lift (wpAny_rule ⟨rfl,?_⟩));refine wpS_bind (z7N hL (by omega) (by omega) m1 hB1 hs1 λst2 hB2 hp2 hs2 hl2 =>?_);simp only[Bool.not_true,Bool.false_eq_true,if_false];rw[show min (a₀.size - 0) a₀.size=a₀.size by omega] at hs2 ⊢;rw[Nat.zero_add] at hs2;exact J st2 ⟨hB2,by rw[hp2,hp1,e],hs2⟩
    ·rw[if_neg c2];obtain rfl:m=a₀.size:=by omega
     rw[Nat.zero_add] at hs1;exact J st1 ⟨hB1,by rw[hp1,e],hs1⟩
   rintro st2 ⟨hB2,hp2,hs2⟩;refine wpS_bind (wpS_get ?_)
   split
   ·rename_i eb
    replace eb:(pendingOf st2).back? = some _:=eb
    rw[hp2] at eb
    cases eb
   ·refine wpS_bind (wpS_modify (wpS_pure ⟨⟨hB2.kind,hB2.failed,hB2.perm⟩,.inr ⟨by rw[Nat.zero_add],?_,hs2⟩⟩));show ((pendingOf st2).push _).size=1;rw[hp2]
    rfl
  ·dsimp only;rw[if_pos (Nat.le_refl _)];exact wpS_pure ⟨rfl,hB',e,q⟩
 case post=>
  rintro c st' ⟨rfl,hB',hz',hs'⟩;dsimp only;refine wpS_bind (wpS_mono (wpS_forRange (I:=λy c st3=>c=(none,())/\st3=st') (Q:=λc st3=>c=(none,())/\st3=st') ?fstep (λ_ _ z=>z) ⟨rfl,rfl⟩) ?fpost)
  case fpost=>
   rintro c st3 ⟨rfl,rfl⟩;exact wpS_pure (h st3 hB' hs')
  case fstep=>
   rintro y c st3 _ _ ⟨rfl,rfl⟩;refine wpS_bind (wpS_get ?_);rw[if_pos (by rw[hz']; exact Nat.le_refl _)];exact wpS_pure ⟨rfl,rfl⟩
end
end Tim
namespace Tim
open PySem PyProof.Rows PySem.W HT
def z9a:∀k:List Int,z2h k k=false
 | []=>rfl
 | x::xs=>by rw[z3b,if_pos rfl]; exact z9a xs
def zdH:∀{a b c:List Int},z2h a b=true->z2h b c=true->z2h a c=true
 | [],[],_,h,_=>by cases h
 | [],_::_,[],_,k=>by cases k
 | [],_::_,_::_,_,_=>rfl
 | _::_,[],_,h,_=>by cases h
 | _::_,_::_,[],_,k=>by cases k
 | x::xs,y::ys,z::zs,h,k=>by
  rw[z3b] at h k ⊢
  by_cases e1:x=y
  ·subst e1
   by_cases e2:x=z
   ·subst e2;rw[if_pos rfl] at h k ⊢;exact zdH h k
   ·rw[if_neg e2] at k ⊢; exact k
  ·rw[if_neg e1] at h;have h':=of_decide_eq_true h
   by_cases e2:y=z
   ·subst e2;rw[if_neg e1]; exact h
   ·rw[if_neg e2] at k;have k':=of_decide_eq_true k;rw[if_neg (by omega)];exact decide_eq_true (by omega)
def zb8:∀(a b:List Int),z2h a b=false->z2h b a=false->a=b
 | [],[],_,_=>rfl
 | [],_::_,h,_=>by cases h
 | _::_,[],_,k=>by cases k
 | x::xs,y::ys,h,k=>by
  rw[z3b] at h k
  by_cases e:x=y
  ·subst e;rw[if_pos rfl] at h k;rw[zb8 xs ys h k]
  ·rw[if_neg e] at h;rw[if_neg (Ne.symm e)] at k;have h':=of_decide_eq_false h;have k':=of_decide_eq_false k;omega
def rkL (l:List (List Int))(k:List Int):Nat:=l.countP λq=>z2h q k
def zas {α:Type}{p q:α->Bool}{l:List α}(h:∀x,p x=true->q x=true){a:α}(ha:a∈l)(hp:p a=false)(hq:q a=true):l.countP p<l.countP q:=by
 induction l with
 | nil=>cases ha
 | cons y l ih=>
  rw[List.countP_cons,List.countP_cons];have hle:l.countP p<=l.countP q:=List.countP_mono_left λx _ hx=>h x hx
  rcases List.mem_cons.mp ha with rfl | ha
  ·rw[hp,hq]; simp; omega
  ·have:=ih ha
   by_cases py:p y=true
   ·rw[py,h y py]; simp; omega
   ·rw[if_neg py]; split <;> omega
def zbt {l:List (List Int)}{a b:List Int}(ha:a∈l)(hb:b∈l):z2h a b=decide (rkL l a<rkL l b):=by
 cases q:z2h a b with
 | true=>
  symm
  apply decide_eq_true;exact zas (λx hx=>zdH hx q) ha (z9a a) q
 | false=>
  symm
  apply decide_eq_false;intro hlt
  cases q2:z2h b a with
  | true=>
   have:=zas (p:=λx=>z2h x b) (q:=λx=>z2h x a) (λx hx=>zdH hx q2) hb (z9a b) q2;unfold rkL at hlt; omega
  | false=>
   rw[zb8 a b q q2] at hlt;omega
section
variable {prog:Program}{w:World}{A:Around}{E:Value->Shared->Prop}{s:Shared}
def z5A {b fin:Bool}{Q:Bool->Shared->Prop}:∀{vs ws:List Value}{ns ms:List Int}(i:Nat),IntsAre vs ns->IntsAre ws ms->fin=decide (ns.length<ms.length)->Q (z2h ns ms) s->KatLex prog w A b fin Q (vs.zip ws) i s
 | _,_,_,_,i,.nil,.nil,hf,h=>by
  refine kat_nil ?_; rw[hf]; exact h
 | _,_,_,_,i,.nil,.cons m u r,hf,h=>by
  refine kat_nil ?_; rw[hf];rw[show decide (([]:List Int).length<(m::_).length)=true by simp]; exact h
 | _,_,_,_,i,.cons n t r,.nil,hf,h=>by
  refine kat_nil ?_; rw[hf];rw[show decide ((n::_).length<([]:List Int).length)=false by simp]; exact h
 | _,_,_,_,i,.cons n t r,.cons m u r2,hf,h=>by
  refine kat_cons (wpAny_eqBool_int ?_);rw[z3b] at h
  by_cases e:n=m
  ·subst e;rw[if_pos rfl] at h;rw[show (n == n)=true by simp];exact kat_yes (z5A (i+1) r r2 (by rw[hf]; simp) h)
  ·rw[if_neg e] at h;rw[show (n == m)=false by simpa using e];refine kat_no ?_
   cases hb:(b && i == 0) with
   | true=>exact oneLt_int h
   | false=>exact kat_one _ _ (lt_int h)
def TI (h:Heap)(v:Value)(k:List Int):Prop:=∃a o z0d n,v = .ref a/\h.get? a=some o/\o.cls = .type "tuple"/\o.data = .seq z0d n/\IntsAre z0d.toList k
def TI.keep {h h':Heap}{v:Value}{k:List Int}(x:TI h v k)(g:∀b o,h.get? b=some o->o.cls = .type "tuple"->h'.get? b=some o):TI h' v k:=by
 obtain⟨a,o,z0d,n,e,h1,h2,h3,h4⟩:=x;exact⟨a,o,z0d,n,e,g _ _ h1 h2,h2,h3,h4⟩
def zfA {vs:List Value}{key:Value->List Int}(hk:∀v∈vs,TI s.heap v (key v))(b:Bool):Asks (model prog w) A s (tuples' b) (pairsOf vs) (λp=>rkL (vs.map key) (key p.1)):=by
 intro x y hx hy Q E h;rw[pairsOf_toList] at hx hy;have mx:=(mem_zip_self hx).2;have my:=(mem_zip_self hy).2;rw[<- zbt (List.mem_map.mpr ⟨_,mx,rfl⟩) (List.mem_map.mpr ⟨_,my,rfl⟩)] at h;obtain⟨a1,o1,i1,n1,e1,g1,c1,d1,k1⟩:=hk _ mx;obtain⟨a2,o2,i2,n2,e2,g2,c2,d2,k2⟩:=hk _ my;rw[e1] at h k1;rw[e2] at h k2;rw[e1,e2];exact kat_lt g1 d1 g2 d2 (z5A 0 k1 k2 (by rw[<- IntsAre.length k1, <- IntsAre.length k2,Array.length_toList,Array.length_toList]) h)
def z7l {h:Heap}{key:Value->List Int}:∀{vs:List Value},(∀v∈vs,TI h v (key v)/\key v≠[])->∃fs:List Value,KatTups h vs fs/\fs.length=vs.length/\∀f∈fs,∃n t,f = .int n t
 | [],_=>⟨[],.nil,rfl,λ_ h=>by cases h⟩
 | v::vs,hk=>by
  obtain⟨fs,q1,q2,q3⟩:=z7l (vs:=vs) (λv hv=>hk v (List.mem_cons_of_mem _ hv));obtain⟨⟨a,o,z0d,n,e,h1,h2,h3,h4⟩,hne⟩:=hk v (List.mem_cons_self ..);subst e;obtain⟨x,xs,ex⟩:∃x xs,key (.ref a)=x::xs:=by
   cases hq:key (.ref a) with
   | nil=>exact(hne hq).elim
   | cons x xs=>exact⟨x,xs,rfl⟩
  rw[ex] at h4;generalize hi:z0d.toList=il at h4
  cases h4 with
  | cons _ t r=>
   refine⟨.int x t::fs,.cons h1 h2 h3 ?_ q1,by simp[q2],λf hf =>?_⟩
   ·rw[<- Array.getElem?_toList,hi]; rfl
   ·rcases List.mem_cons.mp hf with rfl | hf
    ·exact⟨_,_,rfl⟩
    ·exact q3 f hf
def zbM {vs:List Value}{key:Value->List Int}{Q:SortKind->Shared->Prop}(hk:∀v∈vs,TI s.heap v (key v)/\key v≠[])(hne:0<vs.length)(h:Q (tuples' true) s):wpAny (model prog w) A (keyKind' vs.toArray) Q E s:=by
 obtain⟨fs,q1,q2,q3⟩:=z7l hk;refine kat_kind (T :=.type "int") q1 (by omega) (λv hv =>?_) rfl h;obtain⟨n,t,rfl⟩:=q3 v hv;exact Looks.now
def zbA {α:Type}{R:α->α->Prop}{l:List α}(h:l.length<2):l.Pairwise R:=by
 match l,h with
 | [],_=>exact List.Pairwise.nil
 | [x],_=>exact List.pairwise_singleton _ _
def zaH (prog:Program)(w:World)(h:Heap)(vs:List Value)(rk:Value->Nat):Prop:=∀(A:Around) (s:Shared),(∀b o,h.get? b=some o->o.cls = .type "tuple"->s.heap.get? b=some o)->
 Asks (model prog w) A s (tuples' true) (pairsOf vs) (λp=>rk p.1)/\(1<vs.length->∀(Q:SortKind->Shared->Prop) (E:Value->Shared->Prop),Q (tuples' true) s->wpAny (model prog w) A (keyKind' vs.toArray) Q E s)
def zaH.keep {h h':Heap}{vs:List Value}{rk:Value->Nat}(x:zaH prog w h vs rk)(k:∀b o,h.get? b=some o->h'.get? b=some o):zaH prog w h' vs rk:=λA s k'=>x A s λb o e c=>k' b o (k b o e) c
def zaH.tups {h:Heap}{vs:List Value}{key:Value->List Int}(hk:∀v∈vs,TI h v (key v)/\key v≠[]):zaH prog w h vs (λv=>rkL (vs.map key) (key v)):=λA s k=>
 ⟨zfA (λv hv=>(hk v hv).1.keep k) true,λhl Q E q=>zbM (λv hv=>⟨(hk v hv).1.keep k,(hk v hv).2⟩) (by omega) q⟩
def za9 {a:Addr}{vs:List Value}{rk:Value->Nat}{n:Nat}{P:PySem.Fin->Shared->Prop}(ho:s.heap.get? a=some (seqObj "list" vs.toArray n))(hz:vs.length<=sizeLine)(h64:vs.length<64)
  (hk:zaH prog w s.heap vs rk)
  (h:∀out:List Value,out.Perm vs->out.Pairwise (λx y=>rk x<=rk y)->P (.done (.ret .none)) { s with heap:=sortedHeap s.heap a vs out.toArray }):
  wpAny (model prog w) A (Builtin.«list.sort» ⟨[.ref a],[]⟩) P E s:=by
 rw[list_sort_plain];have ha:a<s.heap.objs.size:=Heap.lt_size ho;refine wpAny_bind (listItems_at ho rfl ?_);refine wpAny_bind (listUpdate_at ho rfl ?_ (by rw[List.size_toArray]; omega) (Nat.zero_le _));obtain⟨e1,ho1⟩:∃e1,(s.heap.update a (Obj.mapSeq λ_ => #[])).get? a=some (seqObj "list" #[] e1):=⟨_,get?_update_seq ho (λ_ => #[])⟩
 refine wpAny_bind (seqEpoch_at ho1 rfl ?_);refine wpAny_bind (wpAny_newTuple ?_ (by show vs.length<=_; omega));refine wpAny_bind (wpAny_newList ?_ (Nat.zero_le _));refine wpAny_holding ?_;have ho6:(((s.heap.update a (Obj.mapSeq λ_ => #[])).push (seqObj "tuple" vs.toArray 0)).push (seqObj "list" #[] 0)).get? a=some (seqObj "list" #[] e1):=by
  rw[Heap.get?_push_ne _ _ _ (by rw[size_push',Heap.size_update]; exact Nat.ne_of_lt (Nat.lt_succ_of_lt ha)),Heap.get?_push_ne _ _ _ (by rw[Heap.size_update]; exact Nat.ne_of_lt ha)];exact ho1
 have keep:∀b o,s.heap.get? b=some o->o.cls = .type "tuple"->(((s.heap.update a (Obj.mapSeq λ_ => #[])).push (seqObj "tuple" vs.toArray 0)).push (seqObj "list" #[] 0)).get? b=some o:=λb o hb hc=>by
  have hlt:b<s.heap.objs.size:=Heap.lt_size hb;have hne:b≠a:=by
   rintro rfl;rw[ho] at hb
   cases hb
   exact absurd (show Value.type "list"=Value.type "tuple" from hc) (by decide)
  rw[Heap.get?_push_ne _ _ _ (by rw[size_push',Heap.size_update]; exact Nat.ne_of_lt (Nat.lt_succ_of_lt hlt)),Heap.get?_push_ne _ _ _ (by rw[Heap.size_update]; exact Nat.ne_of_lt hlt),Heap.get?_update_ne _ _ _ _ hne];exact hb
 show wpAny (model prog w) A _ P E { s with heap:=((s.heap.update a (Obj.mapSeq λ_ => #[])).push (seqObj "tuple" vs.toArray 0)).push (seqObj "list" #[] 0) };dsimp only;have hsz:vs.toArray.size=vs.length:=by simp
 have snd:∀st':SortSt,(arrOf st').Perm (pairsOf vs)->∃out:List Value,(arrOf st').map (·.2)=out.toArray/\out.Perm vs/\(arrOf st').toList.map (·.1)=out:=λst' hp=>by
  refine⟨(arrOf st').toList.map (·.2),?_,?_,?_⟩
  ·apply Array.toList_inj.mp;rw[Array.toList_map]
  ·have:=(Array.perm_iff_toList_perm.mp hp).map (·.2);rw[pairsOf_toList] at this;refine this.trans ?_;rw[List.map_snd_zip (Nat.le_refl _)]
  ·apply List.map_congr_left;intro p hp';have:=(Array.perm_iff_toList_perm.mp hp).mem_iff.mp hp';rw[pairsOf_toList] at this;exact(mem_zip_self this).1
 have outsz:∀st':SortSt,(arrOf st').Perm (pairsOf vs)->((arrOf st').map (·.2)).size<=sizeLine:=λst' hp=>by
  rw[Array.size_map,hp.size_eq,pairsOf_size]; exact hz
 by_cases h2:vs.toArray.size<2
 ·rw[if_pos h2,if_pos h2];refine wpAny_bind (wpAny_pure ?_);rw[StateT.run_pure];refine wpAny_bind (wpAny_pure ?_);dsimp only;refine wpAny_bind (seqEpoch_at ho6 rfl ?_);have hp0:(arrOf (SortSt.mk' general' (vs.toArray.zip vs.toArray) #[] 7 none)).Perm (pairsOf vs):=Array.Perm.refl _;refine wpAny_bind (listUpdate_at ho6 rfl ?_ (Nat.zero_le _) (Nat.le_succ_of_le (outsz _ hp0)));simp only[bne_self_eq_false,Bool.false_eq_true,if_false];obtain⟨out,o1,o2,o3⟩:=snd _ hp0;have ee:sortedHeap s.heap a vs out.toArray=sortedHeap s.heap a vs ((arrOf (SortSt.mk' general' (vs.toArray.zip vs.toArray) #[] 7 none)).map (·.2)):=by rw[o1]
  have hfin:=h out o2 (by
   have hl:out.length<2:=by rw[o2.length_eq]; omega
   exact zbA hl)
  rw[ee] at hfin;exact wpAny_pure hfin
 ·rw[if_neg h2,if_neg h2];obtain⟨ka,kk⟩:=hk A { s with heap:=((s.heap.update a (Obj.mapSeq λ_ => #[])).push (seqObj "tuple" vs.toArray 0)).push (seqObj "list" #[] 0) } keep;refine wpAny_bind (kk (by omega) _ _ ?_);refine wpAny_bind (wpAny_mono (z72 (a₀:=pairsOf vs) (κ:=tuples' true) (rk:=λp=>rk p.1) (st:=SortSt.mk' (tuples' true) (vs.toArray.zip vs.toArray) #[] 7 none)
   (Q:=λ_ st'=>TB (tuples' true) (pairsOf vs) st'/\Seg (λp=>rk p.1) (arrOf st') 0 (pairsOf vs).size)
   ka ⟨rfl,rfl,Array.Perm.refl _⟩ rfl (by rw[pairsOf_size]; omega) (by rw[pairsOf_size]; exact h64) λst' b1 b2=>⟨b1,b2⟩) ?_ λ_ _ e=>e)
  rintro⟨⟨⟩,st'⟩ s' ⟨rfl,hB,hs⟩;dsimp only at hB hs ⊢;refine wpAny_bind (seqEpoch_at ho6 rfl ?_);refine wpAny_bind (listUpdate_at ho6 rfl ?_ (Nat.zero_le _) (Nat.le_succ_of_le (outsz st' hB.perm)));rw[hB.failed];simp only[bne_self_eq_false,Bool.false_eq_true,if_false];obtain⟨out,o1,o2,o3⟩:=snd st' hB.perm;have hfin:=h out o2 (by
   have hup:Up (λp=>rk p.1) (arrOf st').toList:=by
    have:=zfH hs (by rw[hB.perm.size_eq]; exact Nat.le_refl _);rw[<- hB.perm.size_eq] at this;simpa using this
   rw[<- o3];exact List.pairwise_map.mpr hup)
  rw[<- o1] at hfin;exact wpAny_pure hfin
end
section
variable {prog:Program}{w:World}{A:Around}{E:Value->Shared->Prop}{s:Shared}
def zjK (prog:Program)(w:World)(rk:Value->Nat)(Q:Value->Shared->Prop)(vs:List Value)(s1:Shared):Prop:=
 vs.length<64/\zaH prog w s1.heap vs rk/\∀out:List Value,out.Perm vs->out.Pairwise (λx y=>rk x<=rk y)->
  ∀h',(∀b o,s1.heap.get? b=some o->h'.get? b=some o)->(∃e,h'.get? s1.heap.objs.size=some (seqObj "list" out.toArray e))->Q (.ref s1.heap.objs.size) { s1 with heap:=h' }
def zcO {v:Value}{Q:Value->Shared->Prop}(hcol:∀E',wpAny (model prog w) A.in1 (collect v) (λvs s1=>∃rk,zjK prog w rk Q vs s1) E' s):wpAny (model prog w) A (call (.builtin "sorted") [v]) Q E s:=by
 refine Calls.call_function_entry kind_sorted plain_sorted entry_sorted (args_sorted1 _) ?_;unfold Builtin.«sorted»;refine wpAny_bind (m:=checkCount "sorted" 1 1 _) (wpAny_pure ?_);refine wpAny_bind (wpAny_mono (hcol _) (λvs s1 q =>?_) λ_ _ e=>e);obtain⟨rk,h64,hk,h⟩:=q;have hz:vs.length<=sizeLine:=Nat.le_trans (Nat.le_of_lt h64) (by decide);refine wpAny_bind (wpAny_newList ?_ hz);have hoL:(s1.heap.push (seqObj "list" vs.toArray 0)).get? s1.heap.objs.size=some (seqObj "list" vs.toArray 0):=Heap.get?_push_size _ rfl;have keep:∀b o,s1.heap.get? b=some o->(s1.heap.push (seqObj "list" vs.toArray 0)).get? b=some o:=λb o q=>Heap.get?_push_of_some _ q;show wpAny _ _ _ _ _ { s1 with heap:=s1.heap.push (seqObj "list" vs.toArray 0) };refine wpAny_bind (wpAny_holding (wpAny_call_entry slot_list_sort ⟨_,hoL,rfl⟩ entry_list_sort (za9 hoL hz h64 (hk.keep keep) λout o1 o2=>⟨_,rfl,?_⟩) (args_list_sort _)));refine wpAny_pure ⟨_,rfl,h out o1 o2 _ (λb o g =>?_) ?_⟩
 ·have hlt:b<s1.heap.objs.size:=Heap.lt_size g;rw[sortedHeap_old (Nat.ne_of_lt hlt) (by rw[size_push']; exact Nat.lt_succ_of_lt hlt)];exact keep b o g
 ·exact sortedHeap_at hoL
def zjJ (key:Value->List Int)(Q:Value->Shared->Prop)(vs:List Value)(s1:Shared):Prop:=
 vs.length<64/\(∀x∈vs,TI s1.heap x (key x)/\key x≠[])/\∀out:List Value,out.Perm vs->out.Pairwise (λx y=>z2h (key y) (key x)=false)->
  ∀h',(∀b o,s1.heap.get? b=some o->h'.get? b=some o)->(∃e,h'.get? s1.heap.objs.size=some (seqObj "list" out.toArray e))->Q (.ref s1.heap.objs.size) { s1 with heap:=h' }
def zaN {v:Value}{key:Value->List Int}{Q:Value->Shared->Prop}(hcol:∀E',wpAny (model prog w) A.in1 (collect v) (zjJ key Q) E' s):wpAny (model prog w) A (call (.builtin "sorted") [v]) Q E s:=
 zcO λE'=>wpAny_mono (hcol E') (λvs s1 ⟨hz,hk,h⟩=>⟨_,hz,zaH.tups hk,λout o2 pw=>h out o2 (pw.imp_of_mem λ{x y} hx hy hxy=>by
  rw[zbt (List.mem_map.mpr ⟨_,o2.mem_iff.mp hy,rfl⟩) (List.mem_map.mpr ⟨_,o2.mem_iff.mp hx,rfl⟩)];exact decide_eq_false (Nat.not_lt.mpr hxy))⟩) λ_ _ e=>e
end
end Tim
namespace Tab
open PySem PySem.SetTable PyProof.Rows
def z83:entryFor table "set.__iter__"=some Builtin.«frozenset.__iter__»:=
 entryFor_alias (id':="frozenset.__iter__") (by kernel_rfl) rfl (by decide +kernel) (by kernel_rfl)
def z2l:Slot "set_iterator" "__next__" "set_iterator.__next__":=
 .of (owner:="set_iterator") (n:="__next__") (by rw[typeLookup_type,builtinLookup_eq_fast]; kernel_rfl) (by decide +kernel) (by decide +kernel) (by decide +kernel)
  (by first | exact .inl (by decide +kernel) | exact .inr (by decide +kernel)) (by rw[isSubtype_type]; kernel_rfl)
def z6C:Slot "set_iterator" "__iter__" "set_iterator.__iter__":=
 .of (owner:="set_iterator") (n:="__iter__") (by rw[typeLookup_type,builtinLookup_eq_fast]; kernel_rfl) (by decide +kernel) (by decide +kernel) (by decide +kernel)
  (by first | exact .inl (by decide +kernel) | exact .inr (by decide +kernel)) (by rw[isSubtype_type]; kernel_rfl)
def z6a:entryFor table "set_iterator.__next__"=some Builtin.«set_iterator.__next__»:=entryFor_of_fast (by kernel_rfl)
def z6R (a:Value):argsOk "set_iterator.__next__" ⟨[a],[]⟩:=by unfold argsOk; kernel_rfl
section
variable {prog:Program}{w:World}{A:Around}{E:Value->Shared->Prop}{s:Shared}
def z3v (h:Heap)(it S:Addr)(slot i n ep:Nat):Prop:=∃o,h.get? it=some o/\o.cls = .type "set_iterator"/\o.data = .fields #[.int slot 0,.int i 0,.ref S,.int n 0,.int ep 0]
def z3v.typeIs {it S:Addr}{slot i n ep:Nat}(x:z3v s.heap it S slot i n ep):s.TypeIs (.ref it) "set_iterator":=let ⟨o,ho,hc,_⟩:=x; ⟨o,ho,hc⟩
def z6U {S:Addr}{o:Obj}{es:Array (Int × Value)}{ep:Nat}{t:SetTable}{Q:Value->Shared->Prop}(ho:s.heap.get? S=some o)(hc:o.cls = .type "set")(hd:o.data = .set es ep t)(hf:t.fits es.size=true)(hp:t.plain=true)
  (h:Q (.ref s.heap.objs.size) { s with heap:=s.heap.push { cls :=.type "set_iterator",data :=.fields #[.int 0 0,.int 0 0,.ref S,.int es.size 0,.int ep 0] } }):wpAny (model prog w) A (pyIter (.ref S)) Q E s:=by
 have hT:s.TypeIs (.ref S) "set":=⟨o,ho,hc⟩
 refine wpAny_pyIter_slot hT F.slot_set_iter (wpAny_call_entry F.slot_set_iter hT z83 ?_ (F.args_set_iter_1 _));show wpAny _ _ (Builtin.Frozenset.sizeOf S >>= _) _ _ s;unfold Builtin.Frozenset.sizeOf setEntries setDrawn setEpoch;refine wpAny_bind (wpAny_bind (wpAny_bind (wpAny_setState_of ho hd hf (wpAny_pure (wpAny_pure ?_)))));refine wpAny_bind (wpAny_bind (wpAny_setState_of ho hd hf ?_));show wpAny _ _ (setsByText >>= λbyText=>pure (!byText && (!t.plain && decide (es.size > 1)))) _ _ s;unfold setsByText;refine wpAny_bind (wpAny_bind (wpAny_askSetting (wpAny_pure (wpAny_pure ?_))));rw[hp];simp only[Bool.not_true,Bool.false_and,Bool.and_false,Bool.false_eq_true,if_false];refine wpAny_bind (wpAny_pure (wpAny_bind (wpAny_bind (wpAny_setState_of ho hd hf (wpAny_pure ?_)))));exact wpAny_bind (wpAny_newObj_type (wpAny_pure ⟨_,rfl,"set_iterator",_,⟨_,Heap.get?_push_size _ rfl,rfl⟩,z2l.lookup,h⟩))
end
section
variable {prog:Program}{w:World}{A:Around}{E:Value->Shared->Prop}{s:Shared}
def nxt (w:World)(S:Addr)(es:Array (Int × Value))(ep:Nat)(t:SetTable)(slot i:Nat):Option (Value × Nat):=
 if w.params.followText "set-order"=true then ((pickOrder (w.params.setOrder S ep) es)[i]?).map λe=>(e.2,slot) else
  match es[below t.place slot]?, t.place[below t.place slot]? with
  | some (_,x),some j=>some (x,j+1)
  | _,_=>none
def z5D {S:Addr}{o:Obj}{es:Array (Int × Value)}{ep:Nat}{t:SetTable}{slot i:Nat}{Q:Option (Value × Nat)->Shared->Prop}(ho:s.heap.get? S=some o)(hd:o.data = .set es ep t)(hf:t.fits es.size=true)(hp:t.plain=true)(hl:t.led = !w.params.followText "set-order")
  (h:Q (nxt w S es ep t slot i) s):wpAny (model prog w) A (setNext S slot i ep) Q E s:=by
 unfold setNext;refine wpAny_bind (wpAny_setState_of ho hd hf ?_);show wpAny _ _ (setsByText >>= _) _ _ s;unfold setsByText;refine wpAny_bind (wpAny_bind (wpAny_askSetting (wpAny_pure ?_)));unfold nxt at h
 by_cases c:w.params.followText "set-order"=true
 ·have c':(model prog w).w.params.followText "set-order"=true:=c;rw[if_pos c] at h;rw[if_pos c'];rw[if_neg (by simp)];unfold setWalk;refine wpAny_bind (wpAny_bind (wpAny_setState_of ho hd hf ?_));show wpAny _ _ (setsByText >>= _) _ _ s;unfold setsByText;refine wpAny_bind (wpAny_bind (wpAny_askSetting (wpAny_pure ?_)));rw[if_pos c'];exact wpAny_bind (wpAny_askSetting (wpAny_pure (wpAny_pure h)))
 ·have c':¬ (model prog w).w.params.followText "set-order"=true:=c;rw[if_neg c] at h;rw[if_neg c'];have hled:t.led=true:=by rw[hl]; simpa using c
  show wpAny _ _ (if (!t.plain && decide (es.size > 1))=true then _ else _) _ _ s;rw[hp,if_neg (by simp)];show wpAny _ _ ((if (!t.led && !es.isEmpty)=true then unsupported "set:maker-not-led" else pure PUnit.unit) >>= _) _ _ s;rw[hled,if_neg (by simp)];exact wpAny_bind (wpAny_pure (wpAny_pure h))
end
section
variable {prog:Program}{w:World}{A:Around}{E:Value->Shared->Prop}{s:Shared}
def z4G {it S:Addr}{o:Obj}{es:Array (Int × Value)}{ep:Nat}{t:SetTable}{slot i slot':Nat}{x:Value}{Q:Option Value->Shared->Prop}(hit:z3v s.heap it S slot i es.size ep)
  (ho:s.heap.get? S=some o) (hd:o.data = .set es ep t) (hf:t.fits es.size=true) (hp:t.plain=true) (hl:t.led = !w.params.followText "set-order") (hx:nxt w S es ep t slot i=some (x,slot'))
  (hQ:∀h',z3v h' it S slot' (i+1) es.size ep->Heap.SameBut it s.heap h'->Q (some x) { s with heap:=h' }):wpAny (model prog w) A (pyNext (.ref it)) Q E s:=by
 obtain⟨oi,hoi,hci,hdi⟩:=id hit;unfold pyNext;refine wpAny_bind (wpAny_attempt (wpAny_callSpecial?_slot (name:=Str.ofString "__next__") hit.typeIs z2l
  (wpAny_call_entry z2l hit.typeIs z6a ?_ (z6R _))))
 show wpAny _ _ (fieldsOf (.ref it) >>= _) _ _ s;refine wpAny_bind (wpAny_fieldsOf hoi hdi ?_);show wpAny _ _ (setEntries S >>= _) _ _ s;unfold setEntries;refine wpAny_bind (wpAny_bind (wpAny_setState_of ho hd hf (wpAny_pure ?_)));rw[if_neg (by simp)];show wpAny _ _ (setNext S (slot:Int).toNat (i:Int).toNat (ep:Int).toNat >>= _) _ _ s;simp only[Int.toNat_natCast];refine wpAny_bind (z5D ho hd hf hp hl ?_);rw[hx];dsimp only;refine wpAny_bind (wpAny_setField hoi hdi (by simp) ?_);have g1:=Heap.get?_update_self (Obj.mapFields (·.setIfInBounds 0 (rawInt (slot':Int)))) hoi (Obj.isFreed_of_fields (Obj.data_mapFields hdi _));refine wpAny_bind (wpAny_setField g1 (Obj.data_mapFields hdi _) (by simp) ?_);refine wpAny_pure ⟨x,rfl,wpAny_pure (hQ _ ?_ ((Heap.SameBut.update ..).trans (Heap.SameBut.update ..)))⟩;refine⟨_,Heap.get?_update_self _ g1 (Obj.isFreed_of_fields (Obj.data_mapFields (Obj.data_mapFields hdi _) _)),((Obj.cls_mapFields ..).trans (Obj.cls_mapFields ..)).trans hci,?_⟩;rw[Obj.data_mapFields (Obj.data_mapFields hdi _)];simp[rawInt]
def z5c {it S:Addr}{o:Obj}{es:Array (Int × Value)}{ep:Nat}{t:SetTable}{slot i:Nat}{Q:Option Value->Shared->Prop}(hh:A.handled=none)(hit:z3v s.heap it S slot i es.size ep)
  (ho:s.heap.get? S=some o) (hd:o.data = .set es ep t) (hf:t.fits es.size=true) (hp:t.plain=true) (hl:t.led = !w.params.followText "set-order") (hx:nxt w S es ep t slot i=none)
  (hQ:∀h',Heap.ExtBut it s.heap h'->Q none { s with heap:=h' }):wpAny (model prog w) A (pyNext (.ref it)) Q E s:=by
 obtain⟨oi,hoi,hci,hdi⟩:=id hit;unfold pyNext;refine wpAny_bind (wpAny_attempt (wpAny_callSpecial?_slot (name:=Str.ofString "__next__") hit.typeIs z2l
  (wpAny_call_entry z2l hit.typeIs z6a ?_ (z6R _))))
 show wpAny _ _ (fieldsOf (.ref it) >>= _) _ _ s;refine wpAny_bind (wpAny_fieldsOf hoi hdi ?_);show wpAny _ _ (setEntries S >>= _) _ _ s;unfold setEntries;refine wpAny_bind (wpAny_bind (wpAny_setState_of ho hd hf (wpAny_pure ?_)));rw[if_neg (by simp)];show wpAny _ _ (setNext S (slot:Int).toNat (i:Int).toNat (ep:Int).toNat >>= _) _ _ s;simp only[Int.toNat_natCast];refine wpAny_bind (z5D ho hd hf hp hl ?_);rw[hx];dsimp only;refine wpAny_bind (wpAny_setField hoi hdi (by simp) ?_);show wpAny _ _ (newExc (.type "StopIteration") [] >>= _) _ _ _;refine wpAny_bind ?_;simp only[newExc,newTuple];refine wpAny_bind (wpAny_newObj_type ?_ (by size_fits));refine wpAny_bind (m:=firstArgMember _ _) (wpAny_of_eq (a:=Value.none) (by first | rfl | (simp only[firstArgMember]; rfl)) ?_);refine wpAny_newObj_type ?_ (by size_fits);simp only[raiseNew];refine wpAny_bind (wpAny_handled ?_)
 first | rw[show A.in1.handled=none from hh] | rw[hh]
 refine wpAny_bind (wpAny_pure (wpAny_throw ?_));refine wpAny_bind (wpAny_isInstance (T:="StopIteration") (b:=true) ⟨_,Heap.get?_push_size _ rfl,rfl⟩ isSubtype_stop ?_);exact wpAny_pure (hQ _ (((Heap.SameBut.update ..).extBut.push _).push _))
end
def z9U {α:Type}(next:Nat->Nat):∀(n k:Nat) (left:List α) (out:Array α),left.length=n->(pickOrder.go next n k left out).toList.Perm (out.toList++left)
 | 0,k,left,out,h=>by
  rw[List.eq_nil_of_length_eq_zero h,List.append_nil];exact List.Perm.refl _
 | n+1,k,left,out,h=>by
  have hlt:next k % left.length<left.length:=Nat.mod_lt _ (by omega);rw[pickOrder.go,List.getElem?_eq_getElem hlt];refine(z9U next n (k+1) _ _ (by rw[List.length_eraseIdx_of_lt hlt]; omega)).trans ?_;rw[Array.toList_push,List.append_assoc];refine List.Perm.append_left _ ?_;show (left[next k % left.length]::left.eraseIdx (next k % left.length)).Perm left;rw[List.eraseIdx_eq_take_drop_succ];refine(List.perm_middle.symm).trans ?_;rw[<- List.drop_eq_getElem_cons hlt,List.take_append_drop]
def z7Q {α:Type}(next:Nat->Nat)(xs:Array α):(pickOrder next xs).toList.Perm xs.toList:=by
 have:=z9U next xs.size 0 xs.toList #[] (by simp);simpa[pickOrder] using this
def ordE (w:World)(S:Addr)(es:Array (Int × Value))(ep:Nat):Array (Int × Value):=if w.params.followText "set-order"=true then pickOrder (w.params.setOrder S ep) es else es
def z9X (w:World)(S:Addr)(es:Array (Int × Value))(ep:Nat):(ordE w S es ep).toList.Perm es.toList:=by
 unfold ordE
 split
 ·exact z7Q _ _
 ·exact List.Perm.refl _
def z7f (w:World)(S:Addr)(es:Array (Int × Value))(ep:Nat):(ordE w S es ep).size=es.size:=by
 rw[<- Array.length_toList,(z9X w S es ep).length_eq,Array.length_toList]
def z78 (w:World)(t:SetTable)(i:Nat):Nat:=if w.params.followText "set-order"=true then 0 else if i=0 then 0 else t.place.getD (i - 1) 0+1
def z8C {t:SetTable}(hr:Rise t.place){i:Nat}(hi:i<=t.place.size):below t.place (if i=0 then 0 else t.place.getD (i - 1) 0+1)=i:=by
 obtain⟨h1,h2,h3⟩:=z6B hr (if i=0 then 0 else t.place.getD (i - 1) 0+1);generalize below t.place (if i=0 then 0 else t.place.getD (i - 1) 0+1)=k at*
 by_cases e:i=0
 ·subst e;rw[if_pos rfl] at h2
  by_cases z:k=0
  ·exact z
  ·have:=h2 0 (by omega); omega
 ·rw[if_neg e] at h2 h3
  by_cases c:k<i
  ·have:=h3 (i - 1) (by omega) (by omega); omega
  ·by_cases c2:i<k
   ·have a1:=h2 i c2;have a2:=hr (i - 1) i (by omega) (by omega);omega
   ·omega
def zf1 {w:World}{S:Addr}{es:Array (Int × Value)}{ep:Nat}{t:SetTable}(hr:Rise t.place)(hsz:t.place.size=es.size){i:Nat}(hi:i<es.size):
  ∃e,(ordE w S es ep)[i]? = some e/\nxt w S es ep t (z78 w t i) i=some (e.2,z78 w t (i+1)):=by
 have hlt:i<(ordE w S es ep).size:=by rw[z7f]; exact hi
 refine⟨(ordE w S es ep)[i],getElem?_pos _ i hlt,?_⟩;unfold nxt z78
 by_cases c:w.params.followText "set-order"=true
 ·simp only[if_pos c];have e1:ordE w S es ep=pickOrder (w.params.setOrder S ep) es:=by unfold ordE; rw[if_pos c]
  rw[<- e1,getElem?_pos _ i hlt]
  rfl
 ·simp only[if_neg c];have e1:ordE w S es ep=es:=by unfold ordE; rw[if_neg c]
  rw[z8C hr (by omega),getElem?_pos es i hi,zkX (xs:=t.place) (by omega)];simp only[Nat.add_sub_cancel,if_neg (Nat.succ_ne_zero i)]
  congr 1
  simp only[e1]
def zgY {w:World}{S:Addr}{es:Array (Int × Value)}{ep:Nat}{t:SetTable}(hr:Rise t.place)(hsz:t.place.size=es.size):nxt w S es ep t (z78 w t es.size) es.size=none:=by
 unfold nxt z78
 by_cases c:w.params.followText "set-order"=true
 ·simp only[if_pos c];have e1:ordE w S es ep=pickOrder (w.params.setOrder S ep) es:=by unfold ordE; rw[if_pos c]
  rw[<- e1,getElem?_neg _ _ (by rw[z7f]; omega)]
  rfl
 ·simp only[if_neg c];rw[z8C hr (by omega),getElem?_neg es es.size (by omega)]
def z9n:entryFor table "set_iterator.__iter__"=some Builtin.«dict_keyiterator.__iter__»:=
 entryFor_alias (id':="dict_keyiterator.__iter__") (by kernel_rfl) rfl (by decide +kernel) (by kernel_rfl)
def zaE (a:Value):argsOk "set_iterator.__iter__" ⟨[a],[]⟩:=by unfold argsOk; kernel_rfl
section
variable {prog:Program}{w:World}{A:Around}{E:Value->Shared->Prop}{s:Shared}
def z73 {it S:Addr}{slot i n ep:Nat}{Q:Value->Shared->Prop}(hit:z3v s.heap it S slot i n ep)(h:Q (.ref it) s):wpAny (model prog w) A (pyIter (.ref it)) Q E s:=by
 refine wpAny_pyIter_slot hit.typeIs z6C (wpAny_call_entry z6C hit.typeIs z9n ?_ (zaE _));show wpAny _ _ (ret (.ref it)) _ _ s;exact wpAny_pure ⟨_,rfl,"set_iterator",_,hit.typeIs,z2l.lookup,h⟩
def Walks.set (hh:A.handled=none)(I S:Addr)(hne:S≠I){o:Obj}{es:Array (Int × Value)}{ep:Nat}{t:SetTable}(hd:o.data = .set es ep t)(hf:t.fits es.size=true)(hp:t.plain=true)(hl:t.led = !w.params.followText "set-order")(hr:Rise t.place)(hsz:t.place.size=es.size):
  Walks prog w A I [I,S] [I] es.size (λi v=>∃e,(ordE w S es ep)[i]? = some e/\v=e.2) (λi h=>z3v h I S (z78 w t i) i es.size ep/\h.get? S=some o) where
 sub:=λb hb=>by simp at hb; simp[hb]
 frame:=λi h h' st hk=>⟨let ⟨o',g1,g2⟩:=st.1; ⟨o',hk I (by simp) _ g1,g2⟩,hk S (by simp) _ st.2⟩
 item:=λi s Q E hi st hQ=>by
  obtain⟨e,e1,e2⟩:=zf1 (w:=w) (S:=S) (ep:=ep) hr hsz hi;refine z4G st.1 st.2 hd hf hp hl e2 λh' hit' hs' =>?_;exact hQ _ h' s.toks ⟨e,e1,rfl⟩ ⟨hit',hs'.extBut S _ hne st.2⟩ λb o hb e=>hs'.extBut b o (λh=>hb (by simp[h])) e
 done:=λs Q E st hQ=>z5c hh st.1 st.2 hd hf hp hl (zgY hr hsz) λh' he'=>hQ h' s.toks λb o hb e=>he' b o (λh=>hb (by simp[h])) e
 self:=λ_ _ _ _ st hQ=>z73 st.1 hQ
end
section
variable {prog:Program}{w:World}{A:Around}{E:Value->Shared->Prop}{s:Shared}
def zbe {S:Addr}{o:Obj}{es:Array (Int × Value)}{ep:Nat}{t:SetTable}{Q:List Value->Shared->Prop}(hh:A.handled=none)(ho:s.heap.get? S=some o)(hc:o.cls = .type "set")(hd:o.data = .set es ep t)(hf:t.fits es.size=true)(hp:t.plain=true)(hl:t.led = !w.params.followText "set-order")(hr:Rise t.place)(hsz:t.place.size=es.size)(hz:es.size<=sizeLine)
  (h:∀s',(∀b o,s.heap.get? b=some o->s'.heap.get? b=some o)->s'.gens=s.gens->s'.drawn=s.drawn->s'.os=s.os->s.toks<=s'.toks->Q ((ordE w S es ep).toList.map (·.2)) s'):wpAny (model prog w) A (collect (.ref S)) Q E s:=by
 have hlt:S<s.heap.objs.size:=Heap.lt_size ho;unfold collect;refine wpAny_bind (wpAny_runValue (codeAny_builtin F.entry_proto_collect ?_));rw[Around.under_plainId F.plain_proto_collect _];show wpAny _ A.in1 (newList [] >>= λl=>again (.builtin "list.__iadd__" ⟨[l,.ref S],[]⟩)) _ _ s;refine wpAny_bind (wpAny_newObj_type ?_);refine wpAny_pure ⟨plainId_quiet F.plain_list_iadd _,codeAny_builtin F.entry_list_iadd ?_⟩;rw[Around.under_plainId F.plain_list_iadd _];show wpAny _ A.in1 (Builtin.List.listExtendWith (.ref s.heap.objs.size) (.ref S) (.ref s.heap.objs.size)) _ _ _;unfold Builtin.List.listExtendWith;have ho1:(s.heap.push { cls :=.type "list",data :=.seq ([]:List Value).toArray }).get? S=some o:=Heap.get?_push_of_some _ ho;have hT1:Shared.TypeIs { s with heap:=s.heap.push { cls :=.type "list",data :=.seq ([]:List Value).toArray } } (.ref S) "set":=⟨o,ho1,hc⟩
 refine wpAny_bind (wpAny_typeOf hT1 ?_);have h1:Builtin.List.listSameRef (.ref s.heap.objs.size) (.ref S)=false:=by simp[Builtin.List.listSameRef]; exact Nat.ne_of_gt hlt
 have h2:(Value.type "set" == Value.type "list")=false:=by decide
 have h3:(Value.type "set" == Value.type "tuple")=false:=by decide
 simp only[h1,h2,h3,Bool.or_false,Bool.false_eq_true,if_false];refine wpAny_bind (z6U ho1 hc hd hf hp ?_);refine wpAny_bind (wpAny_holding ?_);generalize hH:s.heap.push { cls :=.type "list",data :=.seq ([]:List Value).toArray }=H at*;have hHs:H.objs.size=s.heap.objs.size+1:=by rw[<- hH,Heap.size_push]
 dsimp only;have hT2:Shared.TypeIs { s with heap:=H.push { cls :=.type "set_iterator",data :=.fields #[.int 0 0,.int 0 0,.ref S,.int es.size 0,.int ep 0] } } (.ref S) "set":=⟨o,Heap.get?_push_of_some _ ho1,hc⟩
 unfold Builtin.List.listLengthHint;refine wpAny_bind (wpAny_specialOf hT2 F.slot_set_len.lookup ?_)
 wp_delta
 refine wpAny_bind (wpAny_isInstance (b:=true) hT2 (by rw[isSubtype_type]; kernel_rfl) ?_);show wpAny _ A.in1 (typeOf (Value.ref S) >>= _) _ _ _;refine wpAny_bind (wpAny_typeOf hT2 ?_);refine wpAny_pure ?_;rw[if_pos (by decide)];refine wpAny_bind (wpAny_rule ?_);refine wpAny_bind ?_;show wpAny _ A.in1 (updateSeq s.heap.objs.size (·.push .none) >>= λ_=>updateSeq s.heap.objs.size (·.pop)) _ _ _;generalize hO:({ cls :=.type "set_iterator",data :=.fields #[.int 0 0,.int 0 0,.ref S,.int es.size 0,.int ep 0] }:Obj)=io at*;have hS₁:(H.push io).get? s.heap.objs.size=some { cls :=.type "list",data :=.seq ([]:List Value).toArray }:=Heap.get?_push_of_some _ (hH ▸ Heap.get?_push_size _ rfl);refine wpAny_bind (wpAny_updateSeq hS₁ rfl ?_);have hS₂:=Heap.get?_update_self (Obj.mapSeq (·.push Value.none)) hS₁ rfl;refine wpAny_updateSeq hS₂ rfl ?_;have hS₃:=Heap.get?_update_self (Obj.mapSeq (·.pop)) hS₂ rfl;have oth:∀b o,b≠s.heap.objs.size->(H.push io).get? b=some o->(((H.push io).update s.heap.objs.size (Obj.mapSeq (·.push Value.none))).update s.heap.objs.size (Obj.mapSeq (·.pop))).get? b=some o:=
  λb o hb e=>(Heap.get?_update_other _ _ (Ne.symm hb)).trans ((Heap.get?_update_other _ _ (Ne.symm hb)).trans e)
 have hneS:S≠s.heap.objs.size:=Nat.ne_of_lt hlt;have hneI:H.objs.size≠s.heap.objs.size:=by rw[hHs]; exact Nat.ne_of_gt (Nat.lt_succ_self _)
 have hSI:S≠H.objs.size:=by rw[hHs]; exact Nat.ne_of_lt (Nat.lt_succ_of_lt hlt)
 have hSf:s.heap.objs.size ∉ [H.objs.size,S]:=by
  simp only[List.mem_cons,List.not_mem_nil,or_false,not_or];exact⟨Ne.symm hneI,Ne.symm hneS⟩
 have hio:(H.push io).get? H.objs.size=some io:=Heap.get?_push_size _ (by rw[<- hO]; rfl);refine wpAny_pure ⟨plainId_quiet F.plain_extend_loop _,codeAny_extend_loopS (Walks.set (A:=A.in1) (w:=w) (prog:=prog) hh H.objs.size S hSI hd hf hp hl hr hsz).toS hz _ hSf _ es.size 0 _ _ _ rfl (Nat.zero_le _)
  ⟨⟨io,oth _ _ hneI hio,by rw[<- hO],by rw[<- hO]; simp[z78]⟩,oth _ _ hneS (Heap.get?_push_of_some _ ho1)⟩ hS₃ (ItemsOf.nil _) λs' acc' c' hm hS' hacc =>?_⟩
 show wpAny _ A (load s.heap.objs.size >>= _) _ _ s';refine wpAny_bind (wpAny_load hS' ?_);have hq:acc'.toList=(ordE w S es ep).toList.map (·.2):=by
  apply List.ext_getElem?;intro k;rw[Array.getElem?_toList,List.getElem?_map,Array.getElem?_toList]
  by_cases hk:k<es.size
  ·have hk':k<acc'.size:=by rw[hacc.1]; exact hk
   obtain⟨e,e1,e2⟩:=hacc.2 k acc'[k] (getElem?_pos acc' k hk');rw[getElem?_pos acc' k hk',e1,e2]; rfl
  ·rw[getElem?_neg acc' k (by rw[hacc.1]; exact hk),getElem?_neg (ordE w S es ep) k (by rw[z7f]; exact hk)]; rfl
 have hfin:=h s' (λb ob e=>hm.heap b ob (λhb =>?_) (oth b ob (Nat.ne_of_lt (Heap.lt_size e)) (Heap.get?_push_of_some _ (hH ▸ Heap.get?_push_of_some _ e)))) hm.gens hm.drawn hm.os hm.toks
 ·rw[<- hq] at hfin;exact wpAny_pure hfin
 ·have hlt:=Heap.lt_size e
  rcases List.mem_cons.mp hb with h | h
  ·exact absurd hlt (h ▸ Nat.lt_irrefl _)
  ·rw[List.mem_singleton.mp h,hHs] at hlt; exact absurd hlt (Nat.not_lt.mpr (Nat.le_succ _))
end
section
variable {prog:Program}{w:World}{A:Around}{E:Value->Shared->Prop}{s:Shared}
def zco {k:List Int}{vs:List Value}(h:ItemsAre (intKind prog w) k vs):IntsAre vs k:=by
 induction h with
 | nil=>exact .nil
 | cons h1 _ ih=>
  obtain⟨t,rfl⟩:=Value.isInt_shape h1;exact .cons _ _ ih
def TK.ti {h:Heap}{k:List Int}{b:Addr}(x:TK prog w h k b):Tim.TI h (.ref b) k:=by
 obtain⟨o,z0d,n,h1,h2,h3,h4⟩:=x;exact⟨b,o,z0d,n,rfl,h1,h2,h3,zco h4⟩
def zhv {h:Heap}{v:Value}{k k':List Int}(x:Tim.TI h v k)(y:Tim.TI h v k'):k=k':=by
 obtain⟨a,o,z0d,n,e,h1,h2,h3,h4⟩:=x;obtain⟨a',o',items',n',e',g1,g2,g3,g4⟩:=y;rw[e] at e'; cases e';rw[h1] at g1; cases g1;rw[h3] at g3; cases g3;exact(IntsAre.nums h4).symm.trans (IntsAre.nums g4)
def z3w (h:Heap)(v:Value):List Int:=by
 classical exact if c:∃k,Tim.TI h v k then c.choose else []
def z5R {h:Heap}{v:Value}{k:List Int}(x:Tim.TI h v k):z3w h v=k:=by
 unfold z3w;have c:∃k,Tim.TI h v k:=⟨k,x⟩
 rw[dif_pos c];exact zhv c.choose_spec x
def zei {M:Value->Prop}{h:Heap}{l:List Value}{m:List (List Int)}(t:Two (IsK prog w M h) l m):l.map (z3w h)=m:=by
 induction t with
 | nil=>rfl
 | cons h1 _ ih=>
  obtain⟨_,b,rfl,z⟩:=h1;rw[List.map_cons,ih,z5R (TK.ti z)]
def zc9 {M:Value->Prop}{S:Addr}{kl:List (List Int)}{Q:Value->Shared->Prop}(hh:A.handled=none)(x:SetK prog w M s.heap S kl)(hne:∀k∈kl,k≠[])(hz:kl.length<64)
  (h:∀s' (out:List Value),(∀b o,s.heap.get? b=some o->s'.heap.get? b=some o)->s'.gens=s.gens->s'.drawn=s.drawn->s'.os=s.os->s.toks<=s'.toks->
   (out.map (z3w s.heap)).Perm kl->(∀v∈out,M v/\Tim.TI s.heap v (z3w s.heap v))->(out.map (z3w s.heap)).Pairwise (λa b=>HT.z2h b a=false)->
   ∀D,s.heap.get? D=none->(∃e,s'.heap.get? D=some (seqObj "list" out.toArray e))->Q (.ref D) s'):wpAny (model prog w) A (call (.builtin "sorted") [.ref S]) Q E s:=by
 obtain⟨L,hL,h2,hlen⟩:=x.len;obtain⟨o,es,ep,t,y,_⟩:=hL.ex;have esz:es.size=L.length:=by rw[y.tab.es]; simp
 have hkeys:=zei h2;have hti:∀v∈L.map (·.2.2),Tim.TI s.heap v (z3w s.heap v):=λv hv=>by
  obtain⟨k,_,_,b,rfl,z⟩:=h2.mem_left hv;rw[z5R (TK.ti z)]; exact TK.ti z
 have hvs:((ordE w S es ep).toList.map (·.2)).Perm (L.map (·.2.2)):=by
  refine((z9X w S es ep).map (·.2)).trans ?_;rw[y.tab.es];simp only[List.map_map];exact List.Perm.refl _
 refine Tim.zaN (key:=z3w s.heap) λE' =>?_;refine zbe (A:=A.in1) hh y.get y.ex.1 y.data y.fits y.plain y.led y.tab.riseP (by rw[y.tab.place,esz]; simp) (Nat.le_trans (show es.size<=64 by omega) (by decide)) λs1 k1 g1 g2 g3 g4 =>?_;refine⟨by rw[hvs.length_eq,List.length_map]; lia,λv hv =>?_,λout p1 p2 h' keep hD =>?_⟩
 ·have hv':=hvs.mem_iff.mp hv;refine⟨(hti v hv').keep λb o g _=>k1 b o g,hne _ ?_⟩;rw[<- hkeys];exact List.mem_map.mpr ⟨v,hv',rfl⟩
 ·refine h { s1 with heap:=h' } out (λb o g=>keep b o (k1 b o g)) g1 g2 g3 g4 ?_ (λv hv=>⟨(h2.mem_left (hvs.mem_iff.mp (p1.mem_iff.mp hv))).choose_spec.2.1,hti v (hvs.mem_iff.mp (p1.mem_iff.mp hv))⟩) (List.pairwise_map.mpr p2) s1.heap.objs.size ?_ hD
  ·rw[<- hkeys];exact(p1.trans hvs).map _
  ·cases hq:s.heap.get? s1.heap.objs.size with
   | none=>rfl
   | some o=>exact absurd (Heap.lt_size (k1 _ _ hq)) (Nat.lt_irrefl _)
end
end Tab
namespace Pu
open PySem PySem.Spec PyProof.Rows L2 Tab
def SetO (P:Program)(w:World)(a:Addr)(L:List (Rw Value))(h:Heap):Prop:=∃o es ep t,h.get? a=some o/\o.ExactSet/\o.data = .set es ep t/\TabW t es L/\L.length<=t.mask/\t.mask<=8191/\t.plain=true/\t.led=(!w.params.followText "set-order")/\L.length*5<t.mask*3
def Mem (K:W.Frag)(P:Program)(w:World)(G:Hp)(L:List (Rw Value))(kl:List (List Int)):Prop:=Two (λ(r:Rw Value) (k:List Int)=>∃b,r.2.2 = .ref b/\SqT K G b (k.map V.int)/\r.2.1=tupleKeyHash (intKind P w) k) L kl
def Tis (K:W.Frag)(G:Hp)(xs:List V)(ks:List (List Int)):Prop:=Two (λ(x:V) (k:List Int)=>∃b,x = .ref b/\SqT K G b (k.map V.int)) xs ks
def MemV (K:W.Frag)(G:Hp)(v:Value):Prop:=∃b k,v = .ref b/\SqT K G b ((k:List Int).map V.int)
def zcI {α β:Type}{R:α->β->Prop}{l:List α}{m:List β}(h:Two R l m):l.length=m.length:=by
 induction h with
 | nil=>rfl
 | cons _ _ ih=>simp[ih]
def zcH {α β γ:Type}{R:α->β->Prop}{f:γ->α}:∀{l:List γ}{m:List β},Two R (l.map f) m->Two (λc b=>R (f c) b) l m
 | [],_,h=>by cases h; exact .nil
 | c::l,_,h=>by
  cases h with
  | cons h1 h2=>exact .cons h1 (zcH h2)
def zdD {α β γ:Type}{R:α->β->Prop}{f:γ->α}:∀{l:List γ}{m:List β},Two (λc b=>R (f c) b) l m->Two R (l.map f) m
 | [],_,h=>by cases h; exact .nil
 | c::l,_,h=>by
  cases h with
  | cons h1 h2=>exact .cons h1 (zdD h2)
def zg7 {α β:Type}{R:α->β->Prop}{S:α->Prop}{l:List α}{m:List β}(h:Two R l m)(a:∀x∈l,S x):Two (λx y=>R x y/\S x) l m:=by
 induction h with
 | nil=>exact .nil
 | cons h1 _ ih=>exact .cons ⟨h1,a _ List.mem_cons_self⟩ (ih λx hx=>a x (List.mem_cons_of_mem _ hx))
def zej {K:W.Frag}{G:Hp}{R:Value->List Int->Prop}(hR:∀b k,SqT K G b (k.map V.int)->R (.ref b) k){xs:List V}{ks:List (List Int)}(t:Tis K G xs ks):∀{its:List Value},Vals xs its->Two R its ks:=by
 unfold Tis at t
 induction t with
 | nil=>intro its r; cases r; exact .nil
 | cons h1 _ ih=>
  intro its r;obtain⟨b,rfl,hb⟩:=h1
  cases r with
  | cons r1 r2=>
   cases r1
   exact .cons (hR b _ hb) (ih r2)
def z2o.there {P:Program}{w:World}{H:Hp}{h:Heap}{a:Addr}{o:HO}(x:z2o P w H h a o):∃u,h.get? a=some u:=by
 cases o with
 | lst xs=>obtain⟨_,_,_,_,e⟩:=x; exact⟨_,e⟩
 | tup xs=>obtain⟨_,_,_,⟨o,e,_⟩,_⟩:=x; exact⟨_,e⟩
 | dK kvs=>obtain⟨_,_,_,_,o,_,_,e,_⟩:=x; exact⟨_,e⟩
 | dT kvs=>obtain⟨_,_,_,_,o,_,_,e,_⟩:=x; exact⟨_,e⟩
 | set S n=>obtain⟨o,_,_,_,e,_⟩:=x; exact⟨_,e⟩
 | ins C dx fs=>obtain⟨_,_,_,e,_⟩:=x; exact⟨_,e⟩
 | own y=>exact x
 | xd fs=>obtain⟨_,⟨_,_,_,e,_⟩,_⟩:=x; exact⟨_,e⟩
 | rng lo hi=>obtain⟨_,_,_,e⟩:=x; exact⟨_,e⟩
 | frz ob u=>obtain⟨e,_⟩:=x; exact⟨_,e⟩
 | tbl ps=>rcases x with e | ⟨_,_,_,_,_,_,_,_,_,_,_,e,_⟩ <;> exact⟨_,e⟩
 | met f y=>exact⟨_,(show h.get? a=some _ from x)⟩
 | ext φ=>obtain⟨_,z,_⟩:=x; exact z
def _root_.L2.HOk.none_of {P:Program}{w:World}{H:Hp}{h:Heap}{a:Addr}(x:HOk P w H h)(e:h.get? a=none):H a=none:=by
 cases q:H a with
 | none=>rfl
 | some u=>
  obtain⟨v,z⟩:=z2o.there (x a u q);rw[e] at z; cases z
def _root_.L2.Inv.laid' {X:Cx}{H:Hp}{pins:List (Addr × Obj)}{σ:L2.St}{s:Shared}{h':Heap}{a:Addr}{o:HO}{t':Nat}(I:Inv X pins σ H s)(k:∀b u,s.heap.get? b=some u->h'.get? b=some u)(hp:s.heap.get? a=none)(new:z2o X.prog X.w (upd H a o) h' a o):
  Inv X pins σ (upd H a o) { s with heap:=h',toks:=t' }:=by
 have hn:=I.hok.none_of hp;have ne:∀b u,s.heap.get? b=some u->b≠a:=λb u e z=>by rw[z,hp] at e; cases e
 have neH:∀b u,H b=some u->b≠a:=λb u e z=>by rw[z,hn] at e; cases e
 refine I.un ⟨λb o e q _ _=>k b o e,λb o e q _ _=>⟨o.slots,k b o e⟩,λb o e q _=>by rw[z0f (ne b o e)]; exact q,λb o e _=>⟨o,k b o e⟩,λb xs e=>by rw[z0f (neH b _ e)]; exact e,λb o u e=>by rw[z0f (neH b _ e)]; exact e,λb ps e=>⟨#[],by rw[z0f (neH b _ e),Array.append_empty]; exact e⟩⟩ λb u e =>?_
 by_cases hb:b=a
 ·subst hb; rw[z0t] at e; cases e; exact new
 ·rw[z0f hb] at e;exact(I.hok b u e).stay (λc v _ q=>k c v q) (λc q=>by rw[z0f (neH c _ q)]; exact q) (λc xs q=>by rw[z0f (neH c _ q)]; exact q) λc _ _ q=>by rw[z0f (neH c _ q)]; exact q
section
variable {X:Cx}{G H:Hp}{pins:List (Addr × Obj)}{σ:L2.St}{s:Shared}
def z8t {P:Program}{w:World}:∀{ns:List Int}{us:List Value},Vals (ns.map V.int) us->ItemsAre (intKind P w) ns us
 | [],_,r=>by cases r; exact .nil
 | n::ns,_,r=>by
  cases r with
  | cons r1 r2=>
   obtain⟨t,rfl⟩:=r1;exact .cons (by simp[intKind,Value.isInt]) (z8t r2)
def zc8 {b:Addr}{k:List Int}(I:Inv X pins σ H s)(g:Same G H)(h:SqT X.K G b (k.map V.int)):TK X.prog X.w s.heap k b:=by
 obtain⟨its,r,⟨o,ho,hc,n,hd⟩,_⟩:=I.tuple (z2r g h);exact⟨o,its.toArray,n,ho,hc,hd,by simpa using z8t r⟩
def zgg {p:Addr}{L:List (Rw Value)}{kl:List (List Int)}(I:Inv X pins σ H s)(g:Same G H)(hp:H p=some (.ext (SetO X.prog X.w p L)))(hm:Mem X.K X.prog X.w G L kl)(nd:kl.Nodup):SetK X.prog X.w (MemV X.K G) s.heap p kl:=by
 obtain⟨o,es,ep,t,h1,h2,h3,h4,h5,h6,h7,h8,h9⟩:SetO X.prog X.w p L s.heap:=(show z2o X.prog X.w H s.heap p (.ext (SetO X.prog X.w p L)) from I.hok p _ hp).1;refine⟨⟨L,⟨o,es,ep,t,⟨h1,h2,h3,h4,h5,h6,h7,h8,λr hr =>?_⟩,h9⟩,zdD (hm.imp λr k ⟨b,e,hb,_⟩=>⟨⟨b,k,e,hb⟩,b,e,zc8 I g hb⟩)⟩,nd⟩;obtain⟨k,_,b,e,hb,hh⟩:=Two.mem_left hm hr;exact⟨b,k,e,zc8 I g hb,hh⟩
def rSet (K:W.Frag)(P:Program)(w:World):List V->Hp->VK->Prop:=λvs H Q=>∃G a xs ks,vs=[.ref a]/\Same G H/\(SqL K G a xs\/SqT K G a xs)/\Tis K G xs ks/\xs.length<=63/\
 ∀p L kl,H p=none->Mem K P w G L kl->kl.Nodup->(∀x,x∈kl↔x∈ks)->Q (.ref p) (upd H p (.ext (SetO P w p L)))
def zfv (hc:X.calm=true)(hu:X.A.units+64<cLine):z2p X (.type "set") (rSet X.K X.prog X.w):=by
 intro pins s σ H xs us Q I rv ⟨G,a,ys,ks,e,g,hS,ht,hl,q⟩;subst e;obtain⟨u,rfl,rx⟩:=z6i rv
 cases rx
 have hh:X.A.handled=none:=I.ok.hd hc;have isk:∀{its:List Value},Vals ys its->Two (IsK X.prog X.w (MemV X.K G) s.heap) its ks:=λr=>zej (λb k hb=>⟨⟨b,k,rfl,hb⟩,b,rfl,zc8 I g hb⟩) ht r;have fin:∀(h':Heap) (tk:Nat) (kl:List (List Int)),SetK X.prog X.w (MemV X.K G) h' s.heap.objs.size kl->(∀x,x∈kl↔x∈ks)->(∀b o,b<s.heap.objs.size->s.heap.get? b=some o->h'.get? b=some o)->EP X pins σ Q (.ref s.heap.objs.size) { s with heap:=h',toks:=tk }:=by
  intro h' tk kl hK hm keep;have keep':∀b o,s.heap.get? b=some o->h'.get? b=some o:=λb o e=>keep b o (Heap.lt_size e) e;obtain⟨L,⟨o,es,ep,t,y,hf⟩,h2⟩:=hK.ex;have so:SetO X.prog X.w s.heap.objs.size L h':=⟨o,es,ep,t,y.get,y.ex,y.data,y.tab,y.room,y.small,y.plain,y.led,hf⟩
  refine⟨.ref s.heap.objs.size,_,I.laid (o :=.ext (SetO X.prog X.w s.heap.objs.size L)) (t':=tk) keep' (Nat.le_refl _) ⟨so,⟨o,y.get⟩,λh1 h2 ⟨o,es,ep,t,z,r⟩ st=>⟨o,es,ep,t,st _ z,r⟩⟩,rfl,q _ L kl (I.hok.fresh (Nat.le_refl _)) ?_ hK.nd hm⟩;refine(zg7 (zcH h2) (S:=λr=>∃b k,r.2.2 = .ref b/\TK X.prog X.w h' k b/\r.2.1=tupleKeyHash (intKind X.prog X.w) k) y.key).imp λr k ⟨⟨⟨b,k1,e1,hb⟩,b2,e2,z2⟩,b3,k3,e3,z3,hk⟩ =>?_;rw[e1] at e2 e3
  cases e2; cases e3
  have z1:TK X.prog X.w h' k1 b:=by
   obtain⟨o,it,n,w1,w2⟩:=zc8 I g hb;exact⟨o,it,n,keep' _ _ w1,w2⟩
  have:=z1.inj z2;subst this;have:=z1.inj z3;subst this;exact⟨b,e1,hb,hk⟩
 rcases hS with hS | hS
 ·obtain⟨its,r,pl,hz⟩:=I.list (z2s g hS);have hlen:=r.length;exact z9x (M:=MemV X.K G) (ks:=ks) hh (by lia) pl.isList (by simpa using isk r) (by simp only[List.size_toArray] <;> lia) λh' tk kl hK _ hm keep=>fin h' tk kl hK hm keep
 ·obtain⟨its,r,pl,hz⟩:=I.tuple (z2r g hS);have hlen:=r.length;exact z88 (M:=MemV X.K G) (ks:=ks) hh (by lia) pl (by simpa using isk r) (by simp only[List.size_toArray] <;> lia) λh' tk kl hK _ hm keep=>fin h' tk kl hK hm keep
def zhW (K:W.Frag)(P:Program)(w:World):List V->Hp->VK->Prop:=λvs H Q=>∃G p L kl,vs=[.ref p]/\Same G H/\H p=some (.ext (SetO P w p L))/\Mem K P w G L kl/\kl.Nodup/\(∀k∈kl,k≠[])/\kl.length<=63/\
 ∀D out kl',H D=none->Tis K G out kl'->kl'.Perm kl->kl'.Pairwise (λa b=>HT.z2h b a=false)->Q (.ref D) (upd H D (.lst out))
def zcx (hc:X.calm=true):z2p X (.builtin "sorted") (zhW X.K X.prog X.w):=by
 intro pins s σ H xs us Q I rv ⟨G,p,L,kl,e,g,hp,hm,nd,hne,hz,q⟩;subst e;obtain⟨u,rfl,rx⟩:=z6i rv
 cases rx
 have hn:=z8r;have hle:(63:Nat)<=sizeLine:=by decide
 refine zc9 (M:=MemV X.K G) (I.ok.hd hc) (zgg I g hp hm nd) hne (by lia) λs' out keep g1 g2 g3 g4 perm hti pw D hD he =>?_;obtain⟨e,he⟩:=he;obtain⟨h',g',d',tk',os'⟩:=s';dsimp only at g1 g2 g3 keep he;subst g1; subst g2; subst g3;have hti':∀v∈out,MemV X.K G v:=λv hv=>(hti v hv).1;have hx:∃ys:List V,Vals ys out/\Tis X.K G ys (out.map (z3w s.heap)):=by
  clear perm pw he hti
  induction out with
  | nil=>exact⟨[],.nil,.nil⟩
  | cons v out ih=>
   obtain⟨ys,y1,y2⟩:=ih λv hv=>hti' v (List.mem_cons_of_mem _ hv);obtain⟨b,k,rfl,hb⟩:=hti' v List.mem_cons_self;refine⟨.ref b::ys,.cons rfl y1,.cons ⟨b,rfl,?_⟩ y2⟩;rw[z5R (TK.ti (zc8 I g hb))];exact hb
 obtain⟨ys,y1,y2⟩:=hx;have hl:ys.length=kl.length:=by rw[<- perm.length_eq,List.length_map,y1.length]
 exact⟨.ref D,upd H D (.lst ys),I.laid' (o :=.lst ys) (t':=tk') keep hD ⟨by lia,out,e,y1,he⟩,rfl,q D ys _ (I.hok.none_of hD) y2 perm pw⟩
end
abbrev tupD (k:List Int):D :=.tup (k.map .int)
structure Rows (ks kl:List (List Int)):Prop where
 up:kl.Pairwise (λa b=>HT.z2h a b=true)
 mem:∀x,x∈kl↔x∈ks
def zcT (d:D)(P:List (List Int)->Prop):Prop:=match d with
 | .lst l=>∃ks,l=ks.map tupD/\l.length<=63/\P ks
 | .tup l=>∃ks,l=ks.map tupD/\l.length<=63/\P ks
 | _=>False
def zcb {d:D}{P P':List (List Int)->Prop}(m:∀k,P k->P' k)(h:zcT d P):zcT d P':=by
 cases d with
 | lst l=>obtain⟨ks,a,b,c⟩:=h; exact⟨ks,a,b,m _ c⟩
 | tup l=>obtain⟨ks,a,b,c⟩:=h; exact⟨ks,a,b,m _ c⟩
 | _=>exact h.elim
def zfi (d:D)(Q:DK):Prop:=zcT d λks=>(∀k∈ks,k≠[])/\∀kl,Rows ks kl->Q (.lst (kl.map tupD))
def z8U:Fn:=fn1 zfi λd Q Q' m h=>zcb (λks q=>⟨q.1,λkl z=>m _ (q.2 kl z)⟩) h
section
variable {X:Cx}{K:W.Frag}{mg:Str->Option Value}{E:XK}{G H:Hp}
def z8N:∀{ks:List (List Int)}{xs:List V},RDs K mg G (ks.map tupD) xs->Tis K G xs ks
 | [],_,h=>by rw[List.map_nil,RDs] at h; subst h; exact .nil
 | k::ks,_,h=>by
  rw[List.map_cons,RDs] at h;obtain⟨x,r,rfl,h1,h2⟩:=h;obtain⟨a,ys,rfl,h3,h4⟩:=z4y h1;rw[z8O k h4] at h3;exact .cons ⟨a,rfl,h3⟩ (z8N h2)
def zga:∀{ks:List (List Int)}{xs:List V},Tis K G xs ks->RDs K mg G (ks.map tupD) xs:=by
 intro ks xs h;unfold Tis at h
 induction h with
 | nil=>exact RDs.nil
 | cons h1 _ ih=>
  obtain⟨b,rfl,hb⟩:=h1;exact RDs.cons (RD.ofT hb (z9c _)) ih
def zeq {d:D}{v:V}{P:List (List Int)->Prop}(r:RD K mg G d v)(h:zcT d P):∃a xs ks,v = .ref a/\(SqL K G a xs\/SqT K G a xs)/\Tis K G xs ks/\xs.length<=63/\P ks:=by
 cases d with
 | lst l=>
  obtain⟨ks,rfl,hl,q⟩:=h;obtain⟨a,xs,rfl,h1,h2⟩:=z3k r;exact⟨a,xs,ks,rfl,.inl h1,z8N h2,by rw[h2.len]; exact hl,q⟩
 | tup l=>
  obtain⟨ks,rfl,hl,q⟩:=h;obtain⟨a,xs,rfl,h1,h2⟩:=z4y r;exact⟨a,xs,ks,rfl,.inr h1,z8N h2,by rw[h2.len]; exact hl,q⟩
 | _=>exact h.elim
def z8i {kl:List (List Int)}(nd:kl.Nodup)(h:kl.Pairwise (λa b=>HT.z2h b a=false)):kl.Pairwise (λa b=>HT.z2h a b=true):=by
 induction kl with
 | nil=>exact .nil
 | cons a l ih=>
  rw[List.pairwise_cons] at h ⊢;rw[List.nodup_cons] at nd;refine⟨λb hb =>?_,ih nd.2 h.2⟩
  cases z:HT.z2h a b with
  | true=>rfl
  | false=>
   have e:a=b:=Tim.zb8 a b z (h.1 b hb);exact absurd (e ▸ hb) nd.1
def z5N {α:Type}[DecidableEq α]:∀{l m:List α},l.Nodup->(∀x∈l,x∈m)->l.length<=m.length
 | [],_,_,_=>Nat.zero_le _
 | a::l,m,nd,h=>by
  rw[List.nodup_cons] at nd;have ha:=h a List.mem_cons_self;have:=z5N (m:=m.erase a) nd.2 λx hx=>(List.mem_erase_of_ne (λ(e:x=a)=>nd.1 (by rw[<- e]; exact hx))).mpr (h x (List.mem_cons_of_mem _ hx));rw[List.length_erase_of_mem ha] at this;have:=List.length_pos_of_mem ha;simp only[List.length_cons];lia
def zfe {ks kl:List (List Int)}(nd:kl.Nodup)(h:∀x,x∈kl↔x∈ks):kl.length<=ks.length:=z5N nd λx hx=>(h x).mp hx
def zch {e:Expr}{x:Ex}{p1 p2 p3 p4:Pos}(hu:X.A.units+64<cLine)(hc:X.calm=true)(hg:Gl X "sorted")(hm:X.mg "sorted"=none)(hg2:Gl X "set")(hm2:X.mg "set"=none)(ha:QXA X E [e] [x])
  (hs1:starEach [e] X.env=(false,eval e X.env)::starEach [] X.env:=by rfl) (hs2:starEach [.Call (.Name "set" p2) [e] [] p3] X.env=(false,eval (.Call (.Name "set" p2) [e] [] p3) X.env)::starEach [] X.env:=by rfl):QF X E (.Call (.Name "sorted" p1) [.Call (.Name "set" p2) [e] [] p3] [] p4) (.op z8U [x]):=
 QE.imp (z8R (zcx hc) hg hm (by rfl) (z7e (z5J (zfv hc hu) hg2 hm2 (by rfl) ha (by decide) (by decide) hs1 (by rfl)) zbz hs2) (by decide) (by decide) hs2 (by rfl)) λσ H Q ⟨G,ρ,Q0,X0,hs,ab,hr,hk,hx⟩=>by
  refine⟨G,ρ,λds=>z8U.run ds Q0 X0,X0,hs,ab,hr,λds vs G1 H1 q g1 g2 g3 rds =>?_,hx⟩;obtain⟨d,rfl,q'⟩:=z58 q;obtain⟨v,rfl,rd⟩:=rds1 rds;obtain⟨a,xs,ks,rfl,h1,h2,h3,hne,h4⟩:=zeq rd q';refine⟨G1,a,xs,ks,rfl,g2,h1,h2,h3,λp L kl hp hM nd hmem =>?_⟩;have s1:Same H1 (upd H1 p (.ext (SetO X.prog X.w p L))):=z0X hp _;have hlen:ks.length=xs.length:=(zcI h2).symm;refine⟨G1,p,L,kl,rfl,z0c g2 s1,z0t,hM,nd,λk hk=>hne k ((hmem k).mp hk),by have:=zfe nd hmem; lia,λD out kl' hD ht pm pw =>?_⟩;have hD1:H1 D=none:=by
   cases z:H1 D with
   | none=>rfl
   | some o=>rw[s1 D o z] at hD; cases hD
  have hD0:H D=none:=by
   cases z:H D with
   | none=>rfl
   | some o=>rw[g3 D o z] at hD1; cases hD1
  have s2:=z0X (H:=upd H1 p (.ext (SetO X.prog X.w p L))) hD (.lst out);refine hk (.lst (kl'.map tupD)) D G1 _ (h4 kl' ⟨z8i (pm.nodup_iff.mpr nd) pw,λz=>by rw[pm.mem_iff]; exact hmem z⟩) g1 (z0c g2 (z0c s1 s2)) (z0c g3 (z0c s1 s2)) hD0 (z2N g2 hD1) ⟨out,z0t,zga ht⟩
end
end Pu
namespace Rev
open PySem PyProof.Rows
def zj6:typeLookup (.type "list_reverseiterator") "__len__"=pure none:=by
 rw[typeLookup_type,builtinLookup_eq_fast]
 kernel_rfl
def zff:typeLookup (.type "list_reverseiterator") "__length_hint__"=pure (some (.builtin "list_reverseiterator.__length_hint__")):=by
 rw[typeLookup_type,builtinLookup_eq_fast]
 kernel_rfl
section
variable {prog:Program}{w:World}{A:Around}{E:Value->Shared->Prop}{s:Shared}{R:Result->Shared->Prop}{r:Addr}
def zh9 {Q:Bool->Shared->Prop}(ty:s.TypeIs (.ref r) "list_reverseiterator")(q:Q false s):wpAny (model prog w) A (Builtin.List.listLengthHint (.ref r)) Q E s:=by
 unfold Builtin.List.listLengthHint;refine wpAny_bind (wpAny_specialOf ty zj6 ?_);show wpAny _ A (specialOf (.ref r) (Str.ofString "__length_hint__") >>= _) Q E s;refine wpAny_bind (wpAny_specialOf ty zff ?_);generalize hn:("list_reverseiterator.__length_hint__":String)=n0
 wp_delta
 rw[show splitId n0=some ("list_reverseiterator","__length_hint__") from by rw[<- hn]; decide +kernel];refine wpAny_bind (wpAny_isInstance (b:=true) ty (by rw[isSubtype_type]; kernel_rfl) ?_);subst hn;exact wpAny_pure q
def zcs {fp wr:List Addr}{G:Array GenState->Array GenState->Prop}{n:Nat}{P:Nat->Value->Prop}{St:Nat->Shared->Prop}(W:WalksS prog w A.in1 r fp wr G n P St)(ty:∀i s,St i s->s.TypeIs (.ref r) "list_reverseiterator")(S:Addr)(res:Value)(c0:Nat)(st:St 0 s)(out:S ∉ fp)(mine:r∈fp)(hz:n<=sizeLine)
  (at_:s.heap.get? S=some { cls :=.type "list",data :=.seq #[] c0 }) (q:∀s' acc c,Moved (S::wr) G s s'->s'.heap.get? S=some { cls :=.type "list",dict:=none,data :=.seq acc c,slots := #[] }->ItemsOf P acc n->R (.ok (.ret res)) s'):
  wpAny (model prog w) A.in1 (Builtin.List.listExtendWith (.ref S) (.ref r) res) (λfin s'=>match fin with | .done f=>R (.ok f) s' | .again c'=>c'.quiet=true/\codeAny (model prog w) A c' R s') (λe s'=>R (.error e) s') s:=by
 have ne:S≠r:=λe=>out (by rw[e]; exact mine);unfold Builtin.List.listExtendWith;refine wpAny_bind (wpAny_typeOf (ty 0 s st) ?_);have k1:Builtin.List.listSameRef (.ref S) (.ref r)=false:=by simp[Builtin.List.listSameRef,ne]
 have k2:(Value.type "list_reverseiterator" == .type "list")=false:=by decide
 have k3:(Value.type "list_reverseiterator" == .type "tuple")=false:=by decide
 rw[k1,k2,k3];refine wpAny_bind (W.self 0 s _ _ st (wpAny_bind (wpAny_holding (zh9 (ty 0 s st) ?_))));exact wpAny_pure ⟨plainId_quiet F.plain_extend_loop _,codeAny_extend_loopS W hz S out res n 0 s #[] c0 rfl (Nat.zero_le _) st at_ (ItemsOf.nil P) q⟩
def zfh {fp wr:List Addr}{G:Array GenState->Array GenState->Prop}{n:Nat}{P:Nat->Value->Prop}{St:Nat->Shared->Prop}(W:WalksS prog w A.in1 r fp wr G n P St)(ty:∀i s,St i s->s.TypeIs (.ref r) "list_reverseiterator")(S:Addr)(st:St 0 s)(out:S ∉ fp)(mine:r∈fp)(hz:n<=sizeLine)
  (at_:s.heap.get? S=some { cls :=.type "list",data :=.seq #[] }) (q:∀s' acc c,Moved (S::wr) G s s'->s'.heap.get? S=some { cls :=.type "list",dict:=none,data :=.seq acc c,slots := #[] }->ItemsOf P acc n->R (.ok (.ret .none)) s'):
  wpAny (model prog w) A.in1 (Builtin.«list.__init__» ⟨[.ref S,.ref r],[]⟩) (λfin s'=>match fin with | .done f=>R (.ok f) s' | .again c'=>c'.quiet=true/\codeAny (model prog w) A c' R s') (λe s'=>R (.error e) s') s:=by
 show wpAny _ A.in1 (Builtin.List.listItems (.ref S) >>= λold=>Builtin.List.listUpdate (.ref S) (λ_ => #[]) >>= λ_=>letGo old.toList.reverse >>= λ_=>Builtin.List.listExtendWith (.ref S) (.ref r) .none) _ _ s;unfold Builtin.List.listItems;refine wpAny_bind (wpAny_bind (wpAny_seqItems at_ rfl (wpAny_pure ?_)));refine wpAny_bind (m:=updateSeq S λ_ => #[]) (wpAny_updateSeq at_ rfl (wpAny_bind (wpAny_letGo ?_)));have keep:∀b o,b≠S->s.heap.get? b=some o->(s.heap.update S (Obj.mapSeq λ_=>(#[]:Array Value))).get? b=some o:=λb o z e=>by rw[Heap.get?_update_other _ _ (Ne.symm z)]; exact e
 refine zcs W ty S .none _ (W.frame 0 s _ s.toks st (Nat.le_refl _) λb hb o e=>keep b o (λz=>out (z ▸ hb)) e) out mine hz (Heap.get?_update_self _ at_ rfl) λs' acc c mv e it=>q s' acc c ?_ e it;exact Moved.trans W.gtrans ((Moved.refl W.grefl).then_heap (Nat.le_refl _) λb o hb e=>keep b o (λz=>hb (by rw[z]; exact List.mem_cons_self)) e) mv
end
end Rev
namespace Pu
open PySem PySem.Spec PyProof.Rows L2 Tab
def Ex.callv (T:Nat->Fn)(i:Nat)(es:List Ex):Ex:=⟨λρ Q Xp=>∃n,ρ.get i=some (.fn n)/\runs es ρ (λds=>(T n).run ds Q Xp) Xp,λρ Q Q' Xp X' m mx ⟨n,e,q⟩=>⟨n,e,z4L es ρ _ _ Xp X' (λds q1=>(T n).mono ds Q Q' Xp X' m mx q1) mx q⟩⟩
def FTab (P:Program)(w:World)(K:W.Frag)(mg:Str->Option Value)(base:Heap)(CX:CXT)(k:Nat)(T:Nat->Fn):Prop:=∀n f,mg (z6M n)=some (.ref f)->∃j fd ps,j<=k/\FnOk P w K mg base CX j f fd ps (spP K mg (T n))/\PySem.W.keepIn K (.ref f)=true/\z8a K fd ps []
def FTab.mk {P:Program}{w:World}{K:W.Frag}{mg:Str->Option Value}{base:Heap}{CX:CXT}{k:Nat}{T:Nat->Fn}(hz:mg ""=none)
  (h:∀n<4,∀f,mg (z6M n)=some (.ref f)->∃j fd ps,j<=k/\FnOk P w K mg base CX j f fd ps (spP K mg (T n))/\PySem.W.keepIn K (.ref f)=true/\z8a K fd ps []):FTab P w K mg base CX k T:=λn f e=>by
 by_cases hn:n<4
 ·exact h n hn f e
 ·rw[show z6M n="" from by
   match n,hn with
   | 0,h=>exact absurd (by decide) h
   | 1,h=>exact absurd (by decide) h
   | 2,h=>exact absurd (by decide) h
   | 3,h=>exact absurd (by decide) h
   | n+4,_=>rfl,hz] at e
  cases e
def _root_.L2.Cal.tab {P:Program}{w:World}{K:W.Frag}{mg:Str->Option Value}{base:Heap}{CX:CXT}{j k:Nat}{x:Str}{ps:List Str}{F:Fn}(C:Cal P w K mg base CX j x ps (spP K mg F))(h:j<=k)(f:Addr)(e:mg x=some (.ref f)):∃j fd ps,j<=k/\FnOk P w K mg base CX j f fd ps (spP K mg F)/\PySem.W.keepIn K (.ref f)=true/\z8a K fd ps []:=by
 obtain⟨f',fd,F',hm,hk,hb⟩:=C.ex;rw[hm] at e; cases e;exact⟨j,fd,ps,h,F',hk,hb⟩
section
variable {X:Cx}{E:XK}{CX:CXT}{e:Expr}{es:List Expr}{xs:List Ex}{pos:Pos}
def zhA (X:Cx)(CX:CXT)(E:XK)(i:Nat)(t:TA):TE:=λσ H Q=>∃f fd ps sp k,σ[i]? = some (some (.ref f))/\FnOk X.prog X.w X.K X.mg X.base CX k f fd ps sp/\Room k X.A/\PySem.W.keepIn X.K (.ref f)=true/\z8a X.K fd ps []/\t σ H λvs H1=>sp (vs++[]) H1 Q E
def zeN {x:Str}{i:Nat}{p:Pos}{t:TA}(hx:z6S CX X E)(hv:PE X (.Name x p) (tVar i))(ha:PA X (e::es) t)(he:starEach (e::es) X.env=(false,eval e X.env)::starEach es X.env:=by rfl)(hpl:(backTo pos (starEach es X.env)).any (·.1)=false:=by rfl):
  PE X (.Call (.Name x p) (e::es) [] pos) (zhA X CX E i t):=by
 intro pins s σ H Q I ⟨f,fd,ps,sp,k,hσ,F,hr,hk,hb,h⟩;refine wpAny_Call_Name_kw (thn (hv pins s σ H (λv H1=>v = .ref f/\t σ H1 λvs H1=>sp (vs++[]) H1 Q E) I ⟨_,hσ,rfl,h⟩) λu s1 ⟨v,H1,I1,rv,ev,q⟩ =>?_);subst ev
 cases rv
 exact PySem.W.callWith_K (h₀:=X.base) I1.ok.mod.kin hk (thn (ha pos pins s1 σ H1 _ I1 q) λus s2 ⟨vs,H2,I2,r,q2⟩=>⟨I2.kIn,zfL F hr hb .nil hx I2 r q2⟩) he hpl
def zeC {T:Nat->Fn}{k:Nat}{x:Str}{i:Nat}{p:Pos}(tb:FTab X.prog X.w X.K X.mg X.base CX k T)(hr:Room k X.A)(hx:z6S CX X E)(hv:QE X (.Name x p) (tVar i))(ha:QXA X E (e::es) xs)
  (he:starEach (e::es) X.env=(false,eval e X.env)::starEach es X.env:=by rfl) (hpl:(backTo pos (starEach es X.env)).any (·.1)=false:=by rfl):QX X E (.Call (.Name x p) (e::es) [] pos) (.callv T i xs):=
 ⟨PE.imp (zeN hx hv.p ha.p he hpl) λσ H Q ⟨G,ρ,Q0,X0,hs,ab,⟨n,hn,hr'⟩,hk,hx'⟩=>by
  obtain⟨v,h1,h2⟩:=ab i _ hn;rw[RD] at h2;obtain⟨f,rfl,hm⟩:=h2;obtain⟨j,fd,ps,hj,F,hkp,hb⟩:=tb n f hm;refine⟨f,fd,ps,_,j,h1,F,hr.mono hj,hkp,hb,G,ρ,_,X0,hs,ab,hr',λds vs G' H' q g1 g2 g3 rds =>?_,hx'⟩;show spP X.K X.mg (T n) (vs++[]) H' Q E;rw[List.append_nil];exact⟨G',ds,Q0,X0,g2,rds,q,hk.same g1 g3,hx'.same g3⟩⟩
def zhZ {x:Str}{n k:Nat}{ps:List Str}{sp:Sp}{p:Pos}(hn:z6M n=x)(hg:Gl X x)(C:Cal X.prog X.w X.K X.mg X.base CX k x ps sp)(hd:(x == ("__debug__":Str))=false):QX X E (.Name x p) (.c (.fn n)):=by
 obtain⟨f,fd,F',hm,hk,hb⟩:=C.ex;exact qx_c (v :=.ref f) ⟨zgG hg hm rfl hd⟩ λ_=>by rw[RD]; exact⟨f,rfl,by rw[hn]; exact hm⟩
end
def _root_.L2.Inv.spent {X:Cx}{H:Hp}{pins:List (Addr × Obj)}{σ:L2.St}{s:Shared}{h':Heap}{r a:Addr}{φ:Heap->Prop}{o:HO}{t':Nat}(I:Inv X pins σ (upd H r (.ext φ)) s)(hr:H r=none)(h0:X.s₀.heap.objs.size<=r)(k:∀b u,b≠r->s.heap.get? b=some u->h'.get? b=some u)(hp:s.heap.get? a=none)
  (new:z2o X.prog X.w (upd H a o) h' a o):Inv X pins σ (upd H a o) { s with heap:=h',toks:=t' }:=by
 have Hr:upd H r (.ext φ) r=some (.ext φ):=z0t;have back:∀b (u:HO),upd H r (.ext φ) b=some u->(∀ψ,u ≠ .ext ψ)->H b=some u/\b≠r:=λb u e z=>by
  have hb:b≠r:=λy=>by rw[y,Hr] at e; cases e; exact z φ rfl
  rw[z0f hb] at e; exact⟨e,hb⟩
 have hn0:=I.hok.none_of hp;have har:a≠r:=λy=>by rw[y,Hr] at hn0; cases hn0
 have hn:H a=none:=by rw[z0f har] at hn0; exact hn0
 have ne:∀b u,s.heap.get? b=some u->b≠a:=λb u e z=>by rw[z,hp] at e; cases e
 have neH:∀b u,H b=some u->b≠a:=λb u e z=>by rw[z,hn] at e; cases e
 have out:∀b,upd H r (.ext φ) b=none->b≠r/\H b=none:=λb e=>by
  have hb:b≠r:=λy=>by rw[y,Hr] at e; cases e
  rw[z0f hb] at e; exact⟨hb,e⟩
 have same:∀b (u:HO),upd H r (.ext φ) b=some u->(∀ψ,u ≠ .ext ψ)->upd H a o b=some u:=λb u e z=>by
  obtain⟨e',_⟩:=back b u e z;rw[z0f (neH b u e')]; exact e'
 refine I.step (g':=s.gens) (d':=s.drawn) (ch:=[r]) (λb hb =>?_) (λb u _ _ hc e _=>k b u (λz=>hc (by simp[z])) e) (λb u _ _ hc e _=>⟨u.slots,k b u (λz=>hc (by simp[z])) e⟩) (λb u _ e q=>by rw[z0f (ne b u e)]; exact(out b q).2)
  (λb u hc e=>⟨u,k b u (λz=>hc (by simp[z])) e⟩) (λb xs e=>same b _ e λ_=>nofun) (λb u v e=>same b _ e λ_=>nofun) (λb ps e=>⟨#[],by rw[same b _ e λ_=>nofun,Array.append_empty]⟩) (λm hm =>?_) (λb u e =>?_) I.bare
 ·have e:b=r:=by simpa using hb
  subst e;exact⟨.inr h0,(λz=>(out _ I.free).1 z.symm),λx c e=>(out c (I.freeC x c e)).1,λp hp=>(out _ (I.pin p hp).2.1).1⟩
 ·obtain⟨u,es,ep,ho,q⟩:=hm;exact⟨u,es,ep,k _ u (out _ I.free).1 ho,q⟩
 by_cases hb:b=a
 ·subst hb; rw[z0t] at e; cases e; exact new
 rw[z0f hb] at e;have hbr:b≠r:=λz=>by rw[z,hr] at e; cases e
 have e':upd H r (.ext φ) b=some u:=by rw[z0f hbr]; exact e
 refine(I.hok b u e').stay (λc v hc q=>k c v ?_ q) (λc q=>same c _ q λ_=>nofun) (λc xs q=>same c _ q λ_=>nofun) λc _ _ q=>same c _ q λ_=>nofun
 rcases hc with rfl | hc
 ·exact hbr
 ·exact(back c _ hc λ_=>nofun).2
def RevO (r a:Addr)(n:Nat)(h:Heap):Prop:=h.IsRevIter r a ((n:Int) - 1)
section
variable {X:Cx}{E:XK}
def rRev (X:Cx):List V->Hp->VK->Prop:=λvs H Q=>∃a ys,vs=[.ref a]/\SqL X.K H a ys/\∀r,H r=none->X.s₀.heap.objs.size<=r->Q (.ref r) (upd H r (.ext (RevO r a ys.length)))
def zfw:z2p X (.type "reversed") (rRev X):=by
 intro pins s σ H xs us Q I rv ⟨a,ys,e,hS,q⟩;subst e;obtain⟨u,rfl,rx⟩:=z6i rv
 cases rx
 obtain⟨its,r,pl,hz⟩:=I.list hS;have hlen:=r.length;refine call_reversed_list pl.isList ⟨.ref s.heap.objs.size,_,I.laid (o :=.ext (RevO s.heap.objs.size a ys.length)) (t':=s.toks) (λb o e=>Heap.get?_push_of_some _ e) (Nat.le_refl _) ⟨⟨_,Heap.get?_push_size _ rfl,rfl,by simp[revObj,hlen]⟩,⟨_,Heap.get?_push_size _ rfl⟩,λh1 h2 x st=>x.at st⟩,rfl,q _ (I.hok.fresh (Nat.le_refl _)) I.sz⟩
def zez (X:Cx):List V->Hp->VK->Prop:=λvs H Q=>∃r a ys H1,vs=[.ref r]/\H=upd H1 r (.ext (RevO r a ys.length))/\H1 r=none/\X.s₀.heap.objs.size<=r/\SqL X.K H1 a ys/\∀d,H1 d=none->Q (.ref d) (upd H1 d (.lst ys.reverse))
def zaw (hc:X.calm=true):z2p X (.type "list") (zez X):=by
 intro pins s σ H xs us Q I rv ⟨r,a,ys,H1,e,eH,hr,h0,hS1,q⟩;subst e;subst eH;have hS:=z2s (z0X hr (.ext (RevO r a ys.length))) hS1;obtain⟨u,rfl,rx⟩:=z6i rv
 cases rx
 have hh:X.A.handled=none:=I.ok.hd hc;obtain⟨its,rv',pl,hz⟩:=I.list hS;have hlen:=rv'.length;have hR:s.heap.IsRevIter r a ((ys.length:Int) - 1):=(show z2o X.prog X.w _ s.heap r (.ext (RevO r a ys.length)) from I.hok r _ z0t).1;have hra:a≠r:=by
  obtain⟨o,ho,hc',_⟩:=hR;obtain⟨o',ho',hc'',_⟩:=pl.isList;intro z;rw[z,ho] at ho'; cases ho';rw[hc'] at hc''
  injection hc'' with h
  exact absurd h (by decide)
 have W:=(Walks.listRev (prog:=X.prog) (w:=X.w) (A:=X.A.in1.in1) (by simp[hh]) r a hra its.toArray).toS;have sz:its.toArray.size=ys.length:=by simp[hlen]
 refine callType_codes (Q₁:=λv s1=>v = .ref s.heap.objs.size/\s1={ s with heap:=s.heap.push { cls :=.type "list",data :=.seq #[] } }) F.called_list (F.typeCall_list_1 _) F.entry_list_init (code_list_new _ ⟨rfl,rfl⟩) λv s1 hv =>?_;obtain⟨rfl,rfl⟩:=hv;have hD:(s.heap.push { cls :=.type "list",data :=.seq #[] }).get? s.heap.objs.size=some { cls :=.type "list",data :=.seq #[] }:=Heap.get?_push_size _ rfl;have hlt:∀{b:Addr}{o:Obj},s.heap.get? b=some o->b≠s.heap.objs.size:=λe=>Nat.ne_of_lt (Heap.lt_size e);obtain⟨o1,ho1,hc1,hd1⟩:=hR;obtain⟨o2,ho2,n2⟩:=pl.isList;refine⟨⟨_,hD,rfl⟩,F.args_list_init_2 _ _,Rev.zfh (A:=X.A.in1) W (λi s st=>st.2.1.typeIs) s.heap.objs.size ⟨Nat.zero_le _,⟨o1,Heap.get?_push_of_some _ ho1,hc1,by rw[hd1,sz]; simp⟩,⟨o2,Heap.get?_push_of_some _ ho2,n2⟩⟩ (by
  simp only[List.mem_cons,List.not_mem_nil,or_false,not_or];exact⟨Ne.symm (hlt ho1),Ne.symm (hlt ho2)⟩) (by simp) (by rw[sz]; exact hz) hD λs' acc c mv hS' it=>⟨rfl,?_⟩⟩
 have keep:∀b o,b≠r->s.heap.get? b=some o->s'.heap.get? b=some o:=λb o hb e=>mv.heap b o (by
  simp only[List.mem_cons,List.not_mem_nil,or_false,not_or];exact⟨hlt e,hb⟩) (Heap.get?_push_of_some _ e)
 obtain⟨h',g',d',tk',os'⟩:=s';have eg:g'=s.gens:=mv.gens;have ed:d'=s.drawn:=mv.drawn;have eo:os'=s.os:=mv.os;subst eg; subst ed; subst eo;have acc':acc.toList=its.reverse:=by
  apply List.ext_getElem?;intro k
  by_cases hk:k<its.length
  ·have hk':k<acc.size:=by rw[it.1,sz,hlen]; exact hk
   have:=it.2 k acc[k] (getElem?_pos acc k hk');rw[Array.getElem?_toList,getElem?_pos acc k hk',List.getElem?_reverse hk, <- this];simp
  ·have hk':¬ k<acc.size:=by rw[it.1,sz,hlen]; exact hk
   rw[Array.getElem?_toList,getElem?_neg acc k hk',List.getElem?_eq_none (by simp; lia)]
 have hsz:s.heap.get? s.heap.objs.size=none:=by
  cases z:s.heap.get? s.heap.objs.size with
  | none=>rfl
  | some o=>exact absurd (Heap.lt_size z) (Nat.lt_irrefl _)
 have hn1:H1 s.heap.objs.size=none:=by
  have:=I.hok.none_of hsz
  cases z:H1 s.heap.objs.size with
  | none=>rfl
  | some o=>rw[z0X hr _ _ _ z] at this; cases this
 refine⟨.ref s.heap.objs.size,_,I.spent (o :=.lst ys.reverse) (t':=tk') hr h0 keep hsz ⟨by simpa using hz,its.reverse,c,rv'.reverse,?_⟩,rfl,q _ hn1⟩;rw[<- acc'];exact hS'
end
section
variable {X:Cx}{K:W.Frag}{mg:Str->Option Value}{E:XK}{G H:Hp}
def zfj (d:D)(Q:DK):Prop:=isLs d λl=>Q (.lst l.reverse)
def z2L:Fn:=fn1 zfj λd Q Q' m h=>zdK (λl q=>m _ q) h
def zdJ {d:D}{P:List D->Prop}(h:isLs d P):∃l,d = .lst l/\P l:=by
 cases d with
 | lst l=>exact⟨l,rfl,h⟩
 | _=>exact h.elim
def z6l {e:Expr}{x:Ex}{p1 p2 p3 p4:Pos}(hc:X.calm=true)(hg:Gl X "list")(hm:X.mg "list"=none)(hg2:Gl X "reversed")(hm2:X.mg "reversed"=none)(ha:QXA X E [e] [x])
  (hs1:starEach [e] X.env=(false,eval e X.env)::starEach [] X.env:=by rfl) (hs2:starEach [.Call (.Name "reversed" p2) [e] [] p3] X.env=(false,eval (.Call (.Name "reversed" p2) [e] [] p3) X.env)::starEach [] X.env:=by rfl):QF X E (.Call (.Name "list" p1) [.Call (.Name "reversed" p2) [e] [] p3] [] p4) (.op z2L [x]):=
 QE.imp (z5J (zaw hc) hg hm (by rfl) (z7e (z5J zfw hg2 hm2 (by rfl) ha (by decide) (by decide) hs1 (by rfl)) zbz hs2) (by decide) (by decide) hs2 (by rfl)) λσ H Q ⟨G,ρ,Q0,X0,hs,ab,hr,hk,hx⟩=>by
  refine⟨G,ρ,λds=>z2L.run ds Q0 X0,X0,hs,ab,hr,λds vs G1 H1 q g1 g2 g3 rds =>?_,hx⟩;obtain⟨d,rfl,q'⟩:=z58 q;obtain⟨v,rfl,rd⟩:=rds1 rds;obtain⟨l,rfl,q2⟩:=zdJ q';obtain⟨a,xs,rfl,h1,h2⟩:=z3k rd;refine⟨a,xs,rfl,z2s g2 h1,λr hr0 hr1=>⟨r,a,xs,H1,rfl,rfl,hr0,hr1,z2s g2 h1,λd hd =>?_⟩⟩;have hd0:H d=none:=by
   cases z:H d with
   | none=>rfl
   | some o=>rw[g3 d o z] at hd; cases hd
  exact hk (.lst l.reverse) d G1 _ q2 g1 (z0c g2 (z0X hd _)) (z0c g3 (z0X hd _)) hd0 (z2N g2 hd) ⟨xs.reverse,z0t,h2.rev⟩
def gIn (neg:Bool)(a b:D)(Q:DK):Prop:=match b with
 | .lst l=>Da 60 a/\(∀d∈l,Da 60 d)/\Q (.bl (if neg then !l.any (λd=>deq d a) else l.any (λd=>deq d a)))
 | .tup l=>Da 60 a/\(∀d∈l,Da 60 d)/\Q (.bl (if neg then !l.any (λd=>deq d a) else l.any (λd=>deq d a)))
 | _=>False
def zbS {neg:Bool}(a b:D)(Q Q':DK)(m:∀d,Q d->Q' d)(h:gIn neg a b Q):gIn neg a b Q':=by
 unfold gIn at h ⊢
 split at h
 ·exact⟨h.1,h.2.1,m _ h.2.2⟩
 ·exact⟨h.1,h.2.1,m _ h.2.2⟩
 ·exact h.elim
def pIn:Fn:=fn2 (gIn false) zbS
def zdv:Fn:=fn2 (gIn true) zbS
open Classical in
def z6e {s:Shared}{a:D}{l:List D}{xs:List V}{its:List Value}{pins:List (Addr × Obj)}{σ:L2.St}(I:Inv X pins σ H s)(g:Same G H)(hu:X.A.units+64<cLine){v:V}{u:Value}(ra:RD X.K X.mg G a v)(rv:RelV v u)(hd:Da 60 a)(hl:∀d∈l,Da 60 d)(rds:RDs X.K X.mg G l xs)(rr:Vals xs its):
  ∃e:Value->Bool,(∀y∈its,SeqAt.EqAt X.A.in1 s y u (e y))/\its.any e=l.any (λd=>deq d a)/\∀(i:Nat) (y:Value) (d:D),its[i]? = some y->l[i]? = some d->e y=deq d a:=by
 obtain⟨as,r1⟩:=Rp.reads I (py a) ((Da.rp 60 _ hd ra).same g) rv;have key:∀(d:D) (x:V) (y:Value),Da 60 d->RD X.K X.mg G d x->RelV x y->SeqAt.EqAt X.A.in1 s y u (deq d a):=λd x y h1 h2 h3=>by
  obtain⟨bs,r2⟩:=Rp.reads I (py d) ((Da.rp 60 _ h1 h2).same g) h3;obtain⟨c1,c2⟩:=Da.canLay 60 d h1;obtain⟨c3,c4⟩:=Da.canLay 60 a hd;exact SeqAt.eqAt_reads (py d) (py a) X.A.in1 s y u bs as r2 r1 c1 c3 (by
   have:min (py d).depth (py a).depth<=60:=Nat.le_trans (Nat.min_le_left _ _) c2;have:X.A.in1.units<=X.A.units+1:=by simp
   lia)
 let e:Value->Bool:=λy=>if h:∃dt bs,Reads s.heap y dt bs/\dt.canLay0=true then PyData.eqv h.choose (py a) else false
 have he:∀(d:D) (x:V) (y:Value),Da 60 d->RD X.K X.mg G d x->RelV x y->e y=deq d a:=λd x y h1 h2 h3=>by
  obtain⟨bs,r2⟩:=Rp.reads I (py d) ((Da.rp 60 _ h1 h2).same g) h3;have c1:=(Da.canLay 60 d h1).1;have h:∃dt bs,Reads s.heap y dt bs/\dt.canLay0=true:=⟨_,bs,r2,c1⟩
  show (if h:∃dt bs,Reads s.heap y dt bs/\dt.canLay0=true then PyData.eqv h.choose (py a) else false)=deq d a;rw[dif_pos h];obtain⟨cs,z1,z2⟩:=h.choose_spec;rw[(Reads.unique z1 _ _ r2).1]
  rfl
 refine⟨e,?_⟩
 clear_value e
 induction l generalizing xs its with
 | nil=>
  rw[RDs] at rds; subst rds
  cases rr
  exact⟨λy hy=>(by cases hy),rfl,λi y d h=>(by simp at h)⟩
 | cons d l ih=>
  rw[RDs] at rds;obtain⟨x,xs',rfl,h1,h2⟩:=rds
  cases rr with
  | cons rx rr=>
   obtain⟨i1,i2,i3⟩:=ih (λd hd=>hl d (List.mem_cons_of_mem _ hd)) h2 rr;have hd0:=hl d List.mem_cons_self;refine⟨λy hy =>?_,by rw[List.any_cons,List.any_cons,he d x _ hd0 h1 rx,i2],λi y d' e1 e2 =>?_⟩
   rotate_left
   ·cases i with
    | zero=>
     rw[List.getElem?_cons_zero] at e1 e2
     cases e1
     cases e2
     exact he d x _ hd0 h1 rx
    | succ i=>exact i3 i y d' (by rwa [List.getElem?_cons_succ] at e1) (by rwa [List.getElem?_cons_succ] at e2)
   rcases List.mem_cons.mp hy with rfl | hy
   ·rw[he d x _ hd0 h1 rx]; exact key d x _ hd0 h1 rx
   ·exact i1 y hy
def zko (hu:X.A.units+64<cLine):OpR X (compareOp .In) (r2 X.K X.mg pIn):=by
 intro pins s σ H x y v u Q I rx ry ⟨G,d1,d2,Q0,X0,g,r1,r2,hr,hk⟩;have hr':gIn false d1 d2 Q0:=hr;unfold gIn at hr'
 split at hr'
 ·obtain⟨h1,h2,q⟩:=hr';obtain⟨a,xs,rfl,h3,h4⟩:=z3k r2
  cases ry
  obtain⟨its,rr,pl,_⟩:=I.list (z2s g h3);obtain⟨e,e1,e2,_⟩:=z6e I g hu r1 rx h1 h2 h4 rr;refine SeqAt.in_listAt e pl.isList (λw hw=>e1 w (by simpa using hw)) ⟨.bl _,H,I,rfl,?_⟩;rw[show its.toArray.any e=its.any e by simp,e2];exact hk.now g q RD.bl'
 ·obtain⟨h1,h2,q⟩:=hr';obtain⟨a,xs,rfl,h3,h4⟩:=z4y r2
  cases ry
  obtain⟨its,rr,pl,_⟩:=I.tuple (z2r g h3);obtain⟨e,e1,e2,_⟩:=z6e I g hu r1 rx h1 h2 h4 rr;refine SeqAt.in_tupleAt e pl (λw hw=>e1 w (by simpa using hw)) ⟨.bl _,H,I,rfl,?_⟩;rw[show its.toArray.any e=its.any e by simp,e2];exact hk.now g q RD.bl'
 ·exact hr'.elim
def zeY (hu:X.A.units+64<cLine):OpR X (compareOp .NotIn) (r2 X.K X.mg zdv):=by
 intro pins s σ H x y v u Q I rx ry ⟨G,d1,d2,Q0,X0,g,r1,r2,hr,hk⟩;have hr':gIn true d1 d2 Q0:=hr;unfold gIn at hr'
 split at hr'
 ·obtain⟨h1,h2,q⟩:=hr';obtain⟨a,xs,rfl,h3,h4⟩:=z3k r2
  cases ry
  obtain⟨its,rr,pl,_⟩:=I.list (z2s g h3);obtain⟨e,e1,e2,_⟩:=z6e I g hu r1 rx h1 h2 h4 rr;refine SeqAt.notIn_listAt e pl.isList (λw hw=>e1 w (by simpa using hw)) ⟨.bl _,H,I,rfl,?_⟩;rw[show its.toArray.any e=its.any e by simp,e2];exact hk.now g q RD.bl'
 ·obtain⟨h1,h2,q⟩:=hr';obtain⟨a,xs,rfl,h3,h4⟩:=z4y r2
  cases ry
  obtain⟨its,rr,pl,_⟩:=I.tuple (z2r g h3);obtain⟨e,e1,e2,_⟩:=z6e I g hu r1 rx h1 h2 h4 rr;refine SeqAt.notIn_tupleAt e pl (λw hw=>e1 w (by simpa using hw)) ⟨.bl _,H,I,rfl,?_⟩;rw[show its.toArray.any e=its.any e by simp,e2];exact hk.now g q RD.bl'
 ·exact hr'.elim
def zhu:∀{xs:List V}{ks:List (List Int)}{its:List Value}{i:Nat}{y:Value},Tis K G xs ks->Vals xs its->its[i]? = some y->∃b k,xs[i]? = some (.ref b)/\ks[i]? = some k/\y = .ref b/\SqT K G b (k.map V.int):=by
 intro xs ks its i y h;unfold Tis at h
 induction h generalizing its i with
 | nil=>intro r e; cases r; simp at e
 | cons h1 _ ih=>
  intro r e
  cases r with
  | cons r1 r2=>
   obtain⟨b,rfl,hb⟩:=h1
   cases i with
   | zero=>simp at e; subst e; cases r1; exact⟨b,_,rfl,rfl,rfl,hb⟩
   | succ i=>simpa using ih r2 (by simpa using e)
end
end Pu
namespace Rev
open PySem PyProof.Rows
end Rev
namespace Pu
open PySem PySem.Spec PyProof.Rows L2 Tab
end Pu
namespace Pu
open PySem L2
def z1f:Fn:=Fn.mkN 2 5 (.seq (.set 2 (.op pAbs [(.v 0)]))
 (.seq (.set 3 (.op pAbs [(.v 1)]))
 (.seq (.wh (.op pNe [(.v 3),(.c (.int 0))]) (.seq (.set 4 (.op pMod [(.v 2),(.v 3)]))
 (.seq (.set 2 (.v 3))
 (.set 3 (.v 4)))))
 (.ret (.v 2)))))
def zdX:Fn:=Fn.mkN 2 2 (.ret (.op pSub [(.op z0l [(.op pIx [(.v 0),(.c (.int 0))]),(.op pIx [(.v 1),(.c (.int 1))])]),(.op z0l [(.op pIx [(.v 0),(.c (.int 1))]),(.op pIx [(.v 1),(.c (.int 0))])])]))
def z7v:Fn:=Fn.mkN 2 2 (.ret (.op pTup [(.op pSub [(.op pIx [(.v 1),(.c (.int 0))]),(.op pIx [(.v 0),(.c (.int 0))])]),(.op pSub [(.op pIx [(.v 1),(.c (.int 1))]),(.op pIx [(.v 0),(.c (.int 1))])])]))
def zdY:Fn:=Fn.mkN 3 3 (.ret (.op zdX [(.op z7v [(.v 0),(.v 1)]),(.op z7v [(.v 1),(.v 2)])]))
def z3M:Fn:=Fn.mkN 3 5 (.seq (.set 3 (.op pSub [(.op z0l [(.op pIx [(.v 1),(.c (.int 0))]),(.op pIx [(.v 2),(.c (.int 2))])]),(.op z0l [(.op pIx [(.v 2),(.c (.int 0))]),(.op pIx [(.v 1),(.c (.int 2))])])]))
 (.seq (.set 4 (.op pSub [(.op z0l [(.op pIx [(.v 1),(.c (.int 1))]),(.op pIx [(.v 2),(.c (.int 2))])]),(.op z0l [(.op pIx [(.v 2),(.c (.int 1))]),(.op pIx [(.v 1),(.c (.int 2))])])]))
 (.ret (.op pAdd [(.op pSub [(.op z0l [(.op pIx [(.v 0),(.c (.int 0))]),(.v 4)]),(.op z0l [(.op pIx [(.v 0),(.c (.int 1))]),(.v 3)])]),(.op z0l [(.op pIx [(.v 0),(.c (.int 2))]),(.op pSub [(.op z0l [(.op pIx [(.v 1),(.c (.int 0))]),(.op pIx [(.v 2),(.c (.int 1))])]),(.op z0l [(.op pIx [(.v 1),(.c (.int 1))]),(.op pIx [(.v 2),(.c (.int 0))])])])])]))))
def zak:Fn:=Fn.mkN 2 5 (.seq (.set 2 (.op pSub [(.op z0l [(.op pIx [(.v 1),(.c (.int 0))]),(.op pIx [(.v 0),(.c (.int 2))])]),(.op z0l [(.op pIx [(.v 0),(.c (.int 0))]),(.op pIx [(.v 1),(.c (.int 2))])])]))
 (.seq (.set 3 (.op pSub [(.op z0l [(.op pIx [(.v 1),(.c (.int 1))]),(.op pIx [(.v 0),(.c (.int 2))])]),(.op z0l [(.op pIx [(.v 0),(.c (.int 1))]),(.op pIx [(.v 1),(.c (.int 2))])])]))
 (.seq (.set 4 (.op z1f [(.v 2),(.v 3)]))
 (.ret (.op pTup [(.op z1r [(.v 2),(.v 4)]),(.op z1r [(.v 3),(.v 4)])])))))
def zhb:Nat->Fn
 | 0=>zdY
 | 1=>z3M
 | 2=>z7v
 | 3=>zak
 | _=>⟨λ_ _ _=>False,λ_ _ _ _ _ _ _ z=>z⟩
def z4b:Fn:=Fn.mkN 2 4 (.seq (.own 2 (.op pLst []))
 (.seq (.for_ [] (.nm 3) (.v 0) (.seq (.wh (.and (.op pGt [(.op pLen [(.v 2)]),(.c (.int 1))]) (.op pLe [(.callv zhb 1 [(.op pIx [(.v 2),(.op pNeg [(.c (.int 2))])]),(.op pIx [(.v 2),(.op pNeg [(.c (.int 1))])]),(.v 3)]),(.c (.int 0))])) (.pop 2))
 (.app 2 (.v 3))))
 (.ret (.v 2))))
def z39:Fn:=Fn.mkN 2 4 (.seq (.ifs (.op pLt [(.op pLen [(.v 0)]),(.c (.int 2))]) (.ret (.op z8q [(.v 0)])) .skip)
 (.seq (.set 2 (.op z4b [(.v 0),(.v 1)]))
 (.seq (.set 3 (.op z4b [(.op z2L [(.v 0)]),(.v 1)]))
 (.ret (.op z8q [(.op pAdd [(.sl (.v 2) none (some (.op pNeg [(.c (.int 1))]))),(.sl (.v 3) none (some (.op pNeg [(.c (.int 1))])))])])))))
def z71:Fn:=Fn.mkN 2 2 (.ret (.op pAdd [(.op z0l [(.op pIx [(.v 0),(.c (.int 0))]),(.op pIx [(.v 1),(.c (.int 0))])]),(.op z0l [(.op pIx [(.v 0),(.c (.int 1))]),(.op pIx [(.v 1),(.c (.int 1))])])]))
end Pu
namespace Geo
def Hd (l h:List P):Prop:=∃rl:List P,rl.Pairwise Lx/\(∀p,p∈rl↔p∈l)/\h=hull rl
def Hd.is {l h:List P}(x:Hd l h)(hn:l≠[]):z17 (· ∈ l) h:=by
 obtain⟨rl,h1,h2,rfl⟩:=x;have hne:rl≠[]:=λz=>by
  cases l with
  | nil=>exact hn rfl
  | cons p l=>have:=(h2 p).mpr (by simp); rw[z] at this; cases this
 have:=zh8 hne h1;have e:(λp=>p∈rl)=λp=>p∈l:=funext λp=>propext (h2 p);rw[e] at this;exact this
def z8T {R:P->P->Prop}:∀{l:List P}{i:Nat}{a b:P},Path R l->l[i]? = some a->l[i+1]? = some b->R a b
 | [],_,_,_,_,e,_=>by simp at e
 | [_],i,_,_,_,e,f=>by simp at f
 | x::y::r,0,a,b,h,e,f=>by
  simp at e f;subst e; subst f;exact h.1
 | x::y::r,i+1,a,b,h,e,f=>z8T (l:=y::r) (i:=i) h.2 (by simpa using e) (by simpa using f)
def z5L {R:P->P->Prop}:∀{u v:List P},Path R (u++v)->Path R v
 | [],_,h=>h
 | [x],[],_=>trivial
 | [x],y::v,h=>h.2
 | x::y::u,v,h=>z5L (u:=y::u) h.2
def z8n {R:P->P->Prop}(det:∀a b c,R a b->R a c->b=c){m:P}:∀{t:List P},m ∉ t->Path R (t++[m])->t.Nodup
 | [],_,_ =>.nil
 | a::t,hm,h=>by
  rw[List.nodup_cons];have hm':m ∉ t:=λz=>hm (List.mem_cons_of_mem _ z);refine⟨λha =>?_,z8n det hm' (z5L (u:=[a]) h)⟩;obtain⟨u,v,e⟩:=List.append_of_mem ha;have h2:Path R (a::v++[m]):=by
   have:Path R ((a::u)++(a::v++[m])):=by rw[e] at h; simpa using h
   exact z5L this
  have hv:m ∉ v:=λz=>hm' (by rw[e]; simp[z]);have:=z5u det hm' hv h h2;have:=congrArg List.length this;rw[e] at this;simp at this;lia
def z17.nodup {S:P->Prop}{h:List P}(x:z17 S h):h.Nodup:=by
 obtain⟨m,t,rfl,h1,h2,h3,h4⟩:=x.ex
 rcases h4 with ⟨rfl,_⟩ | ⟨_,h4⟩
 ·simp
 ·rw[List.nodup_cons];exact⟨h3,z8n (λa b c e f=>e.det f) h3 (z5L (u:=[m]) h4)⟩
def z17.sub {S:P->Prop}{h:List P}(x:z17 S h):∀p∈h,S p:=by
 obtain⟨m,t,rfl,h1,h2,h3,h4⟩:=x.ex
 rcases h4 with ⟨rfl,_⟩ | ⟨ht,h4⟩
 ·intro p hp;simp at hp;subst hp; exact h1
 ·intro p hp;obtain⟨i,hi,e⟩:=List.mem_iff_getElem.mp hp;have h5:(m::t++[m])[i]? = some p:=by rw[List.getElem?_append_left hi,List.getElem?_eq_getElem hi,e]
  have hi2:i+1<(m::t++[m]).length:=by simp at hi ⊢; lia
  exact(z8T h4 h5 (List.getElem?_eq_getElem hi2)).sa
def z7x {S:P->Prop}{a b c:P}(e:Edge S a b)(f:Edge S b c)(h:a≠c):0<cr a b c:=by
 have h0:=e.left c f.sb
 rcases Int.lt_or_eq_of_le h0 with z | z
 ·exact z
 exfalso
 have z1:cr a b c=0:=z.symm;have z2:cr b c a=0:=by rw[<- z1]; unfold cr; grind
 obtain⟨p1,p2⟩:=e.btw c f.sb z1;obtain⟨q1,q2⟩:=f.btw a e.sa z2;have hab:=e.ne;have hbc:=f.ne;obtain⟨a1,a2⟩:=a;obtain⟨b1,b2⟩:=b;obtain⟨c1,c2⟩:=c;simp only[cr,dot] at*;generalize hu1:b1 - a1=u1 at*;generalize hu2:b2 - a2=u2 at*;generalize hv1:c1 - a1=v1 at*;generalize hv2:c2 - a2=v2 at*;have e1:(c1 - b1)*(a1 - b1)+(c2 - b2)*(a2 - b2)=(u1*u1+u2*u2) - (u1*v1+u2*v2):=by
  have:c1 - b1=v1 - u1:=by lia
  have:c2 - b2=v2 - u2:=by lia
  have:a1 - b1 = -u1:=by lia
  have:a2 - b2 = -u2:=by lia
  grind
 have e2:(a1 - c1)*(b1 - c1)+(a2 - c2)*(b2 - c2)=(v1*v1+v2*v2) - (u1*v1+u2*v2):=by
  have:a1 - c1 = -v1:=by lia
  have:a2 - c2 = -v2:=by lia
  have:b1 - c1=u1 - v1:=by lia
  have:b2 - c2=u2 - v2:=by lia
  grind
 rw[e1] at p2;rw[e2] at q2;have lag:(u1*v1+u2*v2)*(u1*v1+u2*v2)=(u1*u1+u2*u2)*(v1*v1+v2*v2):=by
  have:(u1*u1+u2*u2)*(v1*v1+v2*v2) - (u1*v1+u2*v2)*(u1*v1+u2*v2)=(u1*v2 - u2*v1)*(u1*v2 - u2*v1):=by grind
  rw[z1] at this;lia
 have hd:0<=u1*v1+u2*v2:=by
  have:(v1*u1+v2*u2)=u1*v1+u2*v2:=by grind
  lia
 generalize hD:u1*v1+u2*v2=d at*;generalize hU:u1*u1+u2*u2=uu at*;generalize hV:v1*v1+v2*v2=vv at*;have uun:0<=uu:=by have:=z0r u1; have:=z0r u2; lia
 have vvn:0<=vv:=by have:=z0r v1; have:=z0r v2; lia
 have duu:d*d<=uu*d:=Int.mul_le_mul_of_nonneg_right (by lia) hd;have dvv:uu*d<=uu*vv:=Int.mul_le_mul_of_nonneg_left (by lia) uun;have hz1:uu*(vv - d)=0:=by
  have:uu*(vv - d)=uu*vv - uu*d:=by grind
  omega
 rcases Int.mul_eq_zero.mp hz1 with z | z
 ·obtain⟨k1,k2⟩:=z5w (hU.trans z);exact hab (Prod.ext (by show a1=b1; lia) (by show a2=b2; lia))
 ·have hvd:vv=d:=by lia
  have hz2:d*(uu - d)=0:=by
   have:d*(uu - d)=uu*d - d*d:=by grind
   rw[hvd] at lag;omega
  rcases Int.mul_eq_zero.mp hz2 with z | z
  ·have hv0:v1*v1+v2*v2=0:=by lia
   obtain⟨k1,k2⟩:=z5w hv0;exact h (Prod.ext (by show a1=c1; lia) (by show a2=c2; lia))
  ·have hw:(u1 - v1)*(u1 - v1)+(u2 - v2)*(u2 - v2)=0:=by
    have:(u1 - v1)*(u1 - v1)+(u2 - v2)*(u2 - v2)=(u1*u1+u2*u2) - 2*(u1*v1+u2*v2)+(v1*v1+v2*v2):=by grind
    lia
   obtain⟨k1,k2⟩:=z5w hw;exact hbc (Prod.ext (by show b1=c1; lia) (by show b2=c2; lia))
end Geo
local macro_rules | `(tactic| walk_at "bt") => `(tactic| first | assumption | (refine L2.Bt.add ?_ ?_ <;> walk_at "bt") | (refine L2.Bt.sub ?_ ?_ <;> walk_at "bt") | (refine L2.Bt.mul ?_ ?_ <;> walk_at "bt") | (refine L2.Bt.neg ?_; walk_at "bt") | exact L2.bt_k (by decide +kernel) | exact L2.bt_n (by omega) (by omega))
local macro_rules | `(tactic| walk_at "mu") => `(tactic| exact⟨L2.Bt.le (by walk_at "bt") (by decide),L2.Bt.le (by walk_at "bt") (by decide)⟩)
local macro_rules | `(tactic| walk_at "ps") => `(tactic| first | assumption | decide | omega)
local macro_rules | `(tactic| walk_at "bb") => `(tactic| first | exact L2.z9y (by decide) (by decide) | exact L2.Bt.le (by walk_at "bt") (by decide) | exact L2.z9y (by omega) (by omega))
local macro_rules | `(tactic| walk_at "sf") => `(tactic| first | exact Pu.Safe.of_noL rfl rfl _ | exact Pu.Safe.of_noL (Pu.zf2 _) (Pu.zf3 _) _ | (repeat (first | exact trivial | refine⟨trivial,?_⟩)) | assumption)
local macro_rules | `(tactic| walk_at "en") => `(tactic| try simp only[List.set_cons_zero,List.set_cons_succ,List.map_cons,List.map_nil,List.replicate,List.cons_append,List.nil_append,Nat.reduceSub,Pu.dem,Pu.vis,Pu.visB,Pu.demB,List.getElem?_cons_zero,List.getElem?_cons_succ,Option.getD_some,Pu.z1b,List.replicate_succ,List.replicate_zero])
local macro_rules | `(tactic| walk_at "st") => `(tactic| first
 | with_reducible refine Pu.e_c ?_
 | ((with_reducible refine Pu.e_v ?_); (refine Pu.za6 ?_))
 | with_reducible refine Pu.zkL ?_
 | with_reducible refine Pu.zkM ?_
 | with_reducible refine Pu.zkK ?_
 | with_reducible refine Pu.zkJ ?_
 | with_reducible refine Pu.zkI ?_
 | with_reducible refine Pu.zgn ?_
 | with_reducible refine Pu.zhU ?_
 | with_reducible refine Pu.zkw ?_
 | with_reducible refine Pu.zkq ?_
 | with_reducible refine Pu.zks ?_
 | ((with_reducible refine Pu.zgV ?_ ?_); (focus walk_at "mu"))
 | ((with_reducible refine Pu.zj3 ?_ ?_ ?_); (focus walk_at "ps"); (focus walk_at "bb"))
 | ((with_reducible refine Pu.ziM ?_ ?_); (focus walk_at "ps"))
 | ((with_reducible refine Pu.zkr ?_ ?_); (focus exact⟨by decide,by decide,by decide⟩))
 | ((with_reducible refine Pu.zgW ?_); (try refine Pu.za6 ?_))
 | ((with_reducible refine Pu.zku ?_); (try refine Pu.za6 ?_))
 | with_reducible refine Pu.o_lt ?_
 | with_reducible refine Pu.o_le ?_
 | with_reducible refine Pu.o_gt ?_
 | with_reducible refine Pu.o_ge ?_
 | with_reducible refine Pu.o_eq ?_
 | with_reducible refine Pu.o_ne ?_
 | with_reducible refine Pu.o_is ?_
 | with_reducible refine Pu.zgX ?_
 | with_reducible refine Pu.ziU ?_
 | with_reducible refine Pu.ziT ?_
 | ((with_reducible refine Pu.zkp ?_ ?_); (focus (simp only[List.length_cons,List.length_nil]; decide)))
 | ((with_reducible refine Pu.zkt ?_ ?_); (focus (simp only[List.length_cons,List.length_nil]; decide)))
 | with_reducible refine Pu.ziI ?_
 | with_reducible refine Pu.ziH ?_
 | with_reducible refine Pu.ziS ?_
 | with_reducible refine Pu.ziR ?_
 | with_reducible refine Pu.zkx ?_
 | with_reducible refine Pu.zj1 ?_
 | with_reducible refine Pu.zj2 ?_
 | with_reducible refine Pu.ziZ ?_
 | with_reducible refine Pu.zj0 ?_
 | with_reducible refine Pu.ziV ?_
 | with_reducible refine Pu.ziY ?_
 | with_reducible refine Pu.ziW ?_
 | with_reducible refine Pu.ziX ?_
 | with_reducible refine Pu.ziQ ?_
 | with_reducible refine Pu.ziN ?_
 | with_reducible refine Pu.zkP ?_
 | with_reducible refine Pu.e_or ?_
 | with_reducible refine Pu.zkN ?_
 | with_reducible refine Pu.n_bl ?_
 | with_reducible refine Pu.zkO ?_
 | with_reducible refine Pu.zjt ?_
 | with_reducible refine Pu.zkE ?_
 | with_reducible refine Pu.zkD ?_
 | with_reducible refine Pu.e_sl ?_
 | with_reducible refine Pu.zkH ?_
 | with_reducible refine Pu.ziy ?_
 | with_reducible refine Pu.zix ?_
 | with_reducible refine Pu.zjn ?_
 | with_reducible refine Pu.zkU ?_
 | with_reducible refine Pu.zkT ?_
 | with_reducible refine Pu.z5e ?_
 | with_reducible refine Pu.z8G ?_
 | with_reducible refine Pu.zhJ ?_
 | with_reducible refine Pu.zhI ?_
 | with_reducible refine Pu.zhL ?_
 | with_reducible refine Pu.zhH ?_
 | with_reducible refine Pu.s_if ?_
 | with_reducible refine Pu.zjO ?_
 | with_reducible refine Pu.zhK ?_
 | with_reducible refine Pu.zhG ?_
 | with_reducible refine Pu.s_ex ?_
 | with_reducible refine Pu.zgh ?_
 | with_reducible refine Pu.zhQ ?_
 | ((with_reducible refine Pu.zjQ ?_); (walk_at "en"))
 | with_reducible refine Pu.zgk ?_
 | with_reducible refine Pu.zgj ?_
 | ((with_reducible refine Pu.zcS ?_ ?_); (focus walk_at "sf"); (walk_at "en"))
 | ((with_reducible refine Pu.zkS ?_); (walk_at "en"))
 | ((with_reducible refine Pu.zjA ?_); (walk_at "en")))
local macro_rules | `(tactic| walk_at "go") => `(tactic| repeat walk_at "st")
local macro_rules | `(tactic| walk_at "fn") => `(tactic| ((refine Pu.zjS rfl ?_); (walk_at "en")))
local macro_rules | `(tactic| walk_at "fe") => `(tactic| ((refine Pu.zjT rfl ?_); (walk_at "en")))
local macro_rules | `(tactic| ac_nf) => `(tactic| walk_at "go")
local macro_rules | `(tactic| ac_rfl) => `(tactic| walk_at "en")
namespace Pu
open PySem L2
def szl {n:Nat}(h:n<=1000000):n<=sizeLine:=Nat.le_trans h (by decide)
def szl' {n:Nat}(h:n<=1000000):n<sizeLine:=Nat.lt_of_le_of_lt h (by decide)
abbrev Vb (n:Nat)(p:Int × Int):Prop:=Bt n p.1/\Bt n p.2
def zhd {T:Nat->Fn}{i n:Nat}{es:List Ex}{ρ:Pu.Env}{Q:DK}{X:XP}(h:ρ.get i=some (.fn n))(q:runs es ρ (λds=>(T n).run ds Q X) X):(Ex.callv T i es).run ρ Q X:=⟨n,h,q⟩
def zdy {l:List D}{Q:DK}{X:XP}(q:Q (.lst l.reverse)):z2L.run [.lst l] Q X:=q
def zjF {α:Type}{b:α}{r:List α}:atI (b::r).reverse (-1)=some b:=by
 unfold atI ixN;rw[if_neg (by decide),List.length_reverse,List.length_cons,if_pos (by lia)];show (b::r).reverse[((-1:Int)+((r.length+1:Nat):Int)).toNat]? = some b;rw[show ((-1:Int)+((r.length+1:Nat):Int)).toNat=r.length by lia];simp
def zhj {α:Type}{a b:α}{r:List α}:atI (b::a::r).reverse (-2)=some a:=by
 unfold atI ixN;rw[if_neg (by decide),List.length_reverse,List.length_cons,List.length_cons,if_pos (by lia)];show (b::a::r).reverse[((-2:Int)+((r.length+1+1:Nat):Int)).toNat]? = some a;rw[show ((-2:Int)+((r.length+1+1:Nat):Int)).toNat=r.length by lia];simp
def zbY {α:Type}(l:List α):(l.drop (HT.sIx l.length 0 none)).take (HT.sIx l.length l.length (some (-1)) - HT.sIx l.length 0 none)=l.dropLast:=by
 rw[List.dropLast_eq_take];show (l.drop 0).take ((if (-1:Int)<0 then ((-1:Int)+(l.length:Int)).toNat else min (-1:Int).toNat l.length) - 0)=_;rw[if_pos (by decide),List.drop_zero]
 congr 1
 lia
def zjc {a b:Int × Int}:HT.z2h [a.1,a.2] [b.1,b.2]=true↔Geo.Lx a b:=by
 rw[HT.z3b,HT.z3b];unfold Geo.Lx
 split
 ·rename_i h
  split
  ·rename_i h'
   rw[HT.z9b]
   constructor
   ·intro z; cases z
   ·rintro(z | z) <;> lia
  ·simp; lia
 ·simp; lia
end Pu
namespace Geo
def z17.cyc {S:P->Prop}{h:List P}(x:z17 S h)(hl:2<=h.length){j:Nat}(hj:j<h.length){a b:P}(ea:h[(j+h.length - 1) % h.length]? = some a)(eb:h[j]? = some b):Edge S a b:=by
 obtain⟨m,t,rfl,h1,h2,h3,h4⟩:=x.ex
 rcases h4 with ⟨rfl,_⟩ | ⟨_,h4⟩
 ·simp at hl
 cases j with
 | zero=>
  rw[show (0+(m::t).length - 1) % (m::t).length=(m::t).length - 1 by rw[Nat.zero_add]; exact Nat.mod_eq_of_lt (by lia)] at ea;simp at eb;subst eb;refine z8T (i:=(m::t).length - 1) h4 ?_ ?_
  ·rw[List.getElem?_append_left (by lia)]; exact ea
  ·rw[show (m::t).length - 1+1=(m::t).length by lia,List.getElem?_append_right (Nat.le_refl _)]; simp
 | succ j=>
  rw[show (j+1+(m::t).length - 1) % (m::t).length=j by rw[show j+1+(m::t).length - 1=j+(m::t).length by lia,Nat.add_mod_right]; exact Nat.mod_eq_of_lt (by lia)] at ea;refine z8T (i:=j) h4 ?_ ?_
  ·rw[List.getElem?_append_left (by lia)]; exact ea
  ·rw[List.getElem?_append_left hj]; exact eb
def In (h:List P)(p:P):Prop:=match h with
 | []=>False
 | [m]=>p=m
 | [a,b]=>cr a b p=0/\0<=dot a b p/\0<=dot b a p
 | h=>∀j a b,j<h.length->h[(j+h.length - 1) % h.length]? = some a->h[j]? = some b->0<=cr a b p
def In.three {h:List P}{p:P}(hl:3<=h.length):In h p↔∀j a b,j<h.length->h[(j+h.length - 1) % h.length]? = some a->h[j]? = some b->0<=cr a b p:=by
 match h,hl with
 | a::b::c::r,_=>exact Iff.rfl
def z17.in {S:P->Prop}{h:List P}(x:z17 S h){p:P}(hp:S p):In h p:=by
 match h,x with
 | [],x=>obtain⟨m,t,e,_⟩:=x.ex; cases e
 | [m],x=>
  obtain⟨m',t,e,h1,h2,h3,h4⟩:=x.ex
  cases e
  rcases h4 with ⟨_,h4⟩ | ⟨h4,_⟩
  ·exact h4 p hp
  ·exact absurd rfl h4
 | [a,b],x=>
  have e1:Edge S a b:=x.cyc (j:=1) (by simp) (by simp) (by simp) rfl;have e2:Edge S b a:=x.cyc (j:=0) (by simp) (by simp) (by simp) rfl;have z0:cr b a p = -cr a b p:=by unfold cr; grind
  have z:cr a b p=0:=by have:=e1.left p hp; have:=e2.left p hp; lia
  exact⟨z,e1.btw p hp z⟩
 | a::b::c::r,x=>exact λj y z hj ey ez=>(x.cyc (by simp) hj ey ez).left p hp
def cy (h:List P)(i:Nat):P:=h.getD (i % h.length) (0,0)
def z4d {h:List P}{i:Nat}(hl:0<h.length):h[i % h.length]? = some (cy h i):=by
 unfold cy;have:=Nat.mod_lt i hl;rw[List.getD_eq_getElem?_getD,List.getElem?_eq_getElem this]
 rfl
def z8y {h:List P}{i:Nat}(hl:0<h.length):cy h i∈h:=List.mem_of_getElem? (z4d hl)
def z6Y {i n:Nat}(hn:0<n):((i+1) % n+n - 1) % n=i % n:=by
 have hr:=Nat.mod_lt i hn;have e:(i+1) % n=(i % n+1) % n:=by simp
 rw[e]
 rcases Nat.lt_or_ge (i % n+1) n with z | z
 ·rw[Nat.mod_eq_of_lt z,show i % n+1+n - 1=i % n+n by lia,Nat.add_mod_right,Nat.mod_eq_of_lt hr]
 ·have:i % n+1=n:=by lia
  rw[this,Nat.mod_self,Nat.zero_add,Nat.mod_eq_of_lt (by lia)];lia
def z6A {S:P->Prop}{h:List P}(x:z17 S h)(hl:2<=h.length)(i:Nat):Edge S (cy h i) (cy h (i+1)):=
 x.cyc hl (j:=(i+1) % h.length) (Nat.mod_lt _ (by lia)) (by rw[z6Y (by lia)]; exact z4d (by lia)) (z4d (by lia))
def ze2 {S:P->Prop}{h:List P}(x:z17 S h)(hl:3<=h.length)(i:Nat):cy h i≠cy h (i+2):=λz=>by
 have nd:=x.nodup;have h1:=z4d (h:=h) (i:=i) (by lia);have h2:=z4d (h:=h) (i:=i+2) (by lia);rw[<- z] at h2;obtain⟨g1,q1⟩:=List.getElem?_eq_some_iff.mp h1;obtain⟨g2,q2⟩:=List.getElem?_eq_some_iff.mp h2;have e:i % h.length=(i+2) % h.length:=by
  rcases Nat.lt_trichotomy (i % h.length) ((i+2) % h.length) with y | y | y
  ·exact(List.pairwise_iff_getElem.mp nd _ _ g1 g2 y (q1.trans q2.symm)).elim
  ·exact y
  ·exact(List.pairwise_iff_getElem.mp nd _ _ g2 g1 y (q2.trans q1.symm)).elim
 have hr:=Nat.mod_lt i (show 0<h.length by lia);have e2:(i+2) % h.length=(i % h.length+2) % h.length:=by simp
 rw[e2] at e;generalize i % h.length=r at*
 rcases Nat.lt_or_ge (r+2) h.length with y | y
 ·rw[Nat.mod_eq_of_lt y] at e; lia
 ·have e3:(r+2) % h.length=r+2 - h.length:=by
   rw[Nat.mod_eq_sub_mod y];exact Nat.mod_eq_of_lt (by lia)
  rw[e3] at e;lia
def zdt {R:P->P->Prop}:∀{l:List P},(∀i a b,l[i]? = some a->l[i+1]? = some b->R a b)->Path R l
 | [],_=>trivial
 | [_],_=>trivial
 | x::y::r,h=>⟨h 0 x y rfl rfl,zdt (l:=y::r) λi a b ea eb=>h (i+1) a b (by simpa using ea) (by simpa using eb)⟩
def zf8 {y m z p:P}(h1:0<=cr y m p)(h2:0<=cr m z p)(h3:0<cr y m z)(l1:Lx m y)(l2:Lx m z)(l3:Lx p m):False:=by
 unfold Lx at l1 l2 l3;have q:=zg9 (u1:=y.1 - m.1) (u2:=y.2 - m.2) (w1:=m.1 - p.1) (w2:=m.2 - p.2) (z1:=z.1 - m.1) (z2:=z.2 - m.2) (by lia) (by lia) (by lia) (by unfold cr at h1; grind) (by unfold cr at h2; grind);unfold cr at h3
 grind
def z17.fill {S T:P->Prop}{h:List P}(x:z17 S h)(hT:∀p∈h,T p)(hi:∀p,T p->In h p):z17 T h:=by
 have sub:=x.sub
 match h,x,hT,hi,sub with
 | [],x,_,_,_=>obtain⟨m,t,e,_⟩:=x.ex; cases e
 | [m],x,hT,hi,_=>exact⟨m,[],rfl,hT m (by simp),λp hp=>by rw[hi p hp]; exact Lx.irr,by simp,.inl ⟨rfl,hi⟩⟩
 | [a,b],x,hT,hi,sub=>
  obtain⟨m,t,e,h1,h2,h3,h4⟩:=x.ex
  cases e
  have e1:Edge S a b:=x.cyc (j:=1) (by simp) (by simp) (by simp) rfl;have hlt:Lx a b:=by
   rcases Lx.tri a b with z | z | z
   ·exact z
   ·exact absurd z e1.ne
   ·exact absurd z (h2 b e1.sb)
  refine⟨a,[b],rfl,hT a (by simp),λp hp z =>?_,h3,.inr ⟨by simp,⟨⟨hT a (by simp),hT b (by simp),e1.ne,λp hp =>?_,λp hp _=>(hi p hp).2⟩,⟨hT b (by simp),hT a (by simp),Ne.symm e1.ne,λp hp =>?_,λp hp _=>⟨(hi p hp).2.2,(hi p hp).2.1⟩⟩,trivial⟩⟩⟩
  ·obtain⟨y1,y2,y3⟩:=hi p hp;obtain⟨a1,a2⟩:=a;obtain⟨b1,b2⟩:=b;obtain⟨p1,p2⟩:=p;simp only[cr,dot,Lx] at*;generalize hu1:b1 - a1=u1 at*;generalize hu2:b2 - a2=u2 at*;generalize hq1:p1 - a1=q1 at*;generalize hq2:p2 - a2=q2 at*;have hz:q1<0\/q1=0/\q2<0:=by lia
   rcases(show 0<u1\/u1=0/\0<u2 by lia) with k1 | ⟨k1,k2⟩
   ·have e1:(q1*u1+q2*u2)*u1=q1*(u1*u1+u2*u2):=by grind
    have n1:=z0r u1;have n2:=z0r u2;have n3:0<u1*u1:=Int.mul_pos k1 k1;have e2:0<=q1*(u1*u1+u2*u2):=by rw[<- e1]; exact Int.mul_nonneg y2 (Int.le_of_lt k1)
    have e3:0<=q1:=z4I (show 0<u1*u1+u2*u2 by lia) e2;have e4:q1=0:=by lia
    subst e4;have e5:u1*q2=0:=by lia
    rcases Int.mul_eq_zero.mp e5 with z | z <;> lia
   ·subst k1;have e5:u2*q1=0:=by lia
    rcases Int.mul_eq_zero.mp e5 with z | z
    ·lia
    ·subst z;have:0<=q2*u2:=by lia
     have:=z4I k2 this;lia
  ·rw[(hi p hp).1]; exact Int.le_refl _
  ·have z0:cr b a p = -cr a b p:=by unfold cr; grind
   rw[z0,(hi p hp).1]; exact Int.le_refl _
 | a0::b0::c0::r0,x,hT,hi,sub=>
  generalize hh:a0::b0::c0::r0=h at*;have hl:3<=h.length:=by rw[<- hh]; simp
  have hi':∀p,T p->∀i,0<=cr (cy h i) (cy h (i+1)) p:=λp hp i=>by
   have q:=(In.three hl).mp (hi p hp) ((i+1) % h.length) (cy h i) (cy h (i+1)) (Nat.mod_lt _ (by lia));exact q (by rw[z6Y (by lia)]; exact z4d (by lia)) (z4d (by lia))
  have ed:=z6A x (by lia);have ne2:=ze2 x hl;have tn:∀i,0<cr (cy h i) (cy h (i+1)) (cy h (i+2)):=λi=>z7x (ed i) (ed (i+1)) (ne2 i);have ct:∀i,T (cy h i):=λi=>hT _ (z8y (by lia));have ed':∀i,Edge T (cy h (i+1)) (cy h (i+2)):=λi=>⟨ct _,ct _,(ed (i+1)).ne,λp hp=>hi' p hp (i+1),λp hp z=>⟨zbI (tn i) (hi' p hp i) z,zdA (tn (i+1)) (hi' p hp (i+2)) z⟩⟩
  have per:∀i,cy h (i+h.length)=cy h i:=λi=>by unfold cy; rw[Nat.add_mod_right]
  obtain⟨m,t,e,h1,h2,h3,h4⟩:=x.ex;have em:cy h 0=m:=by unfold cy; rw[e]; simp
  refine⟨m,t,e,hT m (by rw[e]; simp),λp hp z =>?_,h3,.inr ⟨λy=>by rw[e,y] at hl; simp at hl,zdt λi a b ea eb =>?_⟩⟩
  ·have l1:Lx m (cy h 1):=by
    rcases Lx.tri m (cy h 1) with y | y | y
    ·exact y
    ·exact absurd (em.trans y) (ed 0).ne
    ·exact absurd y (h2 _ (ed 0).sb)
   have el:Edge S (cy h (h.length - 1)) m:=by
    have:=ed (h.length - 1);rw[show h.length - 1+1=0+h.length by lia,per,em] at this;exact this
   have l2:Lx m (cy h (h.length - 1)):=by
    rcases Lx.tri m (cy h (h.length - 1)) with y | y | y
    ·exact y
    ·exact absurd y.symm el.ne
    ·exact absurd y (h2 _ el.sa)
   have p1:=hi' p hp (h.length - 1);rw[show h.length - 1+1=0+h.length by lia,per,em] at p1;have p2:=hi' p hp 0;rw[em] at p2;have p3:=tn (h.length - 1);rw[show h.length - 1+1=0+h.length by lia,show h.length - 1+2=1+h.length by lia,per,per,em] at p3;exact zf8 p1 p2 p3 l2 l1 z
  ·have hn:h.length=t.length+1:=by rw[e]; simp
   have get:∀i z,(m::t++[m])[i]? = some z->i<=h.length/\z=cy h i:=λi z ez=>by
    rcases Nat.lt_trichotomy i h.length with y | y | y
    ·rw[<- e,List.getElem?_append_left y] at ez;refine⟨by lia,?_⟩;have:=z4d (h:=h) (i:=i) (by lia);rw[Nat.mod_eq_of_lt y,ez] at this;exact(Option.some.inj this)
    ·rw[<- e,List.getElem?_append_right (by lia),y] at ez;simp at ez;refine⟨by lia,?_⟩;rw[show i=0+h.length by lia,per,em];exact ez.symm
    ·rw[<- e,List.getElem?_eq_none (by simp; lia)] at ez
     cases ez
   obtain⟨i1,rfl⟩:=get i a ea;obtain⟨i2,rfl⟩:=get (i+1) b eb;have:=ed' (i+h.length - 1);rw[show i+h.length - 1+1=i+h.length by lia,show i+h.length - 1+2=i+1+h.length by lia,per,per] at this;exact this
def sc (p b:P):Int:=p.1*b.1+p.2*b.2
def zct (b:P):∀{h:List P},h≠[]->∃i,i<h.length/\∀p∈h,sc p b<=sc (cy h i) b:=by
 have main:∀{h:List P},h≠[]->∃c∈h,∀p∈h,sc p b<=sc c b:=by
  intro h
  induction h with
  | nil=>intro z; exact absurd rfl z
  | cons x r ih=>
   intro _
   cases r with
   | nil=>exact⟨x,by simp,λp hp=>by simp at hp; subst hp; exact Int.le_refl _⟩
   | cons y r=>
    obtain⟨c,hc,hm⟩:=ih (by simp)
    by_cases z:sc x b<=sc c b
    ·refine⟨c,List.mem_cons_of_mem _ hc,λp hp =>?_⟩
     rcases List.mem_cons.mp hp with rfl | hp
     ·exact z
     ·exact hm p hp
    ·refine⟨x,by simp,λp hp =>?_⟩
     rcases List.mem_cons.mp hp with rfl | hp
     ·exact Int.le_refl _
     ·have:=hm p hp;lia
 intro h hn;obtain⟨c,hc,hm⟩:=main hn;obtain⟨i,hi,e⟩:=List.mem_iff_getElem.mp hc;refine⟨i,hi,λp hp =>?_⟩;have:cy h i=c:=by
  have:=z4d (h:=h) (i:=i) (by lia);rw[Nat.mod_eq_of_lt hi,List.getElem?_eq_getElem hi,e] at this;exact(Option.some.inj this).symm
 rw[this];exact hm p hp
def z17.far {S:P->Prop}{h:List P}(x:z17 S h){p:P}(hp:In h p)(b:P):∃c∈h,sc p b<=sc c b:=by
 match h,x,hp with
 | [],x,_=>obtain⟨m,t,e,_⟩:=x.ex; cases e
 | [m],x,hp=>exact⟨m,by simp,by rw[show p=m from hp]; exact Int.le_refl _⟩
 | [y,z],x,hp=>
  obtain⟨h1,h2,h3⟩:=hp;have e1:Edge S y z:=x.cyc (j:=1) (by simp) (by simp) (by simp) rfl;have hne:=e1.ne;obtain⟨y1,y2⟩:=y;obtain⟨z1,z2⟩:=z;obtain⟨p1,p2⟩:=p;obtain⟨b1,b2⟩:=b;simp only[cr,dot] at h1 h2 h3;generalize hu1:z1 - y1=u1 at*;generalize hu2:z2 - y2=u2 at*;generalize hq1:p1 - y1=q1 at*;generalize hq2:p2 - y2=q2 at*;have hpos:0<u1*u1+u2*u2:=by
   have:=z0r u1; have:=z0r u2
   rcases Int.lt_or_eq_of_le (show 0<=u1*u1+u2*u2 by lia) with k | k
   ·exact k
   ·obtain⟨k1,k2⟩:=z5w k.symm;exact(hne (Prod.ext (by show y1=z1; lia) (by show y2=z2; lia))).elim
  by_cases hb:0<=u1*b1+u2*b2
  ·refine⟨(z1,z2),by simp,?_⟩;simp only[sc];have k1:y1 - z1 = -u1:=by lia
   have k2:y2 - z2 = -u2:=by lia
   have k3:p1 - z1=q1 - u1:=by lia
   have k4:p2 - z2=q2 - u2:=by lia
   rw[k1,k2,k3,k4] at h3;have id1:(z1*b1+z2*b2 - (p1*b1+p2*b2))*(u1*u1+u2*u2)=((q1 - u1) * -u1+(q2 - u2) * -u2)*(u1*b1+u2*b2)+(u1*q2 - u2*q1)*(u2*b1 - u1*b2):=by
    have e1:z1=u1+y1:=by lia
    have e2:z2=u2+y2:=by lia
    have e3:p1=q1+y1:=by lia
    have e4:p2=q2+y2:=by lia
    subst e1 e2 e3 e4
    grind
   rw[h1,Int.zero_mul,Int.add_zero] at id1;have:=z4I hpos (by rw[id1]; exact Int.mul_nonneg h3 hb);lia
  ·refine⟨(y1,y2),by simp,?_⟩;simp only[sc];have id1:(y1*b1+y2*b2 - (p1*b1+p2*b2))*(u1*u1+u2*u2)=(q1*u1+q2*u2) * -(u1*b1+u2*b2) - (u1*q2 - u2*q1)*(u1*b2 - u2*b1):=by
    have e3:p1=q1+y1:=by lia
    have e4:p2=q2+y2:=by lia
    subst e3 e4
    grind
   rw[h1,Int.zero_mul,Int.sub_zero] at id1;have:=z4I hpos (by rw[id1]; exact Int.mul_nonneg h2 (by lia));lia
 | a0::b0::c0::r0,x,hp=>
  generalize hh:a0::b0::c0::r0=h at*;have hl:3<=h.length:=by rw[<- hh]; simp
  have hi':∀i,0<=cr (cy h i) (cy h (i+1)) p:=λi=>by
   have q:=(In.three hl).mp hp ((i+1) % h.length) (cy h i) (cy h (i+1)) (Nat.mod_lt _ (by lia));exact q (by rw[z6Y (by lia)]; exact z4d (by lia)) (z4d (by lia))
  have ed:=z6A x (by lia);have ne2:=ze2 x hl;have tn:∀i,0<cr (cy h i) (cy h (i+1)) (cy h (i+2)):=λi=>z7x (ed i) (ed (i+1)) (ne2 i);have per:∀i,cy h (i+h.length)=cy h i:=λi=>by unfold cy; rw[Nat.add_mod_right]
  obtain⟨i,hi,hm⟩:=zct b (h:=h) (by rw[<- hh]; simp);refine⟨cy h i,z8y (by lia),?_⟩;have m1:=hm (cy h (i+h.length - 1)) (z8y (by lia));have m2:=hm (cy h (i+1)) (z8y (by lia));have t0:=tn (i+h.length - 1);have l0:=hi' (i+h.length - 1);have l1:=hi' i;rw[show i+h.length - 1+1=i+h.length by lia,per] at t0 l0;rw[show i+h.length - 1+2=(i+1)+h.length by lia,per] at t0;generalize cy h (i+h.length - 1)=y at*;generalize cy h i=c at*;generalize cy h (i+1)=z at*;unfold cr at t0 l0 l1;unfold sc at m1 m2 ⊢;have t0':0<(z.1 - c.1)*(y.2 - c.2) - (z.2 - c.2)*(y.1 - c.1):=by grind
  have l0':0<=(p.1 - c.1)*(y.2 - c.2) - (p.2 - c.2)*(y.1 - c.1):=by grind
  have id1:(c.1*b.1+c.2*b.2 - (p.1*b.1+p.2*b.2))*((z.1 - c.1)*(y.2 - c.2) - (z.2 - c.2)*(y.1 - c.1))=((p.1 - c.1)*(y.2 - c.2) - (p.2 - c.2)*(y.1 - c.1))*(c.1*b.1+c.2*b.2 - (z.1*b.1+z.2*b.2))+((z.1 - c.1)*(p.2 - c.2) - (z.2 - c.2)*(p.1 - c.1))*(c.1*b.1+c.2*b.2 - (y.1*b.1+y.2*b.2)):=by grind
  have n1:=Int.mul_nonneg l0' (show 0<=c.1*b.1+c.2*b.2 - (z.1*b.1+z.2*b.2) by lia);have n2:=Int.mul_nonneg l1 (show 0<=c.1*b.1+c.2*b.2 - (y.1*b.1+y.2*b.2) by lia);have:=z4I t0' (by rw[id1]; lia);lia
def In.at_far {S:P->Prop}{h:List P}{p:P}(x:z17 S h)(hf:∀b,∃c∈h,sc p b<=sc c b):In h p:=by
 match h,x,hf with
 | [],x,_=>obtain⟨m,t,e,_⟩:=x.ex; cases e
 | [m],x,hf=>
  have g:∀b,sc p b<=sc m b:=λb=>by
   obtain⟨c,hc,le⟩:=hf b;rw[List.mem_singleton.mp hc] at le;exact le
  have h1:=g (1,0);have h2:=g (-1,0);have h3:=g (0,1);have h4:=g (0,-1);simp only[sc] at h1 h2 h3 h4;show p=m;exact Prod.ext (by omega) (by omega)
 | [a,b],x,hf=>
  have g:∀u,sc p u<=sc a u\/sc p u<=sc b u:=λu=>by
   obtain⟨c,hc,le⟩:=hf u;simp only[List.mem_cons,List.not_mem_nil,or_false] at hc
   rcases hc with rfl | rfl
   ·exact .inl le
   ·exact .inr le
  have q1:=z0r (b.1 - a.1);have q2:=z0r (b.2 - a.2);have h1:=g (-(b.2 - a.2),b.1 - a.1);have h2:=g (b.2 - a.2,-(b.1 - a.1));have h3:=g (a.1 - b.1,a.2 - b.2);have h4:=g (b.1 - a.1,b.2 - a.2);clear g hf x;have e1:sc p (-(b.2 - a.2),b.1 - a.1)=sc a (-(b.2 - a.2),b.1 - a.1)+cr a b p:=by simp only[sc,cr]; grind
  have e2:sc b (-(b.2 - a.2),b.1 - a.1)=sc a (-(b.2 - a.2),b.1 - a.1):=by simp only[sc]; grind
  have e3:sc p (b.2 - a.2,-(b.1 - a.1))=sc a (b.2 - a.2,-(b.1 - a.1)) - cr a b p:=by simp only[sc,cr]; grind
  have e4:sc b (b.2 - a.2,-(b.1 - a.1))=sc a (b.2 - a.2,-(b.1 - a.1)):=by simp only[sc]; grind
  have e5:sc p (a.1 - b.1,a.2 - b.2)=sc a (a.1 - b.1,a.2 - b.2) - dot a b p:=by simp only[sc,dot]; grind
  have e6:sc b (a.1 - b.1,a.2 - b.2)=sc a (a.1 - b.1,a.2 - b.2) - ((b.1 - a.1)*(b.1 - a.1)+(b.2 - a.2)*(b.2 - a.2)):=by simp only[sc]; grind
  have e7:sc p (b.1 - a.1,b.2 - a.2)=sc b (b.1 - a.1,b.2 - a.2) - dot b a p:=by simp only[sc,dot]; grind
  have e8:sc a (b.1 - a.1,b.2 - a.2)=sc b (b.1 - a.1,b.2 - a.2) - ((b.1 - a.1)*(b.1 - a.1)+(b.2 - a.2)*(b.2 - a.2)):=by simp only[sc]; grind
  show cr a b p=0/\0<=dot a b p/\0<=dot b a p;generalize cr a b p=z1 at*;generalize dot a b p=z2 at*;generalize dot b a p=z3 at*;generalize (b.1 - a.1)*(b.1 - a.1)=z4 at*;generalize (b.2 - a.2)*(b.2 - a.2)=z5 at*;rw[e1,e2] at h1;rw[e3,e4] at h2;rw[e5,e6] at h3;rw[e7,e8] at h4;refine⟨?_,?_,?_⟩ <;> omega
 | a0::b0::c0::t,x,hf=>
  refine(In.three (by simp)).mpr λj a b hj ea eb =>?_;have e:=x.cyc (by simp) hj ea eb;obtain⟨c,hc,le⟩:=hf (b.2 - a.2,-(b.1 - a.1));have l:=e.left c (x.sub c hc);simp only[sc] at le;simp only[cr] at l ⊢
  grind
abbrev T3:=Int × Int × Int
def cr3 (a b c:T3):Int:=a.1*(b.2.1*c.2.2 - c.2.1*b.2.2) - a.2.1*(b.1*c.2.2 - c.1*b.2.2)+a.2.2*(b.1*c.2.1 - b.2.1*c.1)
def up (M:Int)(t:T3):P:=(t.1*(M / t.2.2),t.2.1*(M / t.2.2))
structure Dv (M:Int)(t:T3):Prop where
 m:0<M
 pos:0<t.2.2
 dvd:t.2.2 ∣ M
def Dv.k {M:Int}{t:T3}(h:Dv M t):0<M / t.2.2/\t.2.2*(M / t.2.2)=M:=by
 obtain⟨h1,h2,k,rfl⟩:=h;rw[Int.mul_ediv_cancel_left _ (by omega)];refine⟨?_,rfl⟩;exact zbo h2 (by rw[Int.mul_comm]; exact h1)
def Dv.mul {M:Int}{t:T3}(h:Dv M t){n:Int}(hn:0<n):Dv (M*n) t:=⟨Int.mul_pos h.m hn,h.pos,Int.dvd_trans h.dvd ⟨n,rfl⟩⟩
def z79 {k l x y:Int}(hk:0<k)(hl:0<l)(e:x*k=l*y):(0<x↔0<y)/\(x=0↔y=0):=by
 refine⟨⟨λh =>?_,λh =>?_⟩,⟨λh =>?_,λh =>?_⟩⟩
 ·have:0<l*y:=by rw[<- e]; exact Int.mul_pos h hk
  exact zbo hl (by rw[Int.mul_comm]; exact this)
 ·have:0<x*k:=by rw[e]; exact Int.mul_pos hl h
  exact zbo hk this
 ·rw[h,Int.zero_mul] at e
  rcases Int.mul_eq_zero.mp e.symm with z | z
  ·omega
  ·exact z
 ·rw[h,Int.mul_zero] at e
  rcases Int.mul_eq_zero.mp e with z | z
  ·exact z
  ·omega
def zjy {M:Int}{a b c:T3}(ha:Dv M a)(hb:Dv M b)(hc:Dv M c):cr3 a b c*(M / a.2.2*(M / b.2.2)*(M / c.2.2))=M*cr (up M a) (up M b) (up M c):=by
 obtain⟨_,ea⟩:=ha.k;obtain⟨_,eb⟩:=hb.k;obtain⟨_,ec⟩:=hc.k;unfold cr3 cr up;generalize M / a.2.2=i at*;generalize M / b.2.2=j at*;generalize M / c.2.2=k at*
 grind
def zg2 {M:Int}{a b c:T3}(ha:Dv M a)(hb:Dv M b)(hc:Dv M c):(0<cr3 a b c↔0<cr (up M a) (up M b) (up M c))/\(cr3 a b c=0↔cr (up M a) (up M b) (up M c)=0):=
 z79 (Int.mul_pos (Int.mul_pos ha.k.1 hb.k.1) hc.k.1) ha.m (zjy ha hb hc)
def zjz {M:Int}{a b c:T3}(ha:Dv M a)(hb:Dv M b)(hc:Dv M c):cr3 a b c<=0↔cr (up M a) (up M b) (up M c)<=0:=by
 have:=(zg2 ha hb hc).1;omega
def z2X (v:T3):List T3->List T3
 | b::a::r=>if cr3 a b v<=0 then z2X v (a::r) else b::a::r
 | s=>s
def z9T {M:Int}{v:T3}(hv:Dv M v):∀{s:List T3},(∀x∈s,Dv M x)->(z2X v s).map (up M)=pops (up M v) (s.map (up M))/\∀x∈z2X v s,x∈s
 | [],_=>⟨rfl,λ_ h=>h⟩
 | [_],_=>⟨rfl,λ_ h=>h⟩
 | b::a::r,h=>by
  have ih:=z9T hv (s:=a::r) λx hx=>h x (List.mem_cons_of_mem _ hx);have e:=zjz (h a (by simp)) (h b (by simp)) hv;show (if cr3 a b v<=0 then z2X v (a::r) else b::a::r).map (up M)=(if cr (up M a) (up M b) (up M v)<=0 then pops (up M v) (up M a::r.map (up M)) else up M b::up M a::r.map (up M))/\∀x∈(if cr3 a b v<=0 then z2X v (a::r) else b::a::r),x∈b::a::r
  by_cases hc:cr3 a b v<=0
  ·rw[if_pos hc,if_pos (e.mp hc)];exact⟨ih.1,λx hx=>List.mem_cons_of_mem _ (ih.2 x hx)⟩
  ·rw[if_neg hc,if_neg λz=>hc (e.mpr z)];exact⟨rfl,λ_ h=>h⟩
def z5s (l:List T3):List T3:=l.foldl (λs v=>v::z2X v s) []
def zaj {M:Int}:∀{l s:List T3},(∀x∈l,Dv M x)->(∀x∈s,Dv M x)->(l.foldl (λs v=>v::z2X v s) s).map (up M)=(l.map (up M)).foldl (λs v=>v::pops v s) (s.map (up M))/\∀x∈l.foldl (λs v=>v::z2X v s) s,x∈l\/x∈s
 | [],s,_,_=>⟨rfl,λx h =>.inr h⟩
 | v::l,s,h,hs=>by
  have hv:=h v (by simp);obtain⟨p1,p2⟩:=z9T hv hs;have hs':∀x∈v::z2X v s,Dv M x:=λx hx=>by
   rcases List.mem_cons.mp hx with rfl | hx
   ·exact hv
   ·exact hs x (p2 x hx)
  obtain⟨q1,q2⟩:=zaj (l:=l) (s:=v::z2X v s) (λx hx=>h x (List.mem_cons_of_mem _ hx)) hs';refine⟨?_,λx hx =>?_⟩
  ·show (l.foldl (λs v=>v::z2X v s) (v::z2X v s)).map (up M)=(l.map (up M)).foldl (λs v=>v::pops v s) (up M v::pops (up M v) (s.map (up M)));rw[q1,List.map_cons,p1]
  ·rcases q2 x hx with z | z
   ·exact .inl (List.mem_cons_of_mem _ z)
   ·rcases List.mem_cons.mp z with rfl | z
    ·exact .inl (by simp)
    ·exact .inr (p2 x z)
def z8B {M:Int}{l:List T3}(h:∀x∈l,Dv M x):(z5s l).map (up M)=z55 (l.map (up M))/\∀x∈z5s l,x∈l:=by
 obtain⟨p,q⟩:=zaj (M:=M) (l:=l) (s:=[]) h (by simp);exact⟨p,λx hx=>(q x hx).resolve_right (by simp)⟩
def zaa (l:List T3):List T3:=if l.length<=1 then l else (z5s l).reverse.dropLast++(z5s l.reverse).reverse.dropLast
def zdO {M:Int}{l:List T3}(h:∀x∈l,Dv M x):(zaa l).map (up M)=hull (l.map (up M))/\∀x∈zaa l,x∈l:=by
 obtain⟨p,q⟩:=z8B h;obtain⟨p',q'⟩:=z8B (M:=M) (l:=l.reverse) λx hx=>h x (by simpa using hx);unfold zaa hull;rw[List.length_map]
 by_cases hl:l.length<=1
 ·rw[if_pos hl,if_pos hl];exact⟨rfl,λ_ h=>h⟩
 ·rw[if_neg hl,if_neg hl];refine⟨?_,λx hx =>?_⟩
  ·rw[<- List.map_reverse] at*;rw[<- p, <- p',List.map_append,List.map_dropLast,List.map_dropLast,List.map_reverse,List.map_reverse]
  ·rcases List.mem_append.mp hx with hx | hx
   ·exact q x (by simpa using (List.dropLast_sublist _).subset hx)
   ·simpa using q' x (by simpa using (List.dropLast_sublist _).subset hx)
def Lx3 (a b:T3):Prop:=a.1*b.2.2<b.1*a.2.2\/(a.1*b.2.2=b.1*a.2.2/\a.2.1*b.2.2<b.2.1*a.2.2)
def tops {M x y a b:Int}(ha:0<a)(hb:0<b)(da:a ∣ M)(db:b ∣ M)(hm:0<M):(x*b<y*a↔x*(M / a)<y*(M / b))/\(x*b=y*a↔x*(M / a)=y*(M / b)):=by
 obtain⟨k1,e1⟩:=Dv.k (t:=(0,0,a)) ⟨hm,ha,da⟩;obtain⟨k2,e2⟩:=Dv.k (t:=(0,0,b)) ⟨hm,hb,db⟩;dsimp only at k1 e1 k2 e2;generalize M / a=i at*;generalize M / b=j at*;have e:(y*a - x*b)*(i*j)=M*(y*j - x*i):=by grind
 have:=z79 (Int.mul_pos k1 k2) hm e;omega
def zfW {M:Int}{a b:T3}(ha:Dv M a)(hb:Dv M b):Lx3 a b↔Lx (up M a) (up M b):=by
 have h1:=tops (x:=a.1) (y:=b.1) ha.pos hb.pos ha.dvd hb.dvd hb.m;have h2:=tops (x:=a.2.1) (y:=b.2.1) ha.pos hb.pos ha.dvd hb.dvd hb.m;unfold Lx3 Lx up;dsimp only;rw[h1.1,h1.2,h2.1]
def Lo (t:T3):Prop:=0<t.2.2/\Int.gcd (Int.gcd t.1 t.2.1) t.2.2=1
def Lo.eq {a b:T3}(ha:Lo a)(hb:Lo b)(e1:a.1*b.2.2=b.1*a.2.2)(e2:a.2.1*b.2.2=b.2.1*a.2.2):a=b:=by
 obtain⟨x,y,w⟩:=a;obtain⟨u,v,t⟩:=b;obtain⟨p1,g1⟩:=ha;obtain⟨p2,g2⟩:=hb;dsimp only at*;have dv:∀{x y w u v t:Int},Int.gcd (Int.gcd x y) w=1->x*t=u*w->y*t=v*w->w ∣ t:=by
  intro x y w u v t g a1 a2;have d1:w ∣ x*t:=⟨u,by rw[a1,Int.mul_comm]⟩
  have d2:w ∣ y*t:=⟨v,by rw[a2,Int.mul_comm]⟩
  rw[<- Int.natAbs_dvd_natAbs] at d1 d2 ⊢;rw[Int.natAbs_mul] at d1 d2;have d3:w.natAbs ∣ Nat.gcd (x.natAbs*t.natAbs) (y.natAbs*t.natAbs):=Nat.dvd_gcd d1 d2;rw[Nat.gcd_mul_right] at d3;have g':Nat.gcd w.natAbs (Nat.gcd x.natAbs y.natAbs)=1:=by rw[Nat.gcd_comm]; exact g
  exact Nat.Coprime.dvd_of_dvd_mul_left g' d3
 have w1:=dv g1 e1 e2;have w2:=dv g2 e1.symm e2.symm;have hw:w=t:=Int.dvd_antisymm (by omega) (by omega) w1 w2;subst hw;have hx:=Int.eq_of_mul_eq_mul_right (by omega) e1;have hy:=Int.eq_of_mul_eq_mul_right (by omega) e2;rw[hx,hy]
def Lo.inj {M:Int}{a b:T3}(ha:Lo a)(hb:Lo b)(da:Dv M a)(db:Dv M b)(e:up M a=up M b):a=b:=by
 have h1:=tops (x:=a.1) (y:=b.1) da.pos db.pos da.dvd db.dvd db.m;have h2:=tops (x:=a.2.1) (y:=b.2.1) da.pos db.pos da.dvd db.dvd db.m;have e1:=congrArg Prod.fst e;have e2:=congrArg Prod.snd e;exact Lo.eq ha hb (h1.2.mpr e1) (h2.2.mpr e2)
def zbU {g x y a b:Int}(ha:0<a)(hb:0<b)(hag:a<=g)(hbg:b<=g):(x*(g*g) / a<y*(g*g) / b↔x*b<y*a)/\(x*b=y*a->x*(g*g) / a=y*(g*g) / b):=by
 have ab:a*b<=g*g:=Int.mul_le_mul hag hbg (by omega) (by omega);have lt:∀{x y a b:Int},0<a->0<b->a*b<=g*g->x*b<y*a->x*(g*g) / a<y*(g*g) / b:=by
  intro x y a b ha hb ab h;have h1:x*(g*g) / a*a<=x*(g*g):=Int.ediv_mul_le _ (by omega);refine Int.lt_of_lt_of_le (Int.lt_succ _) ((Int.le_ediv_iff_mul_le hb).mpr ?_);have h2:(x*(g*g) / a+1)*b*a<=y*(g*g)*a:=by
   have e1:(x*(g*g) / a+1)*b*a=x*(g*g) / a*a*b+a*b:=by grind
   have e2:x*(g*g) / a*a*b<=x*(g*g)*b:=Int.mul_le_mul_of_nonneg_right h1 (by omega);have e3:(x*b+1)*(g*g)<=y*a*(g*g):=Int.mul_le_mul_of_nonneg_right h (z0r g);have e4:(x*b+1)*(g*g)=x*(g*g)*b+g*g:=by grind
   have e5:y*a*(g*g)=y*(g*g)*a:=by grind
   omega
  exact Int.le_of_mul_le_mul_right h2 ha
 have eq:x*b=y*a->x*(g*g) / a=y*(g*g) / b:=λe=>by
  rw[<- Int.mul_ediv_mul_of_pos_left (x*(g*g)) a hb, <- Int.mul_ediv_mul_of_pos_left (y*(g*g)) b ha,Int.mul_comm b a,show x*(g*g)*b=x*b*(g*g) by grind,e,show y*a*(g*g)=y*(g*g)*a by grind]
 refine⟨⟨λh =>?_,lt ha hb ab⟩,eq⟩
 rcases Int.lt_trichotomy (x*b) (y*a) with z | z | z
 ·exact z
 ·rw[eq z] at h; omega
 ·have:=lt hb ha (by rw[Int.mul_comm]; exact ab) z;omega
def Ar (l h:List T3):Prop:=∃rl:List T3,rl.Pairwise Lx3/\(∀p,p∈rl↔p∈l)/\h=zaa rl
def zam:∀{l:List T3},(∀t∈l,0<t.2.2)->∃M,0<M/\∀t∈l,Dv M t
 | [],_=>⟨1,by decide,by simp⟩
 | t::l,h=>by
  obtain⟨M,hm,hM⟩:=zam (l:=l) λt ht=>h t (List.mem_cons_of_mem _ ht);have ht:=h t (by simp);refine⟨M*t.2.2,Int.mul_pos hm ht,λu hu =>?_⟩
  rcases List.mem_cons.mp hu with rfl | hu
  ·exact⟨Int.mul_pos hm ht,ht,⟨M,Int.mul_comm ..⟩⟩
  ·exact(hM u hu).mul ht
def Ar.sub {l h:List T3}(x:Ar l h):∀p∈h,p∈l:=by
 obtain⟨rl,h1,h2,rfl⟩:=x;intro p hp;refine(h2 p).mp ?_;unfold zaa at hp;have c0:∀(v:T3) (s:List T3),∀x∈z2X v s,x∈s:=by
  intro v s
  induction s with
  | nil=>exact λ_ h=>h
  | cons b s ih=>
   cases s with
   | nil=>exact λ_ h=>h
   | cons a r=>
    intro x hx;rw[z2X] at hx
    split at hx
    ·exact List.mem_cons_of_mem _ (ih x hx)
    ·exact hx
 have c1:∀(l s:List T3),∀x∈l.foldl (λs v=>v::z2X v s) s,x∈l\/x∈s:=by
  intro l
  induction l with
  | nil=>exact λ_ _ h =>.inr h
  | cons v l ih=>
   intro s x hx
   rcases ih _ x hx with z | z
   ·exact .inl (List.mem_cons_of_mem _ z)
   ·rcases List.mem_cons.mp z with rfl | z
    ·exact .inl (by simp)
    ·exact .inr (c0 v s x z)
 split at hp
 ·exact hp
 ·rcases List.mem_append.mp hp with z | z
  ·exact(c1 rl [] p (by simpa[z5s] using (List.dropLast_sublist _).subset z)).resolve_right (by simp)
  ·exact List.mem_reverse.mp ((c1 rl.reverse [] p (List.mem_reverse.mp ((List.dropLast_sublist _).subset z))).resolve_right (by simp))
def Ar.hd {M:Int}{l h:List T3}(x:Ar l h)(hd:∀p∈l,Dv M p):Hd (l.map (up M)) (h.map (up M)):=by
 obtain⟨rl,h1,h2,rfl⟩:=x;have hd':∀p∈rl,Dv M p:=λp hp=>hd p ((h2 p).mp hp);refine⟨rl.map (up M),?_,λp =>?_,(zdO hd').1⟩
 ·rw[List.pairwise_map];exact h1.imp_of_mem λ{a b} ha hb h=>(zfW (hd' a ha) (hd' b hb)).mp h
 ·rw[List.mem_map,List.mem_map];exact⟨λ⟨q,hq,e⟩=>⟨q,(h2 q).mp hq,e⟩,λ⟨q,hq,e⟩=>⟨q,(h2 q).mpr hq,e⟩⟩
def Ar.is {M:Int}{l h:List T3}(x:Ar l h)(hd:∀p∈l,Dv M p)(hn:l≠[]):z17 (· ∈ l.map (up M)) (h.map (up M)):=(x.hd hd).is (by simpa using hn)
def Ar.nil {h:List T3}(x:Ar [] h):h=[]:=by
 cases h with
 | nil=>rfl
 | cons a r=>exact absurd (x.sub a (by simp)) (by simp)
def Ar.ne {l h:List T3}(x:Ar l h)(hp:∀t∈l,0<t.2.2)(hn:l≠[]):h≠[]:=λz=>by
 obtain⟨M,_,hM⟩:=zam hp;obtain⟨m,t,e,_⟩:=(x.is hM hn).ex;rw[z] at e;simp at e
def zfV {α β:Type}{f:α->β}:∀{l l':List α},(∀a∈l,∀b∈l',f a=f b->a=b)->l.map f=l'.map f->l=l'
 | [],[],_,_=>rfl
 | [],_::_,_,h=>by simp at h
 | _::_,[],_,h=>by simp at h
 | a::l,b::l',hi,h=>by
  rw[List.map_cons,List.map_cons] at h
  injection h with h1 h2
  rw[hi a (by simp) b (by simp) h1,zfV (λa ha b hb=>hi a (List.mem_cons_of_mem _ ha) b (List.mem_cons_of_mem _ hb)) h2]
def In.between {S:P->Prop}{h:List P}(x:z17 S h){a b p:P}(ha:In h a)(hb:In h b){i j:Int}(hi:0<=i)(hj:0<=j)(hij:0<i+j)(e1:p.1*(i+j)=a.1*i+b.1*j)(e2:p.2*(i+j)=a.2*i+b.2*j):In h p:=by
 refine In.at_far x λd =>?_;obtain⟨c1,m1,q1⟩:=x.far ha d;obtain⟨c2,m2,q2⟩:=x.far hb d;have e:sc p d*(i+j)=sc a d*i+sc b d*j:=by unfold sc; grind
 have k:∀z,sc a d<=z->sc b d<=z->sc p d<=z:=λz z1 z2=>by
  have h1:sc a d*i<=z*i:=Int.mul_le_mul_of_nonneg_right z1 hi;have h2:sc b d*j<=z*j:=Int.mul_le_mul_of_nonneg_right z2 hj;have h3:sc p d*(i+j)<=z*(i+j):=by rw[e,Int.mul_add]; omega
  exact Int.le_of_mul_le_mul_right h3 hij
 rcases Int.le_total (sc c1 d) (sc c2 d) with z | z
 ·exact⟨c2,m2,k _ (by omega) q2⟩
 ·exact⟨c1,m1,k _ q1 (by omega)⟩
def st3 (a b:T3):P:=(b.1*a.2.2 - a.1*b.2.2,b.2.1*a.2.2 - a.2.1*b.2.2)
def z9K {M:Int}{a b p:T3}(ha:Dv M a)(hb:Dv M b)(hp:Dv M p):
  (0<=(st3 a b).1*(st3 a p).2 - (st3 a b).2*(st3 a p).1↔0<=cr (up M a) (up M b) (up M p))/\(0<(st3 a b).1*(st3 a p).2 - (st3 a b).2*(st3 a p).1↔0<cr (up M a) (up M b) (up M p))/\
  (0<=(st3 a b).1*(st3 a p).1+(st3 a b).2*(st3 a p).2↔0<=dot (up M a) (up M b) (up M p)):=by
 obtain⟨k1,ea⟩:=ha.k;obtain⟨k2,eb⟩:=hb.k;obtain⟨k3,ep⟩:=hp.k;have hm:=ha.m;have kk:=Int.mul_pos (Int.mul_pos k1 k2) (Int.mul_pos k1 k3);have mm:=Int.mul_pos hm hm;unfold st3 cr dot up;dsimp only;generalize M / a.2.2=i at*;generalize M / b.2.2=j at*;generalize M / p.2.2=k at*;have f1:(b.1*a.2.2 - a.1*b.2.2)*(i*j)=M*(b.1*j - a.1*i):=by grind
 have f2:(b.2.1*a.2.2 - a.2.1*b.2.2)*(i*j)=M*(b.2.1*j - a.2.1*i):=by grind
 have f3:(p.1*a.2.2 - a.1*p.2.2)*(i*k)=M*(p.1*k - a.1*i):=by grind
 have f4:(p.2.1*a.2.2 - a.2.1*p.2.2)*(i*k)=M*(p.2.1*k - a.2.1*i):=by grind
 generalize b.1*a.2.2 - a.1*b.2.2=u1 at*;generalize b.2.1*a.2.2 - a.2.1*b.2.2=u2 at*;generalize p.1*a.2.2 - a.1*p.2.2=v1 at*;generalize p.2.1*a.2.2 - a.2.1*p.2.2=v2 at*;generalize b.1*j - a.1*i=x1 at*;generalize b.2.1*j - a.2.1*i=x2 at*;generalize p.1*k - a.1*i=y1 at*;generalize p.2.1*k - a.2.1*i=y2 at*;have g:∀u v x y:Int,u*(i*j)=M*x->v*(i*k)=M*y->u*v*(i*j*(i*k))=M*M*(x*y):=λu v x y h1 h2=>by
  rw[show u*v*(i*j*(i*k))=u*(i*j)*(v*(i*k)) by grind,h1,h2]
  grind
 have c:=z79 (x:=u1*v2 - u2*v1) (y:=x1*y2 - x2*y1) kk mm (by rw[Int.sub_mul,g _ _ _ _ f1 f4,g _ _ _ _ f2 f3,Int.mul_sub]);have d:=z79 (x:=u1*v1+u2*v2) (y:=y1*x1+y2*x2) kk mm (by rw[Int.add_mul,g _ _ _ _ f1 f3,g _ _ _ _ f2 f4]; grind);refine⟨?_,?_,?_⟩ <;> omega
end Geo
namespace Pu
open PySem L2
end Pu
namespace Pu
open PySem PySem.Spec PyProof.Rows L2
def gAll (d:D)(Q:DK):Prop:=∃bs:List Bool,d = .lst (bs.map .bl)/\Q (.bl (bs.all id))
def pAll:Fn:=fn1 gAll λd Q Q' m h=>by
 obtain⟨bs,e,q⟩:=h;exact⟨bs,e,m _ q⟩
def zj4 {bs:List Bool}{Q:DK}{X:XP}(q:Q (.bl (bs.all id))):pAll.run [.lst (bs.map .bl)] Q X:=⟨bs,rfl,q⟩
section
variable {X:Cx}
def zd3 {K:W.Frag}{mg:Str->Option Value}{G:Hp}:∀(bs:List Bool) {xs:List V},RDs K mg G (bs.map .bl) xs->xs=bs.map .bl
 | [],xs,h=>by
  rw[List.map_nil,RDs] at h;exact h
 | b::bs,xs,h=>by
  rw[List.map_cons,RDs] at h;obtain⟨v,r,rfl,h1,h2⟩:=h;rw[zd3 bs h2,zaW h1]
  rfl
def zg3 (hc:X.calm=true):z2p X (.builtin "all") (rN X.K X.mg pAll):=(ze8 hc).imp λvs H Q ⟨G,ds,Q0,X0,g,rds,hr,hk⟩=>by
 obtain⟨d,rfl,hr'⟩:=z58 hr;obtain⟨v,rfl,rd⟩:=rds1 rds;obtain⟨bs,rfl,q⟩:=hr';obtain⟨a,xs,rfl,h1,h2⟩:=z3k rd;rw[zd3 bs h2] at h1;exact⟨a,bs,rfl,z2s g h1,hk.now g q RD.bl'⟩
end
end Pu
namespace Pu
open PySem PySem.Spec PyProof.Rows L2 Tab
end Pu
namespace Tim
open PySem PyProof.Rows PySem.W HT Tab
section
variable {prog:Program}{w:World}{A:Around}{E:Value->Shared->Prop}{s:Shared}
def z2b:Nat:=64
def zaO {n:Nat}(h:n<z2b):n<sizeLine:=Nat.lt_of_lt_of_le h (show z2b<=sizeLine by decide)
structure KI (a kS:Addr)(e1:Nat)(kz:List (List Int))(ks:List Value)(s':Shared):Prop where
 hasA:s'.heap.get? a=some (seqObj "list" #[] e1)
 hasK:∃e,s'.heap.get? kS=some (seqObj "list" ks.toArray e)
 tell:∀(i:Nat) u k,ks[i]? = some u->kz[i]? = some k->TI s'.heap u k
def KOut (kz:List (List Int))(vs out:List Value):Prop:=∃ps:List (List Int × Value),ps.Perm (kz.zip vs)/\out=ps.map Prod.snd/\ps.Pairwise (λp q=>HT.z2h q.1 p.1=false)
def zfB {ks vs:List Value}{key:Value->List Int}(hk:∀v∈ks,TI s.heap v (key v))(b:Bool):Asks (model prog w) A s (tuples' b) (ks.toArray.zip vs.toArray) (λp=>rkL (ks.map key) (key p.1)):=by
 intro x y hx hy Q E h;rw[ksk_zip] at hx hy;have mx:x.1∈ks:=(List.of_mem_zip (b:=x.2) hx).1;have my:y.1∈ks:=(List.of_mem_zip (b:=y.2) hy).1;rw[<- zbt (List.mem_map.mpr ⟨_,mx,rfl⟩) (List.mem_map.mpr ⟨_,my,rfl⟩)] at h;obtain⟨a1,o1,i1,n1,e1,g1,c1,d1,k1⟩:=hk _ mx;obtain⟨a2,o2,i2,n2,e2,g2,c2,d2,k2⟩:=hk _ my;rw[e1] at h k1;rw[e2] at h k2;rw[e1,e2];exact kat_lt g1 d1 g2 d2 (z5A 0 k1 k2 (by rw[<- IntsAre.length k1, <- IntsAre.length k2,Array.length_toList,Array.length_toList]) h)
def zh4 {a kS:Addr}{e1:Nat}{kz:List (List Int)}{ks vs:List Value}{P:PySem.Fin->Shared->Prop}(hka:kS≠a)(I:KI a kS e1 kz ks s)(hl:kz.length=vs.length)(hl':ks.length=vs.length)(hne:∀k∈kz,k≠[])(h64:vs.length<z2b)
  (h:∀out:List Value,out.length=vs.length->KOut kz vs out->P (.done (.ret .none)) { s with heap:=(s.heap.update kS (Obj.mapSeq λ_ => #[])).update a (Obj.mapSeq λ_=>out.toArray) }):
  wpAny (model prog w) A (ksk_end a false vs.toArray e1 (.ref kS) ks.toArray) P E s:=by
 have hz:vs.length<=sizeLine:=Nat.le_of_lt (zaO h64);have hti:∀v∈ks,TI s.heap v (z3w s.heap v)/\z3w s.heap v∈kz:=λv hv=>by
  obtain⟨i,hi⟩:=List.getElem?_of_mem hv;have hil:i<kz.length:=by
   have:=(List.getElem?_eq_some_iff.mp hi).1;omega
  have t:=I.tell i v _ hi (List.getElem?_eq_getElem hil);rw[z5R t];exact⟨t,List.getElem_mem _⟩
 have hkz:ks.map (z3w s.heap)=kz:=by
  refine List.ext_getElem? λi =>?_;rw[List.getElem?_map]
  by_cases hi:i<ks.length
  ·rw[List.getElem?_eq_getElem hi,List.getElem?_eq_getElem (show i<kz.length by omega),Option.map_some,z5R (I.tell i _ _ (List.getElem?_eq_getElem hi) (List.getElem?_eq_getElem (show i<kz.length by omega)))]
  ·rw[List.getElem?_eq_none (by omega),List.getElem?_eq_none (by omega),Option.map_none]
 obtain⟨eK,hK⟩:=I.hasK;have hA1:(s.heap.update kS (Obj.mapSeq λ_=>(#[]:Array Value))).get? a=some (seqObj "list" #[] e1):=by
  rw[Heap.get?_update_ne _ _ _ _ hka.symm];exact I.hasA
 have tail:∀st:SortSt,failedOf st=none->(arrOf st).Perm (ks.toArray.zip vs.toArray)->Up (λp=>rkL (ks.map (z3w s.heap)) (z3w s.heap p.1)) (arrOf st).toList->wpAny (model prog w) A (ksk_tail a false e1 (.ref kS) st) P E s:=λst hf hp hu=>by
  have hout:(arrOf st).map (·.2)=(((arrOf st).toList.map (·.2)).toArray:Array Value):=by
   apply Array.toList_inj.mp;rw[Array.toList_map]
  have hlen:((arrOf st).toList.map (·.2)).length=vs.length:=by
   rw[List.length_map,Array.length_toList,hp.size_eq,Array.size_zip,List.size_toArray,List.size_toArray,hl',Nat.min_self]
  have hpl:(arrOf st).toList.Perm (ks.zip vs):=by
   have:=Array.perm_iff_toList_perm.mp hp;rw[ksk_zip] at this;exact this
  unfold ksk_tail
  try dsimp only
  rw[hout];refine wpAny_bind (listUpdate_at hK rfl ?_ (by rw[List.size_toArray]; omega) (Nat.zero_le _));refine wpAny_bind (wpAny_letGo ?_);refine wpAny_bind (seqEpoch_at hA1 rfl ?_);refine wpAny_bind (listUpdate_at hA1 rfl ?_ (Nat.zero_le _) (by show (List.toArray _).size<=_; rw[List.size_toArray,hlen]; omega));rw[hf];simp only[bne_self_eq_false,Bool.false_eq_true,if_false];refine wpAny_pure (h _ hlen ⟨(arrOf st).toList.map λp=>(z3w s.heap p.1,p.2),?_,?_,?_⟩)
  ·refine(hpl.map _).trans ?_;rw[<- hkz,List.zip_map_left];exact List.Perm.refl _
  ·rw[List.map_map]; rfl
  ·rw[List.pairwise_map];refine List.Pairwise.imp_of_mem (λ{x y} hx hy hxy =>?_) hu;have mx:x.1∈ks:=(List.of_mem_zip (b:=x.2) (hpl.mem_iff.mp hx)).1;have my:y.1∈ks:=(List.of_mem_zip (b:=y.2) (hpl.mem_iff.mp hy)).1;show HT.z2h (z3w s.heap y.1) (z3w s.heap x.1)=false;rw[zbt (List.mem_map.mpr ⟨_,my,rfl⟩) (List.mem_map.mpr ⟨_,mx,rfl⟩)];exact decide_eq_false (Nat.not_lt.mpr hxy)
 have hzs:(ks.toArray.zip vs.toArray).size=vs.length:=by rw[Array.size_zip,List.size_toArray,List.size_toArray,hl',Nat.min_self]
 unfold ksk_end;dsimp only;rw[if_neg Bool.false_ne_true,if_neg Bool.false_ne_true]
 by_cases h2:vs.toArray.size<2
 ·rw[if_pos h2,if_pos h2];refine wpAny_bind (wpAny_pure ?_);rw[StateT.run_pure];refine wpAny_bind (wpAny_pure ?_);refine tail _ rfl (Array.Perm.refl _) ?_;refine zbA ?_;show (ks.toArray.zip vs.toArray).toList.length<2;rw[Array.length_toList,hzs];simpa using h2
 ·rw[if_neg h2,if_neg h2];rw[List.size_toArray] at h2;refine wpAny_bind (zbM (key:=z3w s.heap) (λv hv=>⟨(hti v hv).1,hne _ (hti v hv).2⟩) (by omega) ?_);refine wpAny_bind (wpAny_mono (z72 (a₀:=ks.toArray.zip vs.toArray) (κ:=tuples' true) (rk:=λp=>rkL (ks.map (z3w s.heap)) (z3w s.heap p.1)) (st:=SortSt.mk' (tuples' true) (ks.toArray.zip vs.toArray) #[] 7 none)
   (Q:=λ_ st'=>TB (tuples' true) (ks.toArray.zip vs.toArray) st'/\Seg (λp=>rkL (ks.map (z3w s.heap)) (z3w s.heap p.1)) (arrOf st') 0 (ks.toArray.zip vs.toArray).size)
   (zfB (λv hv=>(hti v hv).1) true) ⟨rfl,rfl,Array.Perm.refl _⟩ rfl (by rw[hzs]; omega) (by rw[hzs]; exact h64) λst' b1 b2=>⟨b1,b2⟩) ?_ λ_ _ e=>e)
  rintro⟨⟨⟩,st'⟩ s' ⟨rfl,hB,hs⟩;dsimp only at hB hs ⊢;refine tail _ hB.failed hB.perm ?_;have:=zfH hs (by rw[hB.perm.size_eq]; exact Nat.le_refl _);rw[<- hB.perm.size_eq] at this;simpa using this
def zeo {a:Addr}{f:Value}{vs:List Value}{n:Nat}{P:PySem.Fin->Shared->Prop}(ho:s.heap.get? a=some (seqObj "list" vs.toArray n))(h64:vs.length<z2b)
  (I:Nat->List Value->Shared->Prop)
  (start:∀e1,(s.heap.update a (Obj.mapSeq λ_=>(#[]:Array Value))).get? a=some (seqObj "list" #[] e1)->I e1 [] { s with heap:=((s.heap.update a (Obj.mapSeq λ_ => #[])).push (seqObj "tuple" vs.toArray 0)).push (seqObj "list" #[] 0) })
  (turn:∀e1 (i:Nat) v ks s',vs[i]? = some v->ks.length=i->I e1 ks s'->
   wpAny (model prog w) A (call f [v]) (λu s''=>(∃e,s''.heap.get? (s.heap.objs.size+1)=some (seqObj "list" ks.toArray e))/\I e1 (ks++[u]) { s'' with heap:=s''.heap.update (s.heap.objs.size+1) (Obj.mapSeq (·.push u)) }) (λ_ _=>False) s')
  (fin:∀e1 ks s',ks.length=vs.length->I e1 ks s'->∃kz:List (List Int),kz.length=vs.length/\(∀k∈kz,k≠[])/\KI a (s.heap.objs.size+1) e1 kz ks s'/\
   ∀out:List Value,out.length=vs.length->KOut kz vs out->P (.done (.ret .none)) { s' with heap:=(s'.heap.update (s.heap.objs.size+1) (Obj.mapSeq λ_ => #[])).update a (Obj.mapSeq λ_=>out.toArray) }):
  wpAny (model prog w) A (ksk_tree a f false) P E s:=by
 have hz:=zaO h64;have ha:a<s.heap.objs.size:=Heap.lt_size ho;obtain⟨e1,ho1⟩:∃e1,(s.heap.update a (Obj.mapSeq λ_=>(#[]:Array Value))).get? a=some (seqObj "list" #[] e1):=⟨_,get?_update_seq ho λ_ => #[]⟩
 have I0:=start e1 ho1;have hkS:((s.heap.update a (Obj.mapSeq λ_=>(#[]:Array Value))).push (seqObj "tuple" vs.toArray 0)).objs.size=s.heap.objs.size+1:=by rw[size_push',Heap.size_update]
 unfold ksk_tree;refine wpAny_bind (listItems_at ho rfl ?_);refine wpAny_bind (listUpdate_at ho rfl ?_ (by rw[List.size_toArray]; omega) (Nat.zero_le _));refine wpAny_bind (seqEpoch_at ho1 rfl ?_);refine wpAny_bind (wpAny_newTuple ?_ (by show vs.length<=_; omega));refine wpAny_bind (wpAny_newList ?_ (Nat.zero_le _));refine wpAny_holding ?_;show wpAny (model prog w) A (ksk_rest a f false vs.toArray e1 (.ref ((s.heap.update a (Obj.mapSeq λ_=>(#[]:Array Value))).push (seqObj "tuple" vs.toArray 0)).objs.size)) P E { s with heap:=((s.heap.update a (Obj.mapSeq λ_ => #[])).push (seqObj "tuple" vs.toArray 0)).push (seqObj "list" #[] 0) };rw[hkS];unfold ksk_rest;refine wpAny_bind (wpAny_rule ?_);rw[<- Array.forIn_toList];refine wpAny_bind (ksk_fold (λi s'=>∃ks,ks.length=i/\I e1 ks s'/\∃e,s'.heap.get? (s.heap.objs.size+1)=some (seqObj "list" ks.toArray e)) vs 0 _ ⟨[],rfl,I0,0,by rw[<- hkS]; exact Heap.get?_push_size _ rfl⟩ ?step ?done)
 case step=>
  rintro j x s' hx ⟨ks,hk,hI,_⟩;simp only[Nat.zero_add] at hk ⊢;have hj:j<vs.length:=(List.getElem?_eq_some_iff.mp hx).1;refine wpAny_bind (wpAny_attempt (wpAny_mono (turn e1 j x ks s' hx hk hI) (λu s'' he =>?_) λ_ _ hF=>hF.elim));obtain⟨⟨e,hK⟩,hI'⟩:=he
  try dsimp only
  refine wpAny_bind (listUpdate_at hK rfl ?_ (by rw[List.size_toArray]; omega) (Nat.le_trans (Nat.le_of_eq (Array.size_push ..)) (by rw[List.size_toArray]; omega)));exact wpAny_pure ⟨rfl,ks++[u],by simp[hk],hI',_,by rw[get?_update_seq hK (·.push u)]; simp; rfl⟩
 case done=>
  rintro s' ⟨ks,hk,hI,e,hK⟩;obtain⟨kz,hl,hne,K,h⟩:=fin e1 ks s' (by omega) hI
  try dsimp only
  refine wpAny_bind (listItems_at hK rfl ?_);exact zh4 (Nat.ne_of_gt (Nat.lt_succ_of_lt ha)) K hl (by omega) hne h64 h
end
end Tim
namespace Pu
open PySem PySem.Spec PyProof.Rows L2 Tab
def zef (kz:List (List Int))(l out:List D):Prop:=∃ps:List (List Int × D),ps.Perm (kz.zip l)/\out=ps.map Prod.snd/\ps.Pairwise (λp q=>HT.z2h q.1 p.1=false)
def zja:D->Option (List D)
 | .lst l=>some l
 | _=>none
def Ex.sortk (nt:Nat)(js:List Nat)(t:Tg)(src elt:Ex):Ex:=
 ⟨λρ Q X=>src.run ρ (λd=>onL (zja d) λl=>l.length<Tim.z2b/\z4E (z4F t none elt (z1b nt js ρ)) l λr=>∃kz:List (List Int),r=kz.map tupD/\(∀k∈kz,k≠[])/\∀out,zef kz l out->Q (.lst out)) X,λρ Q Q' X X' m mx q=>
  src.mono ρ _ _ X X' (λd q1=>z8X (λl q2=>⟨q2.1,z3c z4e l _ _ (λr ⟨kz,e,h1,h2⟩=>⟨kz,e,h1,λout ho=>m _ (h2 out ho)⟩) q2.2⟩) q1) mx q⟩
def zeP:Fn:=⟨λds Q _=>∃(ns:List Int) (d:Int),ds=[.lst (ns.map .int),.int d]/\(ns=[]->Q (.int d))/\(ns≠[]->∀k∈ns,(∀x∈ns,x<=k)->Q (.int k)),λds Q Q' X X' m _ ⟨ns,d,e,h1,h2⟩=>⟨ns,d,e,λz=>m _ (h1 z),λz k hk hx=>m _ (h2 z k hk hx)⟩⟩
def ziP {ns:List Int}{d:Int}{Q:DK}{X:XP}(h1:ns=[]->Q (.int d))(h2:ns≠[]->∀k∈ns,(∀x∈ns,x<=k)->Q (.int k)):zeP.run [.lst (ns.map .int),.int d] Q X:=⟨ns,d,rfl,h1,h2⟩
def ziO {ns:List Int}{d:Int}{Q:DK}{X:XP}(h:∀g,(∀x∈ns,x<=g)->(g∈ns\/(ns=[]/\g=d))->Q (.int g)):zeP.run [.lst (ns.map .int),.int d] Q X:=
 ziP (λz=>h d (by rw[z]; simp) (.inr ⟨z,rfl⟩)) λ_ k hk hx=>h k hx (.inl hk)
def zhc {nt:Nat}{js:List Nat}{t:Tg}{src elt:Ex}{ρ:Pu.Env}{Q:DK}{X:XP}(h:src.run ρ (λd=>onL (zja d) λl=>l.length<Tim.z2b/\z4E (z4F t none elt (z1b nt js ρ)) l λr=>∃kz:List (List Int),r=kz.map tupD/\(∀k∈kz,k≠[])/\∀out,zef kz l out->Q (.lst out)) X):(Ex.sortk nt js t src elt).run ρ Q X:=h
end Pu
namespace Pu
open PySem PySem.Spec PyProof.Rows L2
end Pu
namespace Pu
open PySem L2
def z1E:Fn:=Fn.mkN 2 2 (.seq (.ifs (.op pLt [(.v 1),(.op pLen [(.v 0)])]) (.ret (.op pIx [(.v 0),(.v 1)])) .skip)
 (.ret (.c (.int 0))))
def z1d:Fn:=Fn.mkN 1 3 (.seq (.set 1 (.c (.int 1)))
 (.seq (.forr [(.v 0)] (.nm 2) (.set 1 (.op z0l [(.v 1),(.c (.int 10))])))
 (.ret (.v 1))))
def z0G:Fn:=Fn.mkN 2 3 (.seq (.set 2 (.op pMod [(.v 0),(.op pAdd [(.op z0l [(.c (.int 2)),(.v 1)]),(.c (.int 1))])]))
 (.ret (.op z0l [(.op z1r [(.op pAdd [(.v 2),(.c (.int 1))]),(.c (.int 2))]),(.op pSub [(.c (.int 1)),(.op z0l [(.c (.int 2)),(.op pMod [(.v 2),(.c (.int 2))])])])])))
def z0D:Fn:=Fn.mkN 2 3 (.seq (.set 0 (.op pAbs [(.v 0)]))
 (.seq (.set 1 (.op pAbs [(.v 1)]))
 (.seq (.wh (.op pGt [(.v 1),(.c (.int 0))]) (.seq (.set 2 (.op pMod [(.v 0),(.v 1)]))
 (.seq (.set 0 (.v 1))
 (.set 1 (.v 2)))))
 (.ret (.v 0)))))
def z06:Fn:=Fn.mkN 3 4 (.seq (.set 3 (.op z0D [(.op z0D [(.v 0),(.v 1)]),(.v 2)]))
 (.ret (.op pTup [(.op z1r [(.v 0),(.v 3)]),(.op z1r [(.v 1),(.v 3)]),(.op z1r [(.v 2),(.v 3)])])))
def z0w:Fn:=Fn.mkN 2 6 (.seq (.set 2 (.op z1d [(.op pAdd [(.c (.int 1)),(.op pMod [(.v 0),(.v 1)])])]))
 (.seq (.set 3 (.op z1r [(.v 0),(.v 1)]))
 (.seq (.set 4 (.op z0G [(.v 3),(.v 2)]))
 (.seq (.set 3 (.op z1r [(.v 3),(.op pAdd [(.op z0l [(.c (.int 2)),(.v 2)]),(.c (.int 1))])]))
 (.seq (.set 5 (.op z0G [(.v 3),(.v 2)]))
 (.ret (.op z06 [(.v 4),(.v 5),(.op pAdd [(.c (.int 1)),(.op pMod [(.op z1r [(.v 3),(.op pAdd [(.op z0l [(.c (.int 2)),(.v 2)]),(.c (.int 1))])]),(.v 2)])])])))))))
def z0o:Fn:=Fn.mkN 2 3 (.seq (.set 2 (.op pMod [(.op pAdd [(.op pAdd [(.op z0l [(.op pMod [(.v 0),(.c (.int 2147483647))]),(.c (.int 48271))]),(.op z0l [(.c (.int 977)),(.v 1)])]),(.c (.int 11))]),(.c (.int 2147483647))]))
 (.ret (.op z1r [(.op pMod [(.op z0l [(.v 2),(.v 2)]),(.c (.int 2147483647))]),(.c (.int 7))])))
def z0E:Fn:=Fn.mkN 4 6 (.seq (.set 4 (.op pAdd [(.op z0l [(.op z0l [(.op pIx [(.v 0),(.c (.int 0))]),(.op pIx [(.v 1),(.c (.int 2))])]),(.op pSub [(.v 3),(.v 2)])]),(.op z0l [(.op z0l [(.op pIx [(.v 1),(.c (.int 0))]),(.op pIx [(.v 0),(.c (.int 2))])]),(.v 2)])]))
 (.seq (.set 5 (.op pAdd [(.op z0l [(.op z0l [(.op pIx [(.v 0),(.c (.int 1))]),(.op pIx [(.v 1),(.c (.int 2))])]),(.op pSub [(.v 3),(.v 2)])]),(.op z0l [(.op z0l [(.op pIx [(.v 1),(.c (.int 1))]),(.op pIx [(.v 0),(.c (.int 2))])]),(.v 2)])]))
 (.ret (.op z06 [(.v 4),(.v 5),(.op z0l [(.op z0l [(.op pIx [(.v 0),(.c (.int 2))]),(.op pIx [(.v 1),(.c (.int 2))])]),(.v 3)])]))))
def z1q:Fn:=Fn.mkN 2 8 (.seq (.set 2 (.op z0o [(.v 0),(.c (.int 1))]))
 (.seq (.set 3 (.op pMod [(.v 2),(.c (.int 8))]))
 (.seq (.set 2 (.op z1r [(.v 2),(.c (.int 8))]))
 (.seq (.set 4 (.op pSub [(.op pMod [(.op z1r [(.v 2),(.c (.int 5))]),(.c (.int 13))]),(.c (.int 6))]))
 (.seq (.set 5 (.op pSub [(.op pMod [(.op z1r [(.v 2),(.c (.int 65))]),(.c (.int 13))]),(.c (.int 6))]))
 (.seq (.ifs (.and (.op pEq [(.v 3),(.c (.int 1))]) (.op pGt [(.op pLen [(.v 1)]),(.c (.int 0))])) (.ret (.op pIx [(.v 1),(.op pMod [(.v 2),(.op pLen [(.v 1)])])])) .skip)
 (.seq (.ifs (.and (.op pEq [(.v 3),(.c (.int 2))]) (.op pGt [(.op pLen [(.v 1)]),(.c (.int 0))])) (.seq (.set 6 (.op pIx [(.v 1),(.op pMod [(.v 2),(.op pLen [(.v 1)])])]))
 (.seq (.set 7 (.op pIx [(.v 1),(.op pMod [(.op z1r [(.v 2),(.c (.int 97))]),(.op pLen [(.v 1)])])]))
 (.ifs (.op pLt [(.op z0l [(.op pIx [(.v 6),(.c (.int 2))]),(.op pIx [(.v 7),(.c (.int 2))])]),(.op pPow [(.c (.int 10)),(.c (.int 12))])]) (.ret (.op z0E [(.v 6),(.v 7),(.op pAdd [(.c (.int 1)),(.op pMod [(.v 2),(.c (.int 3))])]),(.c (.int 4))])) .skip))) .skip)
 (.seq (.ifs (.op pEq [(.v 3),(.c (.int 3))]) (.set 5 (.op pAdd [(.op z0l [(.c (.int 2)),(.v 4)]),(.c (.int 1))])) .skip)
 (.seq (.ifs (.op pEq [(.v 3),(.c (.int 4))]) (.seq (.set 5 (.op pSub [(.op z0o [(.v 0),(.c (.int 2))]),(.op pPow [(.c (.int 10)),(.c (.int 8))])]))
 (.ret (.op z06 [(.op pSub [(.op pMod [(.v 0),(.op pAdd [(.op z0l [(.c (.int 2)),(.op pPow [(.c (.int 10)),(.c (.int 20))])]),(.c (.int 1))])]),(.op pPow [(.c (.int 10)),(.c (.int 20))])]),(.v 5),(.op pAdd [(.c (.int 1)),(.op pMod [(.v 2),(.op pPow [(.c (.int 10)),(.c (.int 5))])])])]))) .skip)
 (.ret (.op z06 [(.v 4),(.v 5),(.op pIx [(.op pLst [(.c (.int 1)),(.c (.int 1)),(.c (.int 2)),(.c (.int 3)),(.c (.int 6))]),(.op pMod [(.v 2),(.c (.int 5))])])])))))))))))
def z1P:Fn:=Fn.mkN 2 4 (.seq (.ifs (.op pGt [(.v 1),(.c (.int 0))]) (.ret (.comp 1 [1] (.nm 0) (.v 0) none (.op z0w [(.v 0),(.v 1)]))) .skip)
 (.seq (.own 2 (.op pLst []))
 (.seq (.for_ [] (.nm 3) (.v 0) (.app 2 (.op z1q [(.v 3),(.v 2)])))
 (.ret (.v 2)))))
def z2y:Fn:=Fn.mkN 1 4 (.seq (.set 1 (.op z8U [(.v 0)]))
 (.seq (.set 2 (.op zeP [(.comp 1 [] (.nm 0) (.v 1) none (.op pIx [(.v 0),(.c (.int 2))])),(.c (.int 1))]))
 (.seq (.set 3 (.op z0l [(.v 2),(.v 2)]))
 (.ret (.sortk 1 [3] (.nm 0) (.v 1) (.op pTup [(.op z1r [(.op z0l [(.op pIx [(.v 0),(.c (.int 0))]),(.v 1)]),(.op pIx [(.v 0),(.c (.int 2))])]),(.op z1r [(.op z0l [(.op pIx [(.v 0),(.c (.int 1))]),(.v 1)]),(.op pIx [(.v 0),(.c (.int 2))])])]))))))
def z2W:Fn:=Fn.mkN 1 1 (.ret (.op z39 [(.op z2y [(.v 0)]),(.c (.fn 1))]))
def z0n:Fn:=Fn.mkN 2 2 (.ret (.op pTup [(.op pSub [(.op z0l [(.op pIx [(.v 1),(.c (.int 0))]),(.op pIx [(.v 0),(.c (.int 2))])]),(.op z0l [(.op pIx [(.v 0),(.c (.int 0))]),(.op pIx [(.v 1),(.c (.int 2))])])]),(.op pSub [(.op z0l [(.op pIx [(.v 1),(.c (.int 1))]),(.op pIx [(.v 0),(.c (.int 2))])]),(.op z0l [(.op pIx [(.v 0),(.c (.int 1))]),(.op pIx [(.v 1),(.c (.int 2))])])])]))
def z1c:Fn:=Fn.mkN 2 2 (.ret (.op pSub [(.op z0l [(.op pIx [(.v 0),(.c (.int 0))]),(.op pIx [(.v 1),(.c (.int 1))])]),(.op z0l [(.op pIx [(.v 0),(.c (.int 1))]),(.op pIx [(.v 1),(.c (.int 0))])])]))
def z2z:Fn:=Fn.mkN 2 2 (.ret (.op pAdd [(.op z0l [(.op pIx [(.v 0),(.c (.int 0))]),(.op pIx [(.v 1),(.c (.int 0))])]),(.op z0l [(.op pIx [(.v 0),(.c (.int 1))]),(.op pIx [(.v 1),(.c (.int 1))])])]))
def z0V:Fn:=Fn.mkN 2 4 (.seq (.ifs (.op pLt [(.op pLen [(.v 0)]),(.c (.int 2))]) (.ret (.op pIn [(.v 1),(.v 0)])) .skip)
 (.seq (.forr [(.op pLen [(.v 0)])] (.nm 2) (.seq (.set 3 (.op z0n [(.op pIx [(.v 0),(.op pSub [(.v 2),(.c (.int 1))])]),(.op pIx [(.v 0),(.v 2)])]))
 (.seq (.ifs (.op pLt [(.op z1c [(.v 3),(.op z0n [(.op pIx [(.v 0),(.op pSub [(.v 2),(.c (.int 1))])]),(.v 1)])]),(.c (.int 0))]) (.ret (.c (.bl false))) .skip)
 (.ifs (.and (.op pEq [(.op pLen [(.v 0)]),(.c (.int 2))]) (.op pLt [(.op z2z [(.v 3),(.op z0n [(.op pIx [(.v 0),(.op pSub [(.v 2),(.c (.int 1))])]),(.v 1)])]),(.c (.int 0))])) (.ret (.c (.bl false))) .skip))))
 (.ret (.c (.bl true)))))
def pl3 (t:Geo.T3):D :=.tup [.int t.1,.int t.2.1,.int t.2.2]
abbrev pls3 (l:List Geo.T3):D :=.tup (l.map pl3)
abbrev Tb (n:Nat)(t:Geo.T3):Prop:=Bt n t.1/\Bt n t.2.1/\Bt n t.2.2
abbrev Tz (t:Geo.T3):Prop:=Bt 100000 t.1/\Bt 100000 t.2.1/\Bt 9000 t.2.2
abbrev Tbs (n:Nat)(l:List Geo.T3):Prop:=∀t∈l,Tb n t
def z9Q {a b c:Geo.T3}{Q:DK}{X:XP}(h1:Tb 1000000 a)(h2:Tb 1000000 b)(h3:Tb 1000000 c)(q:Q (.int (Geo.cr3 a b c))):z3M.run [pl3 a,pl3 b,pl3 c] Q X:=by
 obtain⟨a1,a2,a3⟩:=h1;obtain⟨b1,b2,b3⟩:=h2;obtain⟨c1,c2,c3⟩:=h3;unfold pl3;walk_at "fn";ac_nf;have u1:Bt 2000001 (b.2.1*c.2.2 - c.2.1*b.2.2):=(Bt.sub (Bt.mul b2 c3) (Bt.mul c2 b3)).le;have u2:Bt 2000001 (b.1*c.2.2 - c.1*b.2.2):=(Bt.sub (Bt.mul b1 c3) (Bt.mul c1 b3)).le;have u3:Bt 2000001 (b.1*c.2.1 - b.2.1*c.1):=(Bt.sub (Bt.mul b1 c2) (Bt.mul b2 c1)).le;refine zgV ⟨a1.le,u1.le⟩ ?_;ac_nf;exact q
def zbr {l:List Geo.T3}{Q:DK}{X:XP}(hb:Tbs 1000000 l)(hz:l.length<=100000)(q:Q (.lst ((Geo.z5s l).reverse.map pl3))):z4b.run [.lst (l.map pl3),.fn 1] Q X:=by
 walk_at "fn";refine zhJ (zhL ?_);ac_nf;refine zaP (λx hx=>by cases hx) ?_;ac_rfl;ac_nf;refine z2e (f:=pl3) (λdn ρ=>∃(st:List Geo.T3) (x:B),st=Geo.z5s dn/\(∀p∈st,p∈l)/\st.length<=dn.length/\ρ=[.s (.lst (l.map pl3)),.s (.fn 1),.o (.lst (st.reverse.map pl3)),x]) ⟨[],_,rfl,(λp hp=>by cases hp),Nat.le_refl _,rfl⟩ ?_ ?_
 ·rintro dn v r ρ e ⟨st,x,hst,hsub,hlen,rfl⟩;have hv:v∈l:=by rw[e]; simp
  show Sm.run _ _ _ _ _;ac_rfl;refine Sm.cut (λρ=>∃st':List Geo.T3,st'=Geo.z2X v st/\(∀p∈st',p∈l)/\st'.length<=dn.length/\ρ=[.s (.lst (l.map pl3)),.s (.fn 1),.o (.lst (st'.reverse.map pl3)),.s (pl3 v)]) ?_ ?_
  ·refine zcD (λρ=>∃st':List Geo.T3,Geo.z2X v st'=Geo.z2X v st/\(∀p∈st',p∈l)/\st'.length<=dn.length/\ρ=[.s (.lst (l.map pl3)),.s (.fn 1),.o (.lst (st'.reverse.map pl3)),.s (pl3 v)]) (λρ=>match ρ with | [_,_,.o (.lst k),_]=>k.length | _=>0) ⟨st,rfl,hsub,hlen,rfl⟩ ?_;rintro ρ ⟨st',h1,h2,h3,rfl⟩;ac_nf
   match st',h1,h2,h3 with
   | [],h1,h2,h3=>
    refine t_no (by simp) ?_;refine z8G ?_;exact⟨[],by rw[<- h1]; rfl,h2,h3,rfl⟩
   | [b],h1,h2,h3=>
    refine t_no (by simp) ?_;refine z8G ?_;exact⟨[b],by rw[<- h1]; rfl,h2,h3,rfl⟩
   | b::a::r,h1,h2,h3=>
    refine z75 (by simp; lia) ?_;ac_nf;refine zhd rfl ?_;ac_nf;refine z2Y (z2n zhj) ?_;ac_nf;refine z2Y (z2n zjF) ?_;ac_nf;have hB:∀p,p∈l->Tb 1000000 p:=hb;refine z9Q (hB a (h2 a (by simp))) (hB b (h2 b (by simp))) (hB v hv) ?_;ac_nf;refine z2f (λhc =>?_) (λhc =>?_)
    ·refine zjP (z2M rfl ?_);unfold popL;rw[List.length_map,List.length_reverse,List.getElem?_map,show (b::a::r).reverse[(b::a::r).length - 1]? = some b by simp];refine⟨⟨a::r,?_,λp hp=>h2 p (List.mem_cons_of_mem _ hp),by simp at h3 ⊢; lia,?_⟩,?_⟩
     ·rw[<- h1];show _=Geo.z2X v (b::a::r);rw[Geo.z2X,if_pos hc]
     ·simp
     ·simp
    ·exact⟨b::a::r,by rw[<- h1,Geo.z2X,if_neg hc],h2,h3,rfl⟩
  ·rintro ρ ⟨st',h1,h2,h3,rfl⟩;refine z8L (l:=[]) (z2M rfl ?_);ac_nf;have hdl:dn.length<l.length:=by rw[e]; simp
   refine⟨by simp; exact szl' (by lia),Safe.of_noL rfl rfl _,?_⟩;ac_rfl;refine⟨v::st',.s (pl3 v),?_,λp hp =>?_,by simp; lia,by simp⟩
   ·unfold Geo.z5s at hst ⊢;rw[List.foldl_append, <- hst,h1]
    rfl
   ·rcases List.mem_cons.mp hp with rfl | hp
    ·exact hv
    ·exact h2 p hp
 rintro ρ ⟨st,x,hst,hsub,hlen,rfl⟩;ac_nf;rw[hst];exact q
def zes {l:List Geo.T3}{Q:DK}{X:XP}(hb:Tbs 1000000 l)(hz:l.length<=100000)(q:Q (pls3 (Geo.zaa l))):z39.run [.lst (l.map pl3),.fn 1] Q X:=by
 walk_at "fn";ac_nf;rw[List.length_map];refine z2f (λh =>?_) (λh =>?_)
 ·ac_nf;rw[Geo.zaa,if_pos (by lia)] at q;exact q
 ac_nf;refine zbr hb hz ?_;have c1:∀(l:List Geo.T3) (s:List Geo.T3),(l.foldl (λs v=>v::Geo.z2X v s) s).length<=l.length+s.length:=by
  have c0:∀(v:Geo.T3) (s:List Geo.T3),(Geo.z2X v s).length<=s.length:=by
   intro v s
   induction s with
   | nil=>exact Nat.le_refl _
   | cons b s ih=>
    cases s with
    | nil=>exact Nat.le_refl _
    | cons a s=>
     rw[Geo.z2X]
     split
     ·exact Nat.le_succ_of_le ih
     ·exact Nat.le_refl _
  intro l
  induction l with
  | nil=>intro s; simp
  | cons v l ih=>
   intro s;rw[List.foldl_cons];have:=ih (v::Geo.z2X v s);have:=c0 v s;simp only[List.length_cons] at*;lia
 have c2:(Geo.z5s l).length<=l.length:=Nat.le_trans (c1 l []) (Nat.le_refl _);have c3:(Geo.z5s l.reverse).length<=l.length:=Nat.le_trans (c1 l.reverse []) (by simp);refine zcS ?_ ?_
 ·exact⟨trivial,trivial,trivial,trivial,trivial⟩
 ac_rfl;ac_nf;refine zdy ?_;ac_nf;rw[<- List.map_reverse];refine zbr (λp hp=>hb p (by simpa using hp)) (by simpa using hz) ?_;refine zcS ⟨trivial,trivial,trivial,trivial,trivial⟩ ?_;ac_rfl;ac_nf;rw[z7G,z7G,zbY,zbY];refine zdz (by simp; exact szl (by lia)) ?_;ac_nf;rw[<- List.map_append];rw[Geo.zaa,if_neg (by lia)] at q;exact q
def pk3 (t:Geo.T3):List Int:=[t.1,t.2.1,t.2.2]
def zdn {p r:Geo.T3}(h:pk3 p=pk3 r):p=r:=by
 unfold pk3 at h
 injection h with h1 h2
 injection h2 with h2 h3
 injection h3 with h3 _
 exact Prod.ext h1 (Prod.ext h2 h3)
def zdl (l:List Geo.T3):l.map pl3=(l.map pk3).map tupD:=by rw[List.map_map]; rfl
def Ps (d:D)(l:List Geo.T3):Prop:=d = .tup (l.map pl3)\/d = .lst (l.map pl3)
def Ps.set {d:D}{l:List Geo.T3}{P:List (List Int)->Prop}(h:Ps d l)(hz:l.length<=63)(q:P (l.map pk3)):zcT d P:=by
 rcases h with rfl | rfl
 ·exact⟨l.map pk3,zdl l,by simpa using hz,q⟩
 ·exact⟨l.map pk3,zdl l,by simpa using hz,q⟩
def zey {kl:List (List Int)}{l:List Geo.T3}(h:Rows (l.map pk3) kl):∃rl:List Geo.T3,kl=rl.map pk3/\rl.Nodup/\∀p,p∈rl↔p∈l:=by
 have h1:∀k∈kl,∃p,k=pk3 p:=λk hk=>by
  obtain⟨p,_,rfl⟩:=List.mem_map.mp ((h.mem k).mp hk);exact⟨p,rfl⟩
 have h2:∃rl:List Geo.T3,kl=rl.map pk3:=by
  clear h
  induction kl with
  | nil=>exact⟨[],rfl⟩
  | cons k kl ih=>
   obtain⟨p,hp⟩:=h1 k List.mem_cons_self;obtain⟨rl,hr⟩:=ih λk hk=>h1 k (List.mem_cons_of_mem _ hk);exact⟨p::rl,by rw[hp,hr]; rfl⟩
 obtain⟨rl,rfl⟩:=h2;refine⟨rl,rfl,?_,λp =>?_⟩
 ·have:=h.up;rw[List.pairwise_map] at this;exact this.imp λ{a b} z e=>by
   rw[e,Tim.z9a] at z
   cases z
 ·have:=h.mem (pk3 p)
  constructor
  ·intro hp;obtain⟨r,hr,er⟩:=List.mem_map.mp (this.mp (List.mem_map.mpr ⟨p,hp,rfl⟩));rw[<- zdn er]; exact hr
  ·intro hp;obtain⟨r,hr,er⟩:=List.mem_map.mp (this.mpr (List.mem_map.mpr ⟨p,hp,rfl⟩));rw[<- zdn er]; exact hr
def zeK {α β:Type}{f:α->β}:∀{l:List α}{m:List β},(l.map f).Perm m->∃l',l.Perm l'/\m=l'.map f:=by
 intro l m h;generalize e:l.map f=k at h
 induction h generalizing l with
 | nil=>
  cases l with
  | nil=>exact⟨[],.refl _,rfl⟩
  | cons a l=>simp at e
 | cons x _ ih=>
  cases l with
  | nil=>simp at e
  | cons a l=>
   rw[List.map_cons] at e
   injection e with e1 e2
   obtain⟨l',p,q⟩:=ih e2;exact⟨a::l',p.cons a,by rw[List.map_cons,e1,q]⟩
 | swap x y t=>
  match l,e with
  | a::b::l,e=>
   simp only[List.map_cons,List.cons.injEq] at e;obtain⟨e1,e2,e3⟩:=e;exact⟨b::a::l,.swap b a l,by simp[e1,e2,e3]⟩
 | trans _ _ ih1 ih2=>
  obtain⟨l1,p1,q1⟩:=ih1 e;obtain⟨l2,p2,q2⟩:=ih2 q1.symm;exact⟨l2,p1.trans p2,q2⟩
def fk (g:Int)(t:Geo.T3):List Int:=[t.1*(g*g) / t.2.2,t.2.1*(g*g) / t.2.2]
def zkG {g:Int}{p q:Geo.T3}(hp:Geo.Lo p)(hq:Geo.Lo q)(gp:p.2.2<=g)(gq:q.2.2<=g)(ne:p≠q)(h:HT.z2h (fk g q) (fk g p)=false):Geo.Lx3 p q:=by
 have h':¬ Geo.Lx (q.1*(g*g) / q.2.2,q.2.1*(g*g) / q.2.2) (p.1*(g*g) / p.2.2,p.2.1*(g*g) / p.2.2):=λz=>by
  have:=zjc.mpr z;unfold fk at h;rw[h] at this
  cases this
 have f1:=Geo.zbU (g:=g) (x:=q.1) (y:=p.1) hq.1 hp.1 gq gp;have f2:=Geo.zbU (g:=g) (x:=q.2.1) (y:=p.2.1) hq.1 hp.1 gq gp;unfold Geo.Lx at h';dsimp only at h';rw[f1.1,f2.1] at h';unfold Geo.Lx3
 rcases Int.lt_trichotomy (p.1*q.2.2) (q.1*p.2.2) with z | z | z
 ·exact .inl z
 ·refine .inr ⟨z,?_⟩
  rcases Int.lt_trichotomy (p.2.1*q.2.2) (q.2.1*p.2.2) with y | y | y
  ·exact y
  ·exact absurd (Geo.Lo.eq hp hq z y) ne
  ·exact absurd (.inr ⟨f1.2 z.symm,y⟩) h'
 ·exact absurd (.inl z) h'
def srt {n:Nat}(h:n<=63):n<Tim.z2b:=Nat.lt_of_le_of_lt h (by decide)
def zet {d:D}{l:List Geo.T3}{Q:DK}{X:XP}(hd:Ps d l)(hb:∀t∈l,Tz t)(lo:∀t∈l,Geo.Lo t)(hz:l.length<=63)(q:∀rl:List Geo.T3,rl.Pairwise Geo.Lx3->(∀p,p∈rl↔p∈l)->rl.length<=l.length->Q (.lst (rl.map pl3))):z2y.run [d] Q X:=by
 walk_at "fn";ac_nf;refine hd.set hz ⟨λk hk =>?_,λkl h =>?_⟩
 ·obtain⟨p,_,rfl⟩:=List.mem_map.mp hk;unfold pk3;simp
 obtain⟨r0,rfl,nd,hm⟩:=zey h;have hl:r0.length<=l.length:=z5N nd λx hx=>(hm x).mp hx;ac_nf;rw[<- zdl];refine⟨by rw[List.length_map]; exact szl' (by lia),?_⟩;refine z53 (g:=λt =>.int t.2.2) (λt ht K hK =>?_) ?_
 ·unfold pl3;ac_nf;exact hK
 have e:(r0.map λt=>D.int t.2.2)=(r0.map (·.2.2)).map D.int:=by rw[List.map_map]; rfl
 rw[e];ac_nf;refine ziO λg hg hgm =>?_;have gg:∀t∈r0,t.2.2<=g:=λt ht=>hg _ (List.mem_map.mpr ⟨t,ht,rfl⟩);have bg:Bt 9000 g:=by
  rcases hgm with z | ⟨_,rfl⟩
  ·obtain⟨t,ht,rfl⟩:=List.mem_map.mp z;exact(hb t ((hm t).mp ht)).2.2
  ·exact z9y (by decide) (by decide)
 refine⟨Safe.of_noL rfl rfl _,?_⟩;ac_rfl;ac_nf;refine zhc ?_;ac_nf;refine⟨by rw[List.length_map]; exact srt (by lia),?_⟩;have bgg:Bt 18000 (g*g):=(Bt.mul bg bg).le;refine z53 (g:=λt=>tupD (fk g t)) (λt ht K hK =>?_) ?_
 ·have tl:=(lo t ((hm t).mp ht)).1;obtain⟨b1,b2,b3⟩:=hb t ((hm t).mp ht);unfold pl3;ac_nf;exact hK
 refine⟨r0.map (fk g),by rw[List.map_map]; rfl,λk hk =>?_,λout ho =>?_⟩
 ·obtain⟨t,_,rfl⟩:=List.mem_map.mp hk;unfold fk;simp
 obtain⟨ps,p1,rfl,p3⟩:=ho;have ez:(r0.map (fk g)).zip (r0.map pl3)=r0.map λt=>(fk g t,pl3 t):=by
  clear p1 nd hm hl gg h e hg hgm
  induction r0 with
  | nil=>rfl
  | cons t r ih=>rw[List.map_cons,List.map_cons,List.map_cons,List.zip_cons_cons,ih]
 rw[ez] at p1;obtain⟨rl,pm,rfl⟩:=zeK p1.symm;rw[List.map_map];refine q rl ?_ (λp=>pm.mem_iff.symm.trans (hm p)) (by rw[<- pm.length_eq]; exact hl);rw[List.pairwise_map] at p3;have nd':rl.Nodup:=pm.nodup_iff.mp nd;refine List.Pairwise.imp_of_mem (λ{a b} ha hb' z =>?_) (p3.and nd');have ma:=pm.mem_iff.mpr ha;have mb:=pm.mem_iff.mpr hb';exact zkG (lo a ((hm a).mp ma)) (lo b ((hm b).mp mb)) (gg a ma) (gg b mb) z.2 z.1
def zd1 {d:D}{l:List Geo.T3}{Q:DK}{X:XP}(hd:Ps d l)(hb:∀t∈l,Tz t)(lo:∀t∈l,Geo.Lo t)(hz:l.length<=63)(q:∀h,Geo.Ar l h->Q (pls3 h)):z2W.run [d] Q X:=by
 walk_at "fn";ac_nf;refine zet hd hb lo hz λrl h1 h2 h3 =>?_;ac_nf;exact zes (λp hp=>have z:=hb p ((h2 p).mp hp); ⟨z.1.le,z.2.1.le,z.2.2.le⟩) (by lia) (q _ ⟨rl,h1,h2,rfl⟩)
end Pu
namespace Pu
open PySem L2 Mth
def z9B (a:Int):(if a<0 then -a else a)=(a.natAbs:Int):=by split <;> omega
def z7a {a b:Int}{Q:DK}{X:XP}(q:Q (.int ((Int.gcd a b:Nat):Int))):z0D.run [.int a,.int b] Q X:=by
 walk_at "fn";ac_nf;rw[z9B,z9B];refine zcD (λρ=>∃(m s:Nat) (y:B),Nat.gcd m s=Int.gcd a b/\ρ=[.s (.int (m:Int)),.s (.int (s:Int)),y]) (λρ=>match ρ with | [_,.s (.int s),_]=>s.toNat | _=>0) ⟨a.natAbs,b.natAbs,_,rfl,rfl⟩ ?_;rintro ρ ⟨m,s,y,es,rfl⟩;ac_nf;refine z2f (λz =>?_) (λz =>?_)
 ·ac_nf;have hm:(m:Int) % (s:Int)=((m % s:Nat):Int):=by simp
  refine⟨⟨s,m % s,_,by rw[<- es,Nat.gcd_comm m s,Nat.gcd_rec s m,Nat.gcd_comm],by rw[hm]⟩,?_⟩;show ((m:Int) % (s:Int)).toNat<((s:Nat):Int).toNat
  rw[hm];have:=Nat.mod_lt m (show 0<s by omega);omega
 ·have:s=0:=by omega
  subst this;rw[Nat.gcd_zero_right] at es;ac_nf;rw[es];exact q
structure Lw (x y b:Int)(t:Geo.T3):Prop where
 lo:Geo.Lo t
 cx:t.1*b=x*t.2.2
 cy:t.2.1*b=y*t.2.2
 ax:t.1.natAbs<=x.natAbs
 ay:t.2.1.natAbs<=y.natAbs
 ab:t.2.2<=b
def z5I {x y b:Int}{Q:DK}{X:XP}(hb:0<b)(bb:Bt 9000 b)(q:∀t,Lw x y b t->Q (pl3 t)):z06.run [.int x,.int y,.int b] Q X:=by
 have hg:((Int.gcd ((Int.gcd x y:Nat):Int) b:Nat):Int)=g3 x y b:=by
  unfold g3;rw[zbQ]
  congr 1
  show Nat.gcd (Nat.gcd x.natAbs y.natAbs) b.natAbs=_;rw[Nat.gcd_comm, <- Nat.gcd_assoc]
  rfl
 have hp:=zdk (x:=x) (y:=y) hb;have g0:=zbT (x:=x) (y:=y) hb;have gb:=z70 x y b;have bg:Bt 9000 (g3 x y b):=Bt.le (bb.of_abs (by
  have:=Int.natAbs_dvd_natAbs.mpr gb;exact Nat.le_of_dvd (by lia) this))
 walk_at "fn";ac_nf;refine z7a ?_;ac_nf;refine z7a ?_;rw[hg];generalize g3 x y b=g at*;ac_nf;refine q (x / g,y / g,b / g) ?_;obtain⟨k,rfl⟩:=gb;exact⟨⟨by have:=hp.pos; exact this,hp.cop⟩,hp.cx,hp.cy,hp.lu,hp.lv,Int.ediv_le_self _ (by lia)⟩
structure Pb (n:Nat)(t:Geo.T3):Prop where
 lo:Geo.Lo t
 bx:Bt n t.1
 bY:Bt n t.2.1
 bw:Bt 1000 t.2.2
def Pb.le {m n:Nat}{t:Geo.T3}(h:Pb m t)(q:m<=n):Pb n t:=⟨h.lo,h.bx.le q,h.bY.le q,h.bw⟩
def Pb.tz {n:Nat}{t:Geo.T3}(h:Pb n t)(q:n<=100000):Tz t:=⟨h.bx.le q,h.bY.le q,h.bw.le⟩
def Lw.pb {x y b:Int}{t:Geo.T3}{n:Nat}(h:Lw x y b t)(bx:Bt n x)(bY:Bt n y)(bb:Bt 1000 b):Pb n t:=⟨h.lo,bx.of_abs h.ax,bY.of_abs h.ay,bb.of_abs (by have:=h.ab; have:=h.lo.1; lia)⟩
def btw (a b:Geo.T3)(i j:Int)(t:Geo.T3):Prop:=Lw (a.1*b.2.2*(j - i)+b.1*a.2.2*i) (a.2.1*b.2.2*(j - i)+b.2.1*a.2.2*i) (a.2.2*b.2.2*j) t
def zcZ {a b:Geo.T3}{i j:Int}{n:Nat}{Q:DK}{X:XP}(ha:Pb n a)(hb:Pb n b)(hn:n<=100000)(h1:0<=i)(h2:i<=10)(h3:0<j)(h4:j<=10)(q:∀t,btw a b i j t->Q (pl3 t)):z0E.run [pl3 a,pl3 b,.int i,.int j] Q X:=by
 have a1:Bt 100000 a.1:=ha.bx.le hn;have a2:Bt 100000 a.2.1:=ha.bY.le hn;have a3:Bt 1000 a.2.2:=ha.bw;have b1:Bt 100000 b.1:=hb.bx.le hn;have b2:Bt 100000 b.2.1:=hb.bY.le hn;have b3:Bt 1000 b.2.2:=hb.bw;have bi:Bt 5 i:=z0s (by lia);have bj:Bt 5 j:=z0s (by lia);have bk:Bt 5 (j - i):=z0s (by lia);have w1:=ha.lo.1;have w2:=hb.lo.1;have c1:Bt 102000 (a.1*b.2.2):=(Bt.mul a1 b3).le;have c2:Bt 102000 (b.1*a.2.2):=(Bt.mul b1 a3).le;have c3:Bt 102000 (a.2.1*b.2.2):=(Bt.mul a2 b3).le;have c4:Bt 102000 (b.2.1*a.2.2):=(Bt.mul b2 a3).le;have c5:Bt 4000 (a.2.2*b.2.2):=(Bt.mul a3 b3).le;unfold pl3;walk_at "fn";ac_nf;exact z5I (Int.mul_pos (Int.mul_pos w1 w2) h3) (Bt.mul (Bt.mul a3 b3) bj).le q
def zfJ {k:Int}{Q:DK}{X:XP}(h0:0<=k)(h1:k<=60)(q:∀m:Int,0<m->Bt 300 m->Q (.int m)):z1d.run [.int k] Q X:=by
 walk_at "fn";ac_nf;refine zbv (by lia) (by lia) ?_;refine z2e (f:=λj:Nat=>D.int (j:Int)) (λdn ρ=>∃(m:Int) (x:B),0<m/\Bt (4+4*dn.length) m/\ρ=[.s (.int k),.s (.int m),x]) ⟨1,_,by decide,z0s (by decide),rfl⟩ ?_ ?_
 ·rintro dn v r ρ e ⟨m,x,m0,bm,rfl⟩;have hl:dn.length<=60:=by
   have:=congrArg List.length e;simp at this;lia
  show Sm.run _ _ _ _ _;ac_rfl;refine zhI ?_;ac_nf;refine zgV ⟨bm.le (by lia),(z0s (n:=4) (by decide)).le⟩ ?_;refine⟨Safe.of_noL rfl rfl _,m*10,_,by lia,?_,rfl⟩;rw[List.length_append,List.length_singleton];exact(Bt.mul bm (z0s (n:=4) (i:=10) (by decide))).le (by lia)
 ·rintro ρ ⟨m,x,m0,bm,rfl⟩;ac_nf;exact q m m0 (bm.le (by simp; lia))
def z8K {r m:Int}{Q:DK}{X:XP}(h0:0<=m)(bm:Bt 300 m)(q:∀x,Bt 400 x->Q (.int x)):z0G.run [.int r,.int m] Q X:=by
 walk_at "fn";ac_nf;have a1:=Int.emod_nonneg r (show 2*m+1≠0 by omega);have a2:=Int.emod_lt_of_pos r (show 0<2*m+1 by omega);have b0:Bt 310 (2*m+1):=Bt.le (Bt.add (Bt.mul (z0s (n:=3) (by decide)) bm) (z0s (n:=3) (by decide)));generalize r % (2*m+1)=d at*;have bd:Bt 310 ((d+1) / 2):=b0.of_abs (by omega);have be:Bt 4 (1 - 2*(d % 2)):=z0s (by omega);ac_nf;exact q _ (Bt.mul bd be).le
def zfK {c f:Int}{Q:DK}{X:XP}(hf:1<=f/\f<=57)(q:∀t,Pb 400 t->Q (pl3 t)):z0w.run [.int c,.int f] Q X:=by
 have f0:0<f:=by omega
 have c1:=Int.emod_nonneg c (show f≠0 by omega);have c2:=Int.emod_lt_of_pos c f0;have bf:Bt 640 f:=z0s (by omega);walk_at "fn";ac_nf;refine zfJ (by omega) (by omega) λm m0 bm =>?_;have b0:Bt 310 (2*m+1):=Bt.le (Bt.add (Bt.mul (z0s (n:=3) (by decide)) bm) (z0s (n:=3) (by decide)));ac_nf;refine z8K (by omega) bm λx bx =>?_;ac_nf;refine z8K (by omega) bm λy bY =>?_;ac_nf;have a1:=Int.emod_nonneg (c / f / (2*m+1) / (2*m+1)) (show m≠0 by omega);have a2:=Int.emod_lt_of_pos (c / f / (2*m+1) / (2*m+1)) m0;generalize c / f / (2*m+1) / (2*m+1) % m=r at*;have br:Bt 300 (1+r):=bm.of_abs (by omega);exact z5I (by omega) br.le λt h=>q t (h.pb bx bY br.le)
def z8J {c k:Int}{Q:DK}{X:XP}(hk:0<=k)(hk':k<=1000)(q:∀r:Int,0<=r->r<2147483647->Q (.int r)):z0o.run [.int c,.int k] Q X:=by
 have bk:Bt 640 k:=z0s (by omega);have b1:Bt 700 (c % 2147483647):=Bt.le (m:=40) (z0s (by omega));walk_at "fn";ac_nf;have h1:0<=(c % 2147483647*48271+977*k+11) % 2147483647/\(c % 2147483647*48271+977*k+11) % 2147483647<2147483647:=by omega
 generalize (c % 2147483647*48271+977*k+11) % 2147483647=z at*;have bz:Bt 40 z:=z0s (by omega);ac_nf;generalize z*z=y at*;exact q _ (by omega) (by omega)
def zaz {x y s:Int}{Q:DK}{X:XP}(hx : -100<=x/\x<=100)(hy : -100<=y/\y<=100)(q:∀t,Pb 400 t->Q (pl3 t)):onV (atI [.int 1,.int 1,.int 2,.int 3,.int 6] (s % 5)) (λd=>z06.run [.int x,.int y,d] Q X):=by
 have bx:Bt 400 x:=Bt.le (m:=8) (z0s (by omega));have bY:Bt 400 y:=Bt.le (m:=8) (z0s (by omega));have go:∀b:Int,0<b->b<=6->z06.run [.int x,.int y,.int b] Q X:=λb b0 b1=>by
  have bb:Bt 8 b:=z0s (by omega);exact z5I b0 bb.le λt h=>q t (h.pb bx bY bb.le)
 rcases(by omega:s % 5=0\/s % 5=1\/s % 5=2\/s % 5=3\/s % 5=4) with z | z | z | z | z <;> rw[z]
 ·exact go 1 (by decide) (by decide)
 ·exact go 1 (by decide) (by decide)
 ·exact go 2 (by decide) (by decide)
 ·exact go 3 (by decide) (by decide)
 ·exact go 6 (by decide) (by decide)
def z8D {l:List Geo.T3}{s:Int}(hne:l≠[]):∃t∈l,atI (l.map pl3) (s % ((l.map pl3).length:Int))=some (pl3 t):=by
 have hl:0<l.length:=List.length_pos_iff.mpr hne;rw[List.length_map];have a1:=Int.emod_nonneg s (show (l.length:Int)≠0 by omega);have a2:=Int.emod_lt_of_pos s (show 0<(l.length:Int) by omega);generalize s % (l.length:Int)=k at*;obtain⟨j,rfl⟩:=Int.eq_ofNat_of_zero_le a1;have hj:j<l.length:=by omega
 refine⟨l[j],List.getElem_mem _,z2n ?_⟩;unfold atI ixN;rw[if_pos (by omega)];simp[hj]
def zjC {a b t:Geo.T3}{i j:Int}{n m:Nat}(ha:Pb n a)(hb:Pb n b)(wa:Bt m a.2.2)(wb:Bt m b.2.2)(hm:m<=490)(h1:0<=i)(h2:i<=10)(h3:0<j)(h4:j<=10)(h:btw a b i j t):Pb (n+m+10) t:=by
 have bi:Bt 4 i:=z0s (by omega);have bj:Bt 4 j:=z0s (by omega);have bk:Bt 4 (j - i):=z0s (by omega);exact Lw.pb h ((Bt.add (Bt.mul (Bt.mul ha.bx wb) bk) (Bt.mul (Bt.mul hb.bx wa) bi)).le (by omega)) ((Bt.add (Bt.mul (Bt.mul ha.bY wb) bk) (Bt.mul (Bt.mul hb.bY wa) bi)).le (by omega)) ((Bt.mul (Bt.mul wa wb) bj).le (by omega))
def s_by {c:Int}{l:List Geo.T3}{n:Nat}{Q:DK}{X:XP}(hl:∀t∈l,Pb n t)(hn:400<=n)(hn':n<=90000)(q:∀t,Pb (n+60) t->Q (pl3 t)):z1q.run [.int c,.lst (l.map pl3)] Q X:=by
 walk_at "fn";ac_nf;refine z8J (by decide) (by decide) λr r0 r1 =>?_;have p12:(10:Int) ^ (12:Int).toNat=1000000000000:=by decide
 have p8:(10:Int) ^ (8:Int).toNat=100000000:=by decide
 have p5:(10:Int) ^ (5:Int).toNat=100000:=by decide
 have p20:(10:Int) ^ (20:Int).toNat=100000000000000000000:=by decide
 have q4:∀t,Pb 400 t->Q (pl3 t):=λt h=>q t (h.le (by omega));ac_nf;have nx : -6<=r / 8 / 5 % 13 - 6/\r / 8 / 5 % 13 - 6<=6:=by omega
 have ny : -6<=r / 8 / 65 % 13 - 6/\r / 8 / 65 % 13 - 6<=6:=by omega
 generalize r / 8 / 5 % 13 - 6=x at*;generalize r / 8 / 65 % 13 - 6=y at*;have bx:Bt 8 x:=z0s (by omega)
 by_cases w1:r % 8=1
 ·refine z75 w1 ?_;ac_nf
  by_cases ne:l=[]
  ·subst ne;refine t_no (by simp) ?_;ac_nf;refine t_no (by omega) ?_;ac_nf;refine t_no (by omega) ?_;ac_nf;refine t_no (by omega) ?_;ac_nf;exact zaz (by omega) (by omega) q4
  ·have hlen:0<((l.map pl3).length:Int):=by simp; exact List.length_pos_iff.mpr ne
   refine z75 hlen ?_;ac_nf;obtain⟨t,ht,e⟩:=z8D (s:=r / 8) ne;refine z2Y e ?_;exact q t ((hl t ht).le (by omega))
 refine t_no w1 ?_;ac_nf
 by_cases w2:r % 8=2
 ·refine z75 w2 ?_;ac_nf
  by_cases ne:l=[]
  ·subst ne;refine t_no (by simp) ?_;ac_nf;refine t_no (by omega) ?_;ac_nf;refine t_no (by omega) ?_;ac_nf;exact zaz (by omega) (by omega) q4
  ·have hlen:0<((l.map pl3).length:Int):=by simp; exact List.length_pos_iff.mpr ne
   refine z75 hlen ?_;ac_nf;obtain⟨t,ht,e⟩:=z8D (s:=r / 8) ne;refine z2Y e ?_;refine⟨Safe.of_noL rfl rfl _,?_⟩;ac_rfl;ac_nf;obtain⟨u,hu,e'⟩:=z8D (s:=r / 8 / 97) ne;refine z2Y e' ?_;refine⟨Safe.of_noL rfl rfl _,?_⟩;ac_rfl;have pt:=hl t ht;have pu:=hl u hu;have b1:=pt.bw;have b2:=pu.bw;unfold pl3;ac_nf;rw[p12];refine z2f (λz =>?_) (λz =>?_)
   ·ac_nf;have t0:=pt.lo.1;have u0:=pu.lo.1;have k1:t.2.2<1000000000000:=Int.lt_of_le_of_lt (by have:=Int.mul_le_mul_of_nonneg_left (show 1<=u.2.2 by omega) (show 0<=t.2.2 by omega); omega) z;have k2:u.2.2<1000000000000:=Int.lt_of_le_of_lt (by have:=Int.mul_le_mul_of_nonneg_right (show 1<=t.2.2 by omega) (show 0<=u.2.2 by omega); omega) z;have c1:Bt 40 t.2.2:=z0s (by omega);have c2:Bt 40 u.2.2:=z0s (by omega);exact zcZ pt pu (by omega) (by omega) (by omega) (by omega) (by omega) λv h=>q v ((zjC pt pu c1 c2 (by omega) (by omega) (by omega) (by omega) (by omega) h).le (by omega))
   ·ac_nf;refine t_no (by omega) ?_;ac_nf;refine t_no (by omega) ?_;ac_nf;exact zaz (by omega) (by omega) q4
 refine t_no w2 ?_;ac_nf;refine z2f (λw3 =>?_) (λw3 =>?_)
 ·ac_nf;refine t_no (by omega) ?_;ac_nf;exact zaz (by omega) (by omega) q4
 ac_nf;refine z2f (λw4 =>?_) (λw4 =>?_)
 ·ac_nf;refine z8J (by decide) (by decide) λu u0 u1 =>?_;ac_nf;rw[p20,p8,p5];have bX:Bt 400 (c % (2*100000000000000000000+1) - 100000000000000000000):=Bt.le (m:=80) (z0s (by omega));have bY:Bt 400 (u - 100000000):=Bt.le (m:=40) (z0s (by omega));have bW:Bt 40 (1+r / 8 % 100000):=z0s (by omega);exact z5I (by omega) bW.le λt h=>q4 t (h.pb bX bY bW.le)
 ac_nf;exact zaz (by omega) (by omega) q4
def zev {cs:List Int}{f:Int}{Q:DK}{X:XP}(hf:f=0\/1<=f/\f<=57)(hz:cs.length<=1000)(q:∀ts:List Geo.T3,ts.length=cs.length->(∀t∈ts,Pb (400+60*cs.length) t)->Q (.lst (ts.map pl3))):z1P.run [.lst (cs.map .int),.int f] Q X:=by
 walk_at "fn";ac_nf;refine z2f (λh =>?_) (λh =>?_)
 ·ac_nf;refine⟨by rw[List.length_map]; exact szl' (by lia),?_⟩;refine zat (g:=pl3) (P:=λ_ t=>Pb 400 t) (λc hc K hK =>?_) (λys hl ha =>?_)
  ·ac_nf;exact zfK (by omega) hK
  ·refine q ys hl λt ht =>?_;obtain⟨_,_,h⟩:=ha t ht;exact h.le (by omega)
 ·obtain rfl:f=0:=by omega
  ac_nf;refine zaP (λx hx=>by cases hx) ?_;ac_rfl;ac_nf;refine z2e (f:=D.int) (λdn ρ=>∃(ts:List Geo.T3) (x:B),ts.length=dn.length/\(∀t∈ts,Pb (400+60*dn.length) t)/\ρ=[.s (.lst (cs.map .int)),.s (.int 0),.o (.lst (ts.map pl3)),x]) ⟨[],_,rfl,λt ht=>by simp at ht,rfl⟩ ?_ ?_
  ·rintro dn v r ρ e ⟨ts,x,hl,hp,rfl⟩;have hd:dn.length<cs.length:=by rw[e]; simp
   show Sm.run _ _ _ _ _;ac_rfl;refine z8L (l:=ts.map pl3) (z2M rfl ?_);ac_nf;refine s_by hp (by omega) (by omega) λt ht =>?_;refine⟨by rw[List.length_map]; exact szl' (by lia),Safe.of_noL rfl rfl _,ts++[t],_,by simp[hl],λu hu =>?_,by simp; rfl⟩;rw[List.length_append,List.length_singleton]
   rcases List.mem_append.mp hu with z | z
   ·exact(hp u z).le (by omega)
   ·rw[List.mem_singleton.mp z];exact ht.le (by omega)
  ·rintro ρ ⟨ts,x,hl,hp,rfl⟩;ac_nf;exact q ts hl hp
end Pu
namespace Pu
open PySem PySem.Spec PyProof.Rows L2 Tab
end Pu
namespace Pu
open PySem L2
def z5t {α:Type}{l:List α}{k:Nat}(h:k<l.length):atI l (k:Int)=l[k]? := by
 unfold atI ixN;rw[if_pos (by lia),if_pos (by lia)];simp
end Pu
namespace Pu
open PySem L2 Mth
def zjG {α:Type}{l:List α}{k:Nat}(h:k<l.length):atI l ((k:Int) - 1)=l[(k+l.length - 1) % l.length]? := by
 by_cases hk:k=0
 ·subst hk;rw[show (0+l.length - 1) % l.length=l.length - 1 from by rw[Nat.zero_add]; exact Nat.mod_eq_of_lt (by omega)];unfold atI ixN;rw[if_neg (by omega),if_pos (by omega)];show l[(((0:Nat):Int) - 1+(l.length:Int)).toNat]? = _
  congr 1
  omega
 ·rw[show (k:Int) - 1=((k - 1:Nat):Int) by omega,z5t (by omega),show (k+l.length - 1) % l.length=k - 1 from by rw[show k+l.length - 1=k - 1+l.length by omega,Nat.add_mod_right]; exact Nat.mod_eq_of_lt (by omega)]
def OkL (h:List Geo.T3)(p:Geo.T3)(k:Nat):Prop:=∀a b,h[(k+h.length - 1) % h.length]? = some a->h[k]? = some b->
 0<=(Geo.st3 a b).1*(Geo.st3 a p).2 - (Geo.st3 a b).2*(Geo.st3 a p).1/\(h.length=2->0<=(Geo.st3 a b).1*(Geo.st3 a p).1+(Geo.st3 a b).2*(Geo.st3 a p).2)
def zjo {M:Int}{h:List Geo.T3}{p:Geo.T3}(hM:∀t∈h,Geo.Dv M t)(pM:Geo.Dv M p)(hl:2<=h.length):Geo.In (h.map (Geo.up M)) (Geo.up M p)↔∀k,k<h.length->OkL h p k:=by
 by_cases h2:h.length=2
 ·match h,h2 with
  | [a,b],_=>
   have ma:=hM a (by simp);have mb:=hM b (by simp);have s1:=Geo.z9K ma mb pM;have s2:=Geo.z9K mb ma pM;have c:Geo.cr (Geo.up M b) (Geo.up M a) (Geo.up M p) = -Geo.cr (Geo.up M a) (Geo.up M b) (Geo.up M p):=by simp only[Geo.cr]; grind
   constructor
   ·intro z;have z':Geo.cr (Geo.up M a) (Geo.up M b) (Geo.up M p)=0/\0<=Geo.dot (Geo.up M a) (Geo.up M b) (Geo.up M p)/\0<=Geo.dot (Geo.up M b) (Geo.up M a) (Geo.up M p):=z;obtain⟨z1,z2,z3⟩:=z';intro k hk
    rcases(by simp at hk; omega:k=0\/k=1) with rfl | rfl
    ·intro a' b' e1 e2;simp at e1 e2;subst e1;subst e2;exact⟨s2.1.mpr (by omega),λ_=>s2.2.2.mpr z3⟩
    ·intro a' b' e1 e2;simp at e1 e2;subst e1;subst e2;exact⟨s1.1.mpr (by omega),λ_=>s1.2.2.mpr z2⟩
   ·intro z;have o0:=z 0 (by simp) b a rfl rfl;have o1:=z 1 (by simp) a b (by simp) rfl;have y0:=s2.1.mp o0.1;have y1:=s1.1.mp o1.1;show Geo.cr (Geo.up M a) (Geo.up M b) (Geo.up M p)=0/\0<=Geo.dot (Geo.up M a) (Geo.up M b) (Geo.up M p)/\0<=Geo.dot (Geo.up M b) (Geo.up M a) (Geo.up M p);exact⟨by omega,s1.2.2.mp (o1.2 rfl),s2.2.2.mp (o0.2 rfl)⟩
 ·rw[Geo.In.three (by rw[List.length_map]; omega),List.length_map]
  constructor
  ·intro z k hk a b ea eb;refine⟨?_,λw=>absurd w h2⟩;refine(Geo.z9K (hM a (List.mem_of_getElem? ea)) (hM b (List.mem_of_getElem? eb)) pM).1.mpr ?_;exact z k _ _ hk (by rw[List.getElem?_map,ea]; rfl) (by rw[List.getElem?_map,eb]; rfl)
  ·intro z j A B hj eA eB;rw[List.getElem?_map] at eA eB;obtain⟨a,ea,rfl⟩:=Option.map_eq_some_iff.mp eA;obtain⟨b,eb,rfl⟩:=Option.map_eq_some_iff.mp eB;exact(Geo.z9K (hM a (List.mem_of_getElem? ea)) (hM b (List.mem_of_getElem? eb)) pM).1.mp (z j hj a b ea eb).1
def z6k {a b:Geo.T3}{Q:DK}{X:XP}(ha:Tz a)(hb:Tz b)(q:Q (vec (Geo.st3 a b))):z0n.run [pl3 a,pl3 b] Q X:=by
 obtain⟨a1,a2,a3⟩:=ha;obtain⟨b1,b2,b3⟩:=hb;unfold pl3;walk_at "fn";ac_nf;exact q
def z8e {a b:Geo.T3}(ha:Tz a)(hb:Tz b):Vb 120000 (Geo.st3 a b):=⟨(Bt.sub (Bt.mul hb.1 ha.2.2) (Bt.mul ha.1 hb.2.2)).le,(Bt.sub (Bt.mul hb.2.1 ha.2.2) (Bt.mul ha.2.1 hb.2.2)).le⟩
def zcW {p r:Int × Int}{Q:DK}{X:XP}(h1:Vb 120000 p)(h2:Vb 120000 r)(q:Q (.int (p.1*r.2 - p.2*r.1))):z1c.run [vec p,vec r] Q X:=by
 obtain⟨a1,a2⟩:=h1;obtain⟨b1,b2⟩:=h2;walk_at "fn";ac_nf;exact q
def zhO {p r:Int × Int}{Q:DK}{X:XP}(h1:Vb 120000 p)(h2:Vb 120000 r)(q:Q (.int (p.1*r.1+p.2*r.2))):z2z.run [vec p,vec r] Q X:=by
 obtain⟨a1,a2⟩:=h1;obtain⟨b1,b2⟩:=h2;walk_at "fn";ac_nf;exact q
def z7y (a b:Geo.T3):deq (pl3 a) (pl3 b)=decide (a=b):=by
 obtain⟨a,b',c⟩:=a;obtain⟨d,e,f⟩:=b;show PyData.eqv (.tuple [.int a,.int b',.int c]) (.tuple [.int d,.int e,.int f])=decide ((a,b',c)=(d,e,f));simp[PyData.eqv,PyData.eqvAll]
 by_cases h1:a=d <;> by_cases h2:b'=e <;> by_cases h3:c=f <;> simp[h1,h2,h3]
def Da.pl3 (p:Geo.T3){n:Nat}:Da (n+1) (Pu.pl3 p):=Da.tup.mpr λd hd=>by
 simp only[List.mem_cons,List.not_mem_nil,or_false] at hd
 rcases hd with rfl | rfl | rfl <;> exact Da.int
def zkv {l:List Geo.T3}{p:Geo.T3}{Q:DK}{X:XP}(q:Q (.bl (decide (p∈l)))):pIn.run [pl3 p,pls3 l] Q X:=by
 refine⟨Da.pl3 p,λd hd =>?_,?_⟩
 ·obtain⟨y,_,rfl⟩:=List.mem_map.mp hd;exact Da.pl3 y
 ·show Q (.bl ((l.map pl3).any λd=>deq d (pl3 p)));have e:((l.map pl3).any λd=>deq d (pl3 p))=decide (p∈l):=by
   rw[Bool.eq_iff_iff,List.any_eq_true,decide_eq_true_iff]
   constructor
   ·rintro⟨d,hd,z⟩;obtain⟨y,hy,rfl⟩:=List.mem_map.mp hd;rw[z7y,decide_eq_true_iff] at z;rw[<- z]; exact hy
   ·intro z;exact⟨pl3 p,List.mem_map_of_mem z,by rw[z7y]; simp⟩
  rw[e];exact q
def zcX {M:Int}{h:List Geo.T3}{p:Geo.T3}{Q:DK}{X:XP}(hM:∀t∈h,Geo.Dv M t)(pM:Geo.Dv M p)(lo:∀t∈h,Geo.Lo t)(lp:Geo.Lo p)(hz:h.length<=2100)(hb:∀t∈h,Tz t)(bp:Tz p)(q:∀v:Bool,(v=true↔Geo.In (h.map (Geo.up M)) (Geo.up M p))->Q (.bl v)):z0V.run [pls3 h,pl3 p] Q X:=by
 walk_at "fn";ac_nf;rw[List.length_map];refine z2f (λhl =>?_) (λhl =>?_)
 ·ac_nf;refine zkv (q _ ?_);rw[decide_eq_true_iff]
  match h,hl with
  | [],_=>exact⟨λz=>by simp at z,λz=>False.elim z⟩
  | [m],_=>
   show _↔Geo.up M p=Geo.up M m;rw[List.mem_singleton];exact⟨λz=>by rw[z],λz=>Geo.Lo.inj lp (lo m (by simp)) pM (hM m (by simp)) z⟩
  | _::_::_,hl=>simp at hl; omega
 have iff:=zjo hM pM (h:=h) (by omega);ac_nf;rw[List.length_map];refine zbv (by omega) (by omega) ?_;rw[show ((h.length:Nat):Int).toNat=h.length by simp];refine z2e (f:=λ(j:Nat)=>D.int (j:Int)) (λdn ρ=>∃x2 x3:B,(∀k∈dn,OkL h p k)/\ρ=[.s (pls3 h),.s (pl3 p),x2,x3]) ⟨_,_,by simp,rfl⟩ ?_ ?_
 ·rintro dn k r ρ e ⟨x2,x3,hdn,rfl⟩;have hk:k<h.length:=List.mem_range.mp (by rw[e]; simp);have hj:(k+h.length - 1) % h.length<h.length:=Nat.mod_lt _ (by omega);have ea:h[(k+h.length - 1) % h.length]? = some (h[(k+h.length - 1) % h.length]'hj):=List.getElem?_eq_getElem hj;have eb:h[k]? = some h[k]:=List.getElem?_eq_getElem hk;have va:=hb _ (List.getElem_mem hj);have vb:=hb _ (List.getElem_mem hk);generalize h[(k+h.length - 1) % h.length]'hj=a at*;generalize h[k]=b at*;have a1:atI h ((k:Int) - 1)=some a:=by rw[zjG hk,ea]
  have a0:atI h (k:Int)=some b:=by rw[z5t hk,eb]
  have ok:0<=(Geo.st3 a b).1*(Geo.st3 a p).2 - (Geo.st3 a b).2*(Geo.st3 a p).1->(h.length=2->0<=(Geo.st3 a b).1*(Geo.st3 a p).1+(Geo.st3 a b).2*(Geo.st3 a p).2)->∀j∈dn++[k],OkL h p j:=λw1 w2 j hj=>by
   rcases List.mem_append.mp hj with hj | hj
   ·exact hdn j hj
   ·rw[List.mem_singleton.mp hj];intro a' b' ea' eb';rw[ea] at ea';rw[eb] at eb'
    cases ea'
    cases eb'
    exact⟨w1,w2⟩
  show Sm.run _ _ _ _ _;ac_rfl;ac_nf;refine z2Y (z2n a1) ?_;ac_nf;refine z2Y (z2n a0) ?_;ac_nf;refine z6k va vb ?_;ac_nf;refine z2Y (z2n a1) ?_;ac_nf;refine z6k va bp ?_;ac_nf;refine zcW (z8e va vb) (z8e va bp) ?_;ac_nf;refine z2f (λw =>?_) (λw =>?_)
  ·ac_nf;refine q _ ⟨λw=>by(cases w),λw' =>?_⟩;have:=(iff.mp w' k hk a b ea eb).1;omega
  ac_nf;rw[List.length_map];refine z2f (λw2 =>?_) (λw2 =>?_)
  ·ac_nf;refine z2Y (z2n a1) ?_;ac_nf;refine z6k va bp ?_;ac_nf;refine zhO (z8e va vb) (z8e va bp) ?_;ac_nf;refine z2f (λw3 =>?_) (λw3 =>?_)
   ·ac_nf;refine q _ ⟨λw=>by(cases w),λw' =>?_⟩;have:=(iff.mp w' k hk a b ea eb).2 (by omega);omega
   ·ac_nf;exact⟨_,_,ok (by omega) λ_=>by omega,rfl⟩
  ·ac_nf;exact⟨_,_,ok (by omega) λz=>by omega,rfl⟩
 ·rintro ρ ⟨x2,x3,hdn,rfl⟩;ac_nf;exact q true ⟨λ_=>iff.mpr λk hk=>hdn k (List.mem_range.mpr hk),λ_=>rfl⟩
def zbW (l h:List Geo.T3):deq (pls3 l) (pls3 h)=decide (l=h):=by
 show PyData.eqvAll (pys (l.map pl3)) (pys (h.map pl3))=decide (l=h)
 induction l generalizing h with
 | nil=>
  cases h with
  | nil=>rfl
  | cons p h=>rfl
 | cons p l ih=>
  cases h with
  | nil=>rfl
  | cons r h=>
   show (PyData.eqv (py (pl3 p)) (py (pl3 r)) && PyData.eqvAll (pys (l.map pl3)) (pys (h.map pl3)))=_;rw[ih h,show PyData.eqv (py (pl3 p)) (py (pl3 r))=decide (p=r) from z7y p r]
   by_cases e1:p=r <;> by_cases e2:l=h <;> simp[e1,e2]
def Da.pls3 (l:List Geo.T3){n:Nat}:Da (n+2) (Pu.pls3 l):=Da.tup.mpr λd hd=>by
 obtain⟨y,_,rfl⟩:=List.mem_map.mp hd;exact Da.pl3 y
def zaF {l h:List Geo.T3}(x:Geo.Ar l h)(lo:∀t∈l,Geo.Lo t):h.length<=l.length:=by
 by_cases hn:l=[]
 ·subst hn; rw[x.nil]; simp
 ·obtain⟨M,_,hM⟩:=Geo.zam λt ht=>(lo t ht).1;have nd:(h.map (Geo.up M)).Nodup:=(x.is hM hn).nodup;exact z5N (List.Pairwise.imp (λz e=>z (by rw[e])) (List.pairwise_map.mp nd)) x.sub
end Pu
namespace Pu
open PySem L2
def z0W:Fn:=Fn.mkN 2 5 (.seq (.set 2 (.op z1d [(.op pAdd [(.c (.int 1)),(.op pMod [(.v 0),(.v 1)])])]))
 (.seq (.set 3 (.op z1r [(.v 0),(.v 1)]))
 (.seq (.set 4 (.op pTup [(.op z0G [(.v 3),(.v 2)]),(.op z0G [(.op z1r [(.v 3),(.op pAdd [(.op z0l [(.c (.int 2)),(.v 2)]),(.c (.int 1))])]),(.v 2)])]))
 (.seq (.ifs (.op pEq [(.v 4),(.op pTup [(.c (.int 0)),(.c (.int 0))])]) (.ret (.op pTup [(.c (.int 0)),(.c (.int 1))])) .skip)
 (.ret (.v 4))))))
def z18:Fn:=Fn.mkN 1 3 (.seq (.set 1 (.op z0o [(.v 0),(.c (.int 3))]))
 (.seq (.set 2 (.op pTup [(.op pSub [(.op pMod [(.v 1),(.c (.int 9))]),(.c (.int 4))]),(.op pSub [(.op pMod [(.op z1r [(.v 1),(.c (.int 9))]),(.c (.int 9))]),(.c (.int 4))])]))
 (.seq (.ifs (.op pEq [(.op pMod [(.op z1r [(.v 1),(.c (.int 81))]),(.c (.int 5))]),(.c (.int 1))]) (.set 2 (.op pTup [(.op pSub [(.op pMod [(.v 0),(.op pAdd [(.op z0l [(.c (.int 2)),(.op pPow [(.c (.int 10)),(.c (.int 20))])]),(.c (.int 1))])]),(.op pPow [(.c (.int 10)),(.c (.int 20))])]),(.op pSub [(.op pMod [(.op z1r [(.v 1),(.c (.int 405))]),(.c (.int 1000))]),(.c (.int 500))])])) .skip)
 (.seq (.ifs (.op pEq [(.v 2),(.op pTup [(.c (.int 0)),(.c (.int 0))])]) (.ret (.op pTup [(.c (.int 0)),(.c (.int 1))])) .skip)
 (.ret (.v 2))))))
def z0b:Fn:=Fn.mkN 2 4 (.seq (.set 2 (.op pAdd [(.op z0l [(.op pIx [(.v 0),(.c (.int 0))]),(.op pIx [(.v 1),(.c (.int 0))])]),(.op z0l [(.op pIx [(.v 0),(.c (.int 1))]),(.op pIx [(.v 1),(.c (.int 1))])])]))
 (.seq (.set 3 (.op z0D [(.v 2),(.op pIx [(.v 1),(.c (.int 2))])]))
 (.ret (.op pTup [(.op z1r [(.v 2),(.v 3)]),(.op z1r [(.op pIx [(.v 1),(.c (.int 2))]),(.v 3)])]))))
def z1e:Fn:=Fn.mkN 2 2 (.ret (.op pLt [(.op z0l [(.op pIx [(.v 0),(.c (.int 0))]),(.op pIx [(.v 1),(.c (.int 1))])]),(.op z0l [(.op pIx [(.v 1),(.c (.int 0))]),(.op pIx [(.v 0),(.c (.int 1))])])]))
def z1Z:Fn:=Fn.mkN 1 1 (.ret (.and (.op (pIsi "int") [(.v 0)]) (.not (.op (pIsi "bool") [(.v 0)]))))
def z1Q:Fn:=Fn.mkN 2 3 (.seq (.set 2 (.op z0n [(.v 0),(.v 1)]))
 (.ret (.or (.op pGt [(.op pIx [(.v 2),(.c (.int 0))]),(.c (.int 0))]) (.and (.op pEq [(.op pIx [(.v 2),(.c (.int 0))]),(.c (.int 0))]) (.op pGt [(.op pIx [(.v 2),(.c (.int 1))]),(.c (.int 0))])))))
def z1v:Fn:=Fn.mkN 1 1 (.seq (.ifs (.or (.not (.op (pIsi "tuple") [(.v 0)])) (.or (.op pNe [(.op pLen [(.v 0)]),(.c (.int 3))]) (.not (.op pAll [(.comp 1 [] (.nm 0) (.v 0) none (.op z1Z [(.v 0)]))])))) (.ret (.c (.bl false))) .skip)
 (.ret (.and (.op pGt [(.op pIx [(.v 0),(.c (.int 2))]),(.c (.int 0))]) (.op pEq [(.op z06 [(.op pIx [(.v 0),(.c (.int 0))]),(.op pIx [(.v 0),(.c (.int 1))]),(.op pIx [(.v 0),(.c (.int 2))])]),(.v 0)]))))
def z1D:Fn:=Fn.mkN 1 3 (.seq (.ifs (.or (.not (.op (pIsi "tuple") [(.v 0)])) (.not (.op pAll [(.comp 1 [] (.nm 0) (.v 0) none (.op z1v [(.v 0)]))]))) (.ret (.c (.bl false))) .skip)
 (.seq (.forr [(.c (.int 1)),(.op pLen [(.v 0)])] (.nm 1) (.ifs (.not (.op z1Q [(.op pIx [(.v 0),(.c (.int 0))]),(.op pIx [(.v 0),(.v 1)])])) (.ret (.c (.bl false))) .skip))
 (.seq (.ifs (.op pLt [(.op pLen [(.v 0)]),(.c (.int 3))]) (.ret (.c (.bl true))) .skip)
 (.seq (.forr [(.op pLen [(.v 0)])] (.nm 1) (.seq (.set 2 (.op z0n [(.op pIx [(.v 0),(.op pSub [(.v 1),(.c (.int 2))])]),(.op pIx [(.v 0),(.op pSub [(.v 1),(.c (.int 1))])])]))
 (.ifs (.or (.op pLe [(.op z1c [(.v 2),(.op z0n [(.op pIx [(.v 0),(.op pSub [(.v 1),(.c (.int 1))])]),(.op pIx [(.v 0),(.v 1)])])]),(.c (.int 0))]) (.not (.op z0V [(.v 0),(.op pIx [(.v 0),(.v 1)])]))) (.ret (.c (.bl false))) .skip)))
 (.ret (.c (.bl true)))))))
end Pu
namespace Pu
open PySem L2 Mth
def zer {a:Int}{Q:DK}{X:XP}(q:Q (.bl true)):z1Z.run [.int a] Q X:=by
 walk_at "fn";ac_nf;refine zel rfl ?_;ac_nf;exact q
def zf7 {t u:Geo.T3}(lo:Geo.Lo t)(h:Lw t.1 t.2.1 t.2.2 u):u=t:=Geo.Lo.eq h.lo lo h.cx h.cy
def zew {t:Geo.T3}{Q:DK}{X:XP}(lo:Geo.Lo t)(tz:Tz t)(bw:Bt 9000 t.2.2)(q:Q (.bl true)):z1v.run [pl3 t] Q X:=by
 have w0:=lo.1;show z1v.run [.tup [.int t.1,.int t.2.1,.int t.2.2]] Q X;walk_at "fn";ac_nf;refine z6j (zel rfl ?_);ac_nf;refine z6j (z75 rfl ?_);ac_nf;refine⟨szl' (by simp),?_⟩;refine z53 (f:=D.int) (l:=[t.1,t.2.1,t.2.2]) (g:=λ_ =>.bl true) (λa _ K hK =>?_) ?_
 ·ac_nf;exact zer hK
 refine zj4 (bs:=[true,true,true]) ?_;ac_nf;refine z6j (zel rfl ?_);ac_nf;refine z75 w0 ?_;ac_nf;refine z5I w0 bw λu hu =>?_;rw[zf7 lo hu];ac_nf;refine zf0 (l:=[.int t.1,.int t.2.1,.int t.2.2]) (r:=[.int t.1,.int t.2.1,.int t.2.2]) (Da.pl3 t) (Da.pl3 t) ?_;rw[show deq (.tup [.int t.1,.int t.2.1,.int t.2.2]) (.tup [.int t.1,.int t.2.1,.int t.2.2])=decide (t=t) from z7y t t];simpa using q
def zd0 {a b:Geo.T3}{Q:DK}{X:XP}(ha:Tz a)(hb:Tz b)(lx:Geo.Lx3 a b)(q:Q (.bl true)):z1Q.run [pl3 a,pl3 b] Q X:=by
 walk_at "fn";ac_nf;refine z6k ha hb ?_;ac_nf
 rcases lx with z | ⟨z1,z2⟩
 ·refine z75 (by show 0<b.1*a.2.2 - a.1*b.2.2; omega) ?_;exact q
 ·refine t_no (by show ¬ 0<b.1*a.2.2 - a.1*b.2.2; omega) ?_;ac_nf;refine z75 (by show b.1*a.2.2 - a.1*b.2.2=0; omega) ?_;ac_nf;rw[decide_eq_true (show 0<(Geo.st3 a b).2 by show 0<b.2.1*a.2.2 - a.2.1*b.2.2; omega)];exact q
def zhk {α:Type}{l:List α}{k j:Nat}(hk:k<l.length)(hj:j<=l.length):atI l ((k:Int) - (j:Int))=l[(k+l.length - j) % l.length]? := by
 rcases Nat.lt_or_ge k j with z | z
 ·rw[Nat.mod_eq_of_lt (show k+l.length - j<l.length by omega)];unfold atI;rw[show ixN l.length ((k:Int) - (j:Int))=some (k+l.length - j) by
   unfold ixN;rw[if_neg (by omega),if_pos (by omega)]
   congr 1; omega]
  rfl
 ·rw[show k+l.length - j=(k - j)+l.length by omega,Nat.add_mod_right,Nat.mod_eq_of_lt (by omega),show (k:Int) - (j:Int)=((k - j:Nat):Int) by omega,z5t (by omega)]
def zem {a b c:Geo.T3}(ha:0<a.2.2)(hb:0<b.2.2)(h:0<(Geo.st3 a b).1*(Geo.st3 a c).2 - (Geo.st3 a b).2*(Geo.st3 a c).1):0<(Geo.st3 a b).1*(Geo.st3 b c).2 - (Geo.st3 a b).2*(Geo.st3 b c).1:=by
 refine(Geo.z79 ha hb (x:=(Geo.st3 a b).1*(Geo.st3 b c).2 - (Geo.st3 a b).2*(Geo.st3 b c).1) (y:=(Geo.st3 a b).1*(Geo.st3 a c).2 - (Geo.st3 a b).2*(Geo.st3 a c).1) ?_).1.mpr h;unfold Geo.st3;dsimp only
 grind
def zdN {S:Geo.P->Prop}{h:List Geo.T3}{M:Int}(x:Geo.z17 S (h.map (Geo.up M)))(hl:3<=h.length){k:Nat}(hk:k<h.length){a b c:Geo.T3}(ea:h[(k+h.length - 2) % h.length]? = some a)(eb:h[(k+h.length - 1) % h.length]? = some b)(ec:h[k]? = some c):0<Geo.cr (Geo.up M a) (Geo.up M b) (Geo.up M c):=by
 have hlm:(h.map (Geo.up M)).length=h.length:=List.length_map ..;obtain⟨i,ei⟩:∃i,i=k+h.length - 2:=⟨_,rfl⟩
 have g:∀j t,h[j % h.length]? = some t->Geo.cy (h.map (Geo.up M)) j=Geo.up M t:=λj t e=>by
  have:=Geo.z4d (h:=h.map (Geo.up M)) (i:=j) (by omega);rw[hlm,List.getElem?_map,e] at this;exact(Option.some.inj this).symm
 have e1:=Geo.z6A x (by omega) i;have e2:=Geo.z6A x (by omega) (i+1);have tn:=Geo.z7x e1 e2 (Geo.ze2 x (by omega) i);rw[g i a (by rw[ei]; exact ea),g (i+1) b (by rw[show i+1=k+h.length - 1 by omega]; exact eb),g (i+1+1) c (by
  rw[show i+1+1=k+h.length by omega,Nat.add_mod_right,Nat.mod_eq_of_lt hk]; exact ec)] at tn
 exact tn
def zfC {M:Int}{l h:List Geo.T3}(x:Geo.Ar l h)(hM:∀t∈l,Geo.Dv M t){m v:Geo.T3}{k:Nat}(em:h[0]? = some m)(ev:h[k+1]? = some v):Geo.Lx3 m v:=by
 have mm:=x.sub m (List.mem_of_getElem? em);have mv:=x.sub v (List.mem_of_getElem? ev);have is:=x.is hM (λz=>by rw[z] at mm; simp at mm);obtain⟨m',t,e,sm,hm,hmt,_⟩:=is.ex;refine(Geo.zfW (hM m mm) (hM v mv)).mpr ?_;have e0:(h.map (Geo.up M))[0]? = some (Geo.up M m):=by rw[List.getElem?_map,em]; rfl
 have e1:(h.map (Geo.up M))[k+1]? = some (Geo.up M v):=by rw[List.getElem?_map,ev]; rfl
 rw[e] at e0 e1;simp at e0 e1;subst e0;have mt:=List.mem_of_getElem? e1
 rcases Geo.Lx.tri (Geo.up M m) (Geo.up M v) with z | z | z
 ·exact z
 ·exact(hmt (z ▸ mt)).elim
 ·exact(hm _ (List.mem_map_of_mem mv) z).elim
def zcf {M:Int}{l h:List Geo.T3}{Q:DK}{X:XP}(x:Geo.Ar l h)(hM:∀t∈l,Geo.Dv M t)(lo:∀t∈l,Geo.Lo t)(tz:∀t∈l,Tz t)(bw:∀t∈l,Bt 9000 t.2.2)(hz:h.length<=2000)(q:Q (.bl true)):z1D.run [pls3 h] Q X:=by
 walk_at "fn";ac_nf;refine z6j (zel rfl ?_);ac_nf;refine⟨by rw[List.length_map]; exact szl' (by omega),?_⟩;refine z53 (g:=λ_ =>.bl true) (λp hp K hK =>?_) ?_
 ·ac_nf;have mp:=x.sub p hp;exact zew (lo p mp) (tz p mp) (bw p mp) hK
 rw[show (h.map λ_=>D.bl true)=(h.map λ_=>true).map .bl by rw[List.map_map]; rfl];refine zj4 ?_;rw[show (h.map λ_=>true).all id=true by simp];ac_nf;refine z6j (z5e ?_);ac_nf;rw[List.length_map];refine zhV ⟨⟨by decide,by decide⟩,by omega,by omega⟩ ?_;refine z2e (f:=λ(j:Nat)=>D.int (1+(j:Int))) (λdn ρ=>∃x1 x2:B,ρ=[.s (pls3 h),x1,x2]) ⟨_,_,rfl⟩ ?_ ?_
 ·rintro dn k r ρ e ⟨x1,x2,rfl⟩;have hk:k+1<h.length:=by
   have:=List.mem_range.mp (show k∈List.range ((h.length:Int) - 1).toNat by rw[e]; simp);omega
  have ev:h[k+1]? = some h[k+1]:=List.getElem?_eq_getElem hk;have em:h[0]? = some h[0]:=List.getElem?_eq_getElem (by omega);have lx:=zfC x hM em ev;have mv:=x.sub _ (List.mem_of_getElem? ev);have mm:=x.sub _ (List.mem_of_getElem? em);have am:atI h 0=some h[0]:=(z5t (l:=h) (k:=0) (by omega)).trans em;have av:atI h (1+(k:Int))=some h[k+1]:=by rw[show 1+(k:Int)=((k+1:Nat):Int) by omega,z5t hk]; exact ev
  generalize h[k+1]=v at*;generalize h[0]=m at*;show Sm.run _ _ _ _ _;ac_rfl;ac_nf;refine z2Y (z2n am) ?_;ac_nf;refine z2Y (z2n av) ?_;ac_nf;refine zd0 (tz _ mm) (tz _ mv) lx ?_;ac_nf;refine z6j (z5e ?_);ac_nf;exact⟨_,_,rfl⟩
 rintro ρ ⟨x1,x2,rfl⟩;ac_nf;rw[List.length_map];refine z2f (λ_ =>?_) (λh3 =>?_)
 ·ac_nf;exact q
 ac_nf;rw[List.length_map];refine zbv (by omega) (by omega) ?_;rw[show ((h.length:Nat):Int).toNat=h.length by simp];have h3':3<=h.length:=by omega
 have ne:l≠[]:=λz=>by rw[z] at x; rw[x.nil] at h3'; simp at h3'
 have is:=x.is hM ne;refine z2e (f:=λ(j:Nat)=>D.int (j:Int)) (λdn ρ=>∃x1 x2:B,ρ=[.s (pls3 h),x1,x2]) ⟨_,_,rfl⟩ ?_ ?_
 ·rintro dn k r ρ e ⟨x1,x2,rfl⟩;have hk:k<h.length:=List.mem_range.mp (by rw[e]; simp);have i2:(k+h.length - 2) % h.length<h.length:=Nat.mod_lt _ (by omega);have i1:(k+h.length - 1) % h.length<h.length:=Nat.mod_lt _ (by omega);have ea:=List.getElem?_eq_getElem i2;have eb:=List.getElem?_eq_getElem i1;have ec:=List.getElem?_eq_getElem hk;have a2:atI h ((k:Int) - 2)=_:=(zhk (j:=2) hk (by omega)).trans ea;have a1:atI h ((k:Int) - 1)=_:=(zhk (j:=1) hk (by omega)).trans eb;have a0:atI h (k:Int)=_:=(z5t hk).trans ec;have tn:=zdN is h3' hk ea eb ec;have ma:=x.sub _ (List.mem_of_getElem? ea);have mb:=x.sub _ (List.mem_of_getElem? eb);have mc:=x.sub _ (List.mem_of_getElem? ec);generalize h[(k+h.length - 2) % h.length]=a at*;generalize h[(k+h.length - 1) % h.length]=b at*;generalize h[k]=c at*;have t3:=zem (lo a ma).1 (lo b mb).1 ((Geo.z9K (hM a ma) (hM b mb) (hM c mc)).2.1.mpr tn);show Sm.run _ _ _ _ _;ac_rfl;ac_nf;refine z2Y (z2n a2) ?_;ac_nf;refine z2Y (z2n a1) ?_;ac_nf;refine z6k (tz a ma) (tz b mb) ?_;ac_nf;refine z2Y (z2n a1) ?_;ac_nf;refine z2Y (z2n a0) ?_;ac_nf;refine z6k (tz b mb) (tz c mc) ?_;ac_nf;refine zcW (z8e (tz a ma) (tz b mb)) (z8e (tz b mb) (tz c mc)) ?_;ac_nf;refine t_no (by omega) ?_;ac_nf;refine z2Y (z2n a0) ?_;ac_nf;refine zcX (M:=M) (λt ht=>hM t (x.sub t ht)) (hM c mc) (λt ht=>lo t (x.sub t ht)) (lo c mc) (by omega) (λt ht=>tz t (x.sub t ht)) (tz c mc) λv hv =>?_;have vt:v=true:=hv.mpr (is.in (List.mem_map_of_mem mc));subst vt;ac_nf;refine z6j (z5e ?_);ac_nf;exact⟨_,_,rfl⟩
 rintro ρ ⟨x1,x2,rfl⟩;ac_nf;exact q
def ix_w {t:Geo.T3}{Q:DK}{X:XP}(q:Q (.int t.2.2)):pIx.run [pl3 t,.int 2] Q X:=zgW (za6 q)
def z96 (l:List Geo.T3):noL (pls3 l)=true:=by
 show noLs (l.map pl3)=true;refine z95 λd hd =>?_;obtain⟨p,_,rfl⟩:=List.mem_map.mp hd
 rfl
def z98 (l:List Geo.T3):noD (pls3 l)=true:=by
 show noDs (l.map pl3)=true;refine z97 λd hd =>?_;obtain⟨p,_,rfl⟩:=List.mem_map.mp hd
 rfl
def zhe {α:Type}{f:α->D}{l:List α}{k:Int}(h:0<=k):cutD (l.map f) none (some k)=(l.take k.toNat).map f:=by
 have hs:HT.sIx l.length l.length (some k)=min k.toNat l.length:=by
  show (if k<0 then (k+(l.length:Int)).toNat else min k.toNat l.length)=_;rw[if_neg (by omega)]
 rw[z7G,hs];show ((l.drop 0).take (min k.toNat l.length - 0)).map f=_;rw[List.drop_zero,Nat.sub_zero]
 rcases Nat.le_total k.toNat l.length with z | z
 ·rw[Nat.min_eq_left z]
 ·rw[Nat.min_eq_right z,List.take_of_length_le z,List.take_length]
def zgl {ns:List Int}{Q:DK}{X:XP}(q:∀c,Q (.int c)):z1E.run [.lst (ns.map .int),.int 0] Q X:=by
 walk_at "fn";ac_nf;refine z2f (λh =>?_) (λh =>?_)
 ·ac_nf
  cases ns with
  | nil=>simp at h
  | cons a r=>
   have e:atI (a::r) ((0:Nat):Int)=some a:=by rw[z5t (by simp)]; rfl
   exact z2Y (z2n (f:=D.int) e) (q a)
 ·ac_nf;exact q 0
def zbq {a b:Int}{Q:DK}{X:XP}(q:Q (.int ((Int.gcd a b:Nat):Int))):z1f.run [.int a,.int b] Q X:=by
 walk_at "fn";ac_nf;rw[z9B,z9B];refine zcD (λρ=>∃(g s:Nat) (x:B),Nat.gcd g s=Int.gcd a b/\ρ=[.s (.int a),.s (.int b),.s (.int (g:Int)),.s (.int (s:Int)),x]) (λρ=>match ρ with | [_,_,_,.s (.int s),_]=>s.toNat | _=>0) ⟨a.natAbs,b.natAbs,_,rfl,rfl⟩ ?_;rintro ρ ⟨g,s,x,e,rfl⟩;ac_nf;refine z6j (z2f (λz =>?_) (λz =>?_))
 ·ac_nf;have:s=0:=by lia
  subst this;rw[Nat.gcd_zero_right] at e;rw[e];exact q
 ·ac_nf;have hm:(g:Int) % (s:Int)=((g % s:Nat):Int):=by simp
  refine⟨⟨s,g % s,_,by rw[<- e,Nat.gcd_comm g s,Nat.gcd_rec s g,Nat.gcd_comm],by rw[hm]⟩,?_⟩;show ((g:Int) % (s:Int)).toNat<((s:Nat):Int).toNat
  rw[hm];have:=Nat.mod_lt g (show 0<s by lia);lia
def ss (b:Int × Int)(t:Geo.T3):Int:=b.1*t.1+b.2*t.2.1
def lf (b:Int × Int)(t:Geo.T3):Int × Int:=(ss b t / (Int.gcd (ss b t) t.2.2:Int),t.2.2 / (Int.gcd (ss b t) t.2.2:Int))
def zcn {b:Int × Int}{t:Geo.T3}(h:0<t.2.2):0<(lf b t).2/\(lf b t).1*t.2.2=ss b t*(lf b t).2/\Int.gcd (lf b t).1 (lf b t).2=1:=by
 obtain⟨g0,e1,e2,p,c⟩:=z9o (t:=ss b t) h;unfold lf;dsimp only;generalize (Int.gcd (ss b t) t.2.2:Int)=g at*;refine⟨by omega,?_,c⟩;generalize ss b t / g=u at*;generalize t.2.2 / g=v at*;rw[e1,e2]
 grind
def zkC {b:Int × Int}{t:Geo.T3}(hb:Vb 1000 b)(ht:Tz t)(h:0<t.2.2):Vb 110000 (lf b t):=by
 obtain⟨g0,e1,e2,p,c⟩:=z9o (t:=ss b t) h;have bs:Bt 110000 (ss b t):=(Bt.add (Bt.mul hb.1 ht.1) (Bt.mul hb.2 ht.2.1)).le;have bw:Bt 110000 t.2.2:=ht.2.2.le;have le:∀{x g u:Int},0<g->x=g*u->u.natAbs<=x.natAbs:=λ{x g u} g0 e=>by
  rw[e,Int.natAbs_mul];exact Nat.le_mul_of_pos_left _ (by omega)
 exact⟨bs.of_abs (le g0 e1),bw.of_abs (le g0 e2)⟩
def z3A {b:Int × Int}{t:Geo.T3}{Q:DK}{X:XP}(hb:Vb 1000 b)(ht:Tz t)(h:0<t.2.2)(q:Q (vec (lf b t))):z0b.run [vec b,pl3 t] Q X:=by
 obtain⟨b1,b2⟩:=hb;obtain⟨t1,t2,t3⟩:=ht;have g0:=(z9o (t:=ss b t) h).1;have bg:Bt 9000 (Int.gcd (ss b t) t.2.2:Int):=t3.of_abs (by
  have:=Nat.le_of_dvd (by omega) (Int.gcd_dvd_natAbs_right (ss b t) t.2.2);omega)
 unfold pl3;walk_at "fn";ac_nf;refine z7a ?_;refine⟨Safe.of_noL rfl rfl _,?_⟩;ac_rfl
 change 0<((b.1*t.1+b.2*t.2.1).gcd t.2.2:Int) at g0
 change Bt 9000 ((b.1*t.1+b.2*t.2.1).gcd t.2.2:Int) at bg
 ac_nf;exact q
def zaV {p r:Int × Int}{Q:DK}{X:XP}(h1:Vb 110000 p)(h2:Vb 110000 r)(q:Q (.bl (decide (p.1*r.2<r.1*p.2)))):z1e.run [vec p,vec r] Q X:=by
 obtain⟨a1,a2⟩:=h1;obtain⟨b1,b2⟩:=h2;walk_at "fn";ac_nf;exact q
def zgm {c f:Int}{Q:DK}{X:XP}(hf:1<=f/\f<=57)(q:∀b,Vb 1000 b->Q (vec b)):z0W.run [.int c,.int f] Q X:=by
 have f0:0<f:=by omega
 have c1:=Int.emod_nonneg c (show f≠0 by omega);have c2:=Int.emod_lt_of_pos c f0;have bf:Bt 640 f:=z0s (by omega);walk_at "fn";ac_nf;refine zfJ (by omega) (by omega) λm m0 bm =>?_;have b0:Bt 310 (2*m+1):=Bt.le (Bt.add (Bt.mul (z0s (n:=3) (by decide)) bm) (z0s (n:=3) (by decide)));ac_nf;refine z8K (by omega) bm λx bx =>?_;ac_nf;refine z8K (by omega) bm λy bY =>?_;ac_nf;refine zf0 (l:=[.int (x),.int (y)]) (r:=[.int 0,.int 0]) (Da.vec (x,y)) (Da.vec (0,0)) ?_;refine t_bl (λ_ =>?_) (λ_ =>?_)
 ·ac_nf;exact q (0,1) ⟨Bt.le (m:=4) (z0s (by decide)),Bt.le (m:=4) (z0s (by decide))⟩
 ·ac_nf;exact q (x,y) ⟨bx.le,bY.le⟩
def zjR {c:Int}{Q:DK}{X:XP}(q:∀b,Vb 1000 b->Q (vec b)):z18.run [.int c] Q X:=by
 have p20:(10:Int) ^ (20:Int).toNat=100000000000000000000:=by decide
 walk_at "fn";ac_nf;refine z8J (by decide) (by decide) λr r0 r1 =>?_;ac_nf;refine z2f (λw =>?_) (λw =>?_)
 ·ac_nf;rw[p20];have b1:Bt 1000 (c % (2*100000000000000000000+1) - 100000000000000000000):=Bt.le (m:=80) (z0s (by omega));have b2:Bt 1000 (r / 405 % 1000 - 500):=Bt.le (m:=20) (z0s (by omega));generalize c % (2*100000000000000000000+1) - 100000000000000000000=x at*;generalize r / 405 % 1000 - 500=y at*;refine zf0 (l:=[.int (x),.int (y)]) (r:=[.int 0,.int 0]) (Da.vec (x,y)) (Da.vec (0,0)) ?_;refine t_bl (λ_ =>?_) (λ_ =>?_)
  ·ac_nf;exact q (0,1) ⟨Bt.le (m:=4) (z0s (by decide)),Bt.le (m:=4) (z0s (by decide))⟩
  ·ac_nf;exact q (x,y) ⟨b1,b2⟩
 ·ac_nf;have b1:Bt 1000 (r % 9 - 4):=Bt.le (m:=20) (z0s (by omega));have b2:Bt 1000 (r / 9 % 9 - 4):=Bt.le (m:=20) (z0s (by omega));generalize r % 9 - 4=x at*;generalize r / 9 % 9 - 4=y at*;refine zf0 (l:=[.int (x),.int (y)]) (r:=[.int 0,.int 0]) (Da.vec (x,y)) (Da.vec (0,0)) ?_;refine t_bl (λ_ =>?_) (λ_ =>?_)
  ·ac_nf;exact q (0,1) ⟨Bt.le (m:=4) (z0s (by decide)),Bt.le (m:=4) (z0s (by decide))⟩
  ·ac_nf;exact q (x,y) ⟨b1,b2⟩
end Pu
namespace Pu
open PySem PySem.Spec PyProof.Rows L2
def Itrs (lo c:Int)(n:Nat):It:=⟨λi _=>i<n,λi H x H'=>H'=H/\x = .int (lo+i*c),λi _=>n<=i⟩
def zaL {P:Program}{w:World}{K:W.Frag}{tg:Expr}(it:Addr)(lo c:Int)(n:Nat):Turn P w K tg (Itrs lo c n) [it] it (λi h=>IsRangeIter h it (lo+(i:Nat)*c) ((n:Int) - (i:Nat)) c) where
 mem:=by simp
 obj:=λi h st b hb=>by
  rw[List.mem_singleton.mp hb];exact⟨_,st,λv z=>nomatch (show Data.fields _=Data.cell v from z)⟩
 keep:=λi h h' st k=>k it (by simp) _ st
 item:=by
  intro X hP hw hK hc i pins s σ H E I hf st hg;subst hP hw hK;obtain⟨f0,f1,f2,f3,f4,f5⟩:=hf it (by simp);refine(Walks.range (prog:=X.prog) (w:=X.w) (I.ok.hd hc) it lo c n).item i s _ _ hg st λv h' tk hv st' kk =>?_;obtain⟨t,rfl⟩:=hv;have I1:Inv X pins σ H { s with heap:=h',toks:=tk }:=I.turned (λb o hb e=>kk b o (by simpa using hb) e) f0 f1 f3 f4 f5;exact⟨_,rfl,zdR (s:={ s with heap:=h',toks:=tk }) (n:="range_iterator") st' rfl rfl (by decide) ⟨.int (lo+i*c),H,I1,⟨t,rfl⟩,⟨rfl,rfl⟩,st',λb hb=>(hf b hb).1⟩⟩
 done:=by
  intro X hP hw hK hc i pins s σ H E I hf st hg;subst hP hw hK;obtain⟨f0,f1,f2,f3,f4,f5⟩:=hf it (by simp);exact wpAny_pyNext_range_end (I.ok.hd hc) st (by have:n<=i:=hg; omega) λh' eb=>⟨rfl,I.turned (t':=s.toks) (λb o hb e=>eb b o hb e) f0 f1 f3 f4 f5⟩
 self:=λ_ _ _ _ _ st h=>wpAny_pyIter_rangeiter st h
abbrev rgs (i j c:Int):Nat:=(Builtin.Range.rangeSize i j c).toNat
structure Sm3 (i j c:Int):Prop where
 i0:0<=i
 i1:i<1000000
 j0 : -1000000<=j
 j1:j<1000000
 c0:0<c
 c1:c<1000000
def Sm3.size {i j c:Int}(h:Sm3 i j c):0<=Builtin.Range.rangeSize i j c/\Builtin.Range.rangeSize i j c<=1000000:=by
 obtain⟨h1,h2,h3,h4,h5,h6⟩:=h;unfold Builtin.Range.rangeSize;rw[if_pos h5]
 split
 ·have a:=Int.ediv_nonneg (show 0<=j - i - 1 by omega) (Int.le_of_lt h5);have b:=Int.ediv_le_self c (show 0<=j - i - 1 by omega);omega
 ·omega
def Sm3.small {i j c:Int}(h:Sm3 i j c):Builtin.Range.small i j c=true:=by
 have z:=h.size;obtain⟨h1,h2,h3,h4,h5,h6⟩:=h;unfold Builtin.Range.small;simp only[Builtin.Range.rangeFitsLong,Bool.and_eq_true,Bool.or_eq_true,decide_eq_true_eq,beq_iff_eq,h5,if_true];omega
section
variable {X:Cx}{tg:Expr}{E:XK}
def zkF (ta:TA):TI:=λσ H R=>ta σ H λvs H1=>∃i j c:Int,vs=[.int i,.int j,.int c]/\Sm3 i j c/\R (Itrs i c (rgs i j c)) H1
def zdo {a b c:Expr}{ta:TA}{p pos:Pos}(hg:Gl X "range")(hm:X.mg "range"=none)(ha:PA X [a,b,c] ta)(hs:starEach [a,b,c] X.env=(false,eval a X.env)::starEach [b,c] X.env)(hpl:(backTo pos (starEach [b,c] X.env)).any (·.1)=false):
  PI X tg (.Call (.Name "range" p) [a,b,c] [] pos) (zkF ta):=by
 intro pins s σ H R I h;refine Call_ (z6H I hg hm boot_range (PyProof.Rows.callWith_type1 (thn (ha pos pins s σ H _ I h) λus s1 ⟨vs,H1,I1,r1,q1⟩ =>?_) hs hpl));obtain⟨i,j,c,e,hz,q⟩:=q1;subst e
 cases r1 with
 | cons r rr=>
  cases rr with
  | cons r' rr=>
   cases rr with
   | cons r2 rr=>
    cases rr
    obtain⟨t,rfl⟩:=r;obtain⟨t',rfl⟩:=r';obtain⟨t2,rfl⟩:=r2;refine call_range_3 (by have:=hz.c0; omega) ?_ (.inl (PyProof.noPylong_small (by have:=hz.c0; have:=hz.c1; omega)));refine wpAny_pyIter_range (IsRange.new ..) hz.small ?_;have I2:Inv X pins σ H1 { s1 with heap:=s1.heap.push { cls :=.type "range",data :=.fields #[.int i t,.int j t',.int c t2] },toks:=s1.toks }:=I1.kept λb o e=>Heap.get?_push_of_some _ e;refine⟨_,[(s1.heap.push { cls :=.type "range",data :=.fields #[.int i t,.int j t',.int c t2] }).objs.size],_,_,H1,rfl,I2.kept (t':=s1.toks) λb o e=>Heap.get?_push_of_some _ e,zaL _ i c (rgs i j c),?_,λb hb =>?_,q⟩
    ·show IsRangeIter _ _ (i+((0:Nat):Int)*c) (((rgs i j c:Nat):Int) - ((0:Nat):Int)) c;rw[show i+((0:Nat):Int)*c=i by simp,show ((rgs i j c:Nat):Int) - ((0:Nat):Int)=Builtin.Range.rangeSize i j c by have:=hz.size.1; simp only[rgs]; omega];exact Heap.get?_push_size _ rfl
    ·rw[List.mem_singleton.mp hb];exact I2.fpOk (Nat.le_refl _) (I2.hok.fresh (Nat.le_refl _))
def zaK {K:W.Frag}{mg:Str->Option Value}{G:Hp}{lo c:Int}{n:Nat}:Walk K mg G ((List.range n).map λ(k:Nat)=>D.int (lo+(k:Int)*c)) (Itrs lo c n):=λi G1 H g1 g2=>by
 refine⟨λd e =>?_,λhi=>(show n<=i by simpa using hi)⟩;obtain⟨h,e'⟩:=List.getElem?_eq_some_iff.mp e;have hi:i<n:=by simpa using h
 refine⟨hi,λv H' y =>?_⟩;obtain⟨rfl,rfl⟩:=y;refine⟨Same.refl',G1,Gr.refl,g2,?_⟩;rw[<- e'];simp only[List.getElem_map,List.getElem_range];rw[RD]
def z8V:Fn:=⟨λds Q _=>∃i j c:Int,ds=[.int i,.int j,.int c]/\Sm3 i j c/\Q (.lst ((List.range (rgs i j c)).map λ(k:Nat)=>D.int (i+(k:Int)*c))),λds Q Q' X X' m _ ⟨i,j,c,e,h,q⟩=>⟨i,j,c,e,h,m _ q⟩⟩
def ziJ {i j c:Int}{Q:DK}{X:XP}(h:Sm3 i j c)(q:Q (.lst ((List.range (rgs i j c)).map λ(k:Nat)=>D.int (i+(k:Int)*c)))):z8V.run [.int i,.int j,.int c] Q X:=⟨i,j,c,rfl,h,q⟩
def zcg {a b c:Expr}{x y z:Ex}{p pos:Pos}(hg:Gl X "range")(hm:X.mg "range"=none)(ha:QXA X E [a,b,c] [x,y,z])(hs:starEach [a,b,c] X.env=(false,eval a X.env)::starEach [b,c] X.env:=by rfl)(hpl:(backTo pos (starEach [b,c] X.env)).any (·.1)=false:=by rfl):QXI X E tg (.Call (.Name "range" p) [a,b,c] [] pos) (.op z8V [x,y,z]):=
 QI.imp ⟨zdo hg hm ha.p hs hpl⟩ λσ H R ⟨G,ρ,Q0,X0,hs,ab,hr,_,hk,hx⟩=>by
  refine⟨G,ρ,λds=>z8V.run ds Q0 X0,X0,hs,ab,hr,λds vs G1 H1 q g1 g2 g3 rds =>?_,hx⟩;obtain⟨i,j,c,rfl,h,q⟩:=q;rw[RDs] at rds;obtain⟨v,r,rfl,h1,h2⟩:=rds;obtain⟨v2,v3,rfl,h3,h4⟩:=rds2 h2;exact⟨i,j,c,by rw[z1i h1,z1i h3,z1i h4],h,hk _ G1 H1 q g1 g2 g3 _ _ rfl zaK⟩
end
end Pu
namespace Pu
open PySem L2
def z16:Fn:=Fn.mkN 4 8 (.seq (.ifs (.and (.op pGt [(.v 3),(.c (.int 0))]) (.op pEq [(.op pMod [(.v 0),(.c (.int 2))]),(.c (.int 1))])) (.seq (.set 4 (.op z0w [(.op z1r [(.v 0),(.c (.int 2))]),(.v 3)]))
 (.seq (.set 4 (.op z06 [(.op pIx [(.v 4),(.c (.int 0))]),(.c (.int 0)),(.op pIx [(.v 4),(.c (.int 2))])]))
 (.ret (.op pTup [(.op pIx [(.v 4),(.c (.int 0))]),(.op pIx [(.v 4),(.c (.int 2))])])))) .skip)
 (.seq (.set 5 (.op z0o [(.v 0),(.c (.int 4))]))
 (.seq (.ifs (.op pEq [(.op pMod [(.v 5),(.c (.int 3))]),(.c (.int 0))]) (.ret (.op z0b [(.v 2),(.op pIx [(.v 1),(.op pMod [(.op z1r [(.v 5),(.c (.int 3))]),(.op pLen [(.v 1)])])])])) .skip)
 (.seq (.ifs (.op pEq [(.op pMod [(.v 5),(.c (.int 3))]),(.c (.int 1))]) (.seq (.set 6 (.op z0b [(.v 2),(.op pIx [(.v 1),(.op pMod [(.op z1r [(.v 5),(.c (.int 3))]),(.op pLen [(.v 1)])])])]))
 (.seq (.set 7 (.op z0b [(.v 2),(.op pIx [(.v 1),(.op pMod [(.op z1r [(.v 5),(.c (.int 300))]),(.op pLen [(.v 1)])])])]))
 (.seq (.set 4 (.op z06 [(.op pAdd [(.op z0l [(.op pIx [(.v 6),(.c (.int 0))]),(.op pIx [(.v 7),(.c (.int 1))])]),(.op z0l [(.op pIx [(.v 7),(.c (.int 0))]),(.op pIx [(.v 6),(.c (.int 1))])])]),(.c (.int 0)),(.op z0l [(.op z0l [(.c (.int 2)),(.op pIx [(.v 6),(.c (.int 1))])]),(.op pIx [(.v 7),(.c (.int 1))])])]))
 (.ret (.op pTup [(.op pIx [(.v 4),(.c (.int 0))]),(.op pIx [(.v 4),(.c (.int 2))])]))))) .skip)
 (.seq (.set 4 (.op z06 [(.op pSub [(.op pMod [(.op z1r [(.v 5),(.c (.int 3))]),(.c (.int 41))]),(.c (.int 20))]),(.c (.int 0)),(.op pAdd [(.c (.int 1)),(.op pMod [(.op z1r [(.v 5),(.c (.int 123))]),(.c (.int 7))])])]))
 (.ret (.op pTup [(.op pIx [(.v 4),(.c (.int 0))]),(.op pIx [(.v 4),(.c (.int 2))])])))))))
def z2H:Fn:=Fn.mkN 3 3 (.ret (.op pSub [(.op z0l [(.op z71 [(.v 1),(.v 0)]),(.op pIx [(.v 2),(.c (.int 1))])]),(.op z0l [(.op pIx [(.v 2),(.c (.int 0))]),(.op pIx [(.v 0),(.c (.int 2))])])]))
def z2S:Fn:=Fn.mkN 3 4 (.seq (.set 3 (.op z1f [(.op z1f [(.v 2),(.v 0)]),(.v 1)]))
 (.ret (.op pTup [(.op z1r [(.v 0),(.v 3)]),(.op z1r [(.v 1),(.v 3)]),(.op z1r [(.v 2),(.v 3)])])))
def z21:Fn:=Fn.mkN 4 6 (.seq (.set 4 (.op pSub [(.op z0l [(.op pIx [(.v 0),(.c (.int 0))]),(.v 3)]),(.op z0l [(.op pIx [(.v 2),(.c (.int 0))]),(.v 1)])]))
 (.seq (.set 5 (.op pSub [(.op z0l [(.op pIx [(.v 0),(.c (.int 1))]),(.v 3)]),(.op z0l [(.op pIx [(.v 2),(.c (.int 1))]),(.v 1)])]))
 (.ret (.op z2S [(.v 4),(.v 5),(.op pSub [(.op z0l [(.op pIx [(.v 0),(.c (.int 2))]),(.v 3)]),(.op z0l [(.op pIx [(.v 2),(.c (.int 2))]),(.v 1)])])]))))
def z3N:Fn:=Fn.mkN 3 9 (.seq (.own 3 (.op pLst []))
 (.seq (.forr [(.op pLen [(.v 0)])] (.nm 4) (.seq (.set 5 (.op pIx [(.v 0),(.op pSub [(.v 4),(.c (.int 1))])]))
 (.seq (.set 6 (.op pIx [(.v 0),(.v 4)]))
 (.seq (.set 7 (.op z2H [(.v 5),(.v 1),(.v 2)]))
 (.seq (.set 8 (.op z2H [(.v 6),(.v 1),(.v 2)]))
 (.seq (.ifs (.and (.op pLt [(.v 7),(.c (.int 0))]) (.op pGt [(.v 8),(.c (.int 0))])) (.app 3 (.op z21 [(.v 5),(.v 7),(.v 6),(.v 8)])) .skip)
 (.seq (.ifs (.and (.op pGt [(.v 7),(.c (.int 0))]) (.op pLt [(.v 8),(.c (.int 0))])) (.app 3 (.op z21 [(.v 6),(.v 8),(.v 5),(.v 7)])) .skip)
 (.ifs (.op pLe [(.v 8),(.c (.int 0))]) (.app 3 (.v 6)) .skip))))))))
 (.ret (.v 3))))
def z1w:Fn:=Fn.mkN 3 3 (.ret (.op z2W [(.op z3N [(.v 0),(.v 1),(.v 2)])]))
def z20:Fn:=Fn.mkN 4 8 (.seq (.set 4 (.op z0b [(.v 2),(.v 0)]))
 (.seq (.set 5 (.op z0b [(.v 2),(.v 1)]))
 (.seq (.set 6 (.op z0l [(.op pSub [(.op z0l [(.op pIx [(.v 3),(.c (.int 0))]),(.op pIx [(.v 4),(.c (.int 1))])]),(.op z0l [(.op pIx [(.v 4),(.c (.int 0))]),(.op pIx [(.v 3),(.c (.int 1))])])]),(.op pIx [(.v 5),(.c (.int 1))])]))
 (.seq (.set 7 (.op z0l [(.op pSub [(.op z0l [(.op pIx [(.v 5),(.c (.int 0))]),(.op pIx [(.v 4),(.c (.int 1))])]),(.op z0l [(.op pIx [(.v 4),(.c (.int 0))]),(.op pIx [(.v 5),(.c (.int 1))])])]),(.op pIx [(.v 3),(.c (.int 1))])]))
 (.ret (.op z0E [(.v 0),(.v 1),(.v 6),(.v 7)]))))))
def z1O:Fn:=Fn.mkN 3 7 (.seq (.own 3 (.comp 1 [2,1] (.nm 0) (.v 0) (some (.not (.op z1e [(.v 1),(.op z0b [(.v 2),(.v 0)])]))) (.v 0)))
 (.seq (.for_ [] (.nm 4) (.v 0) (.for_ [] (.nm 5) (.v 0) (.seq (.set 6 (.op z1e [(.op z0b [(.v 1),(.v 4)]),(.v 2)]))
 (.ifs (.and (.v 6) (.op z1e [(.v 2),(.op z0b [(.v 1),(.v 5)])])) (.app 3 (.op z20 [(.v 4),(.v 5),(.v 1),(.v 2)])) .skip))))
 (.ret (.v 3))))
def z0M:Fn:=Fn.mkN 3 7 (.seq (.set 3 (.op z1w [(.v 0),(.v 1),(.v 2)]))
 (.seq (.set 4 (.op z1O [(.v 0),(.v 1),(.v 2)]))
 (.seq (.ifs (.not (.op z1D [(.v 3)])) (.ret (.c (.bl false))) .skip)
 (.seq (.for_ [] (.nm 5) (.v 3) (.ifs (.op zdv [(.v 5),(.v 4)]) (.ret (.c (.bl false))) .skip))
 (.seq (.for_ [] (.nm 6) (.v 4) (.ifs (.not (.op z0V [(.v 3),(.v 6)])) (.ret (.c (.bl false))) .skip))
 (.ret (.c (.bl true))))))))
def z7w:Fn:=Fn.mkN 1 12 (.seq (.set 1 (.op z1E [(.v 0),(.c (.int 0))]))
 (.seq (.set 2 (.op z0l [(.c (.int 30)),(.op pMod [(.v 1),(.c (.int 2))])]))
 (.seq (.set 3 (.op pAdd [(.op pLst [(.op z1r [(.v 1),(.c (.int 2))])]),(.sl (.v 0) (some (.c (.int 1))) (some (.c (.int 63))))]))
 (.seq (.set 4 (.op zgK [(.c (.int 20)),(.op z1r [(.op pAdd [(.op pLen [(.v 3)]),(.c (.int 1))]),(.c (.int 2))])]))
 (.seq (.set 5 (.op z1P [(.sl (.v 3) none (some (.v 4))),(.v 2)]))
 (.seq (.set 6 (.op z2W [(.op z8q [(.v 5)])]))
 (.seq (.set 3 (.op pAdd [(.sl (.v 3) (some (.v 4)) (some (.op pAdd [(.v 4),(.c (.int 24))]))),(.op pLst [(.v 1),(.v 1)])]))
 (.seq (.for_ [] (.nm 7) (.op z8V [(.c (.int 0)),(.op pSub [(.op pLen [(.v 3)]),(.c (.int 1))]),(.c (.int 2))]) (.seq (.set 8 (.op z18 [(.op pIx [(.v 3),(.v 7)])]))
 (.seq (.ifs (.op pGt [(.v 2),(.c (.int 0))]) (.set 8 (.op z0W [(.op pIx [(.v 3),(.v 7)]),(.v 2)])) .skip)
 (.seq (.set 9 (.op z16 [(.op pIx [(.v 3),(.op pAdd [(.v 7),(.c (.int 1))])]),(.v 5),(.v 8),(.v 2)]))
 (.seq (.set 10 (.op pTup [(.op pSub [(.c (.int 0)),(.op pIx [(.v 8),(.c (.int 0))])]),(.op pSub [(.c (.int 0)),(.op pIx [(.v 8),(.c (.int 1))])])]))
 (.seq (.ifs (.or (.not (.op z0M [(.v 6),(.v 8),(.v 9)])) (.not (.op z0M [(.v 6),(.v 10),(.op pTup [(.op pSub [(.c (.int 0)),(.op pIx [(.v 9),(.c (.int 0))])]),(.op pIx [(.v 9),(.c (.int 1))])])]))) (.ret (.c (.bl false))) .skip)
 (.seq (.set 11 (.op pAdd [(.op z1w [(.v 6),(.v 8),(.v 9)]),(.op z1w [(.v 6),(.v 10),(.op pTup [(.op pSub [(.c (.int 0)),(.op pIx [(.v 9),(.c (.int 0))])]),(.op pIx [(.v 9),(.c (.int 1))])])])]))
 (.ifs (.or (.op pNe [(.op z2W [(.v 11)]),(.v 6)]) (.op pNe [(.op z1w [(.op pTup []),(.v 8),(.v 9)]),(.op pTup [])])) (.ret (.c (.bl false))) .skip))))))))
 (.ret (.c (.bl true)))))))))))
end Pu
namespace Geo
def sqp {a b:Int}(h:¬ (a=0/\b=0)):0<a*a+b*b:=by
 have sq:∀x:Int,0<=x*x:=λx=>by
  rcases Int.le_total 0 x with z | z
  ·exact Int.mul_nonneg z z
  ·exact Int.mul_nonneg_of_nonpos_of_nonpos z z
 have h1:=sq a;have h2:=sq b
 rcases Int.lt_or_eq_of_le (Int.add_nonneg h1 h2) with z | z
 ·exact z
 ·exfalso
  have z1:a*a=0:=by omega
  have z2:b*b=0:=by omega
  have y1:=Int.mul_eq_zero.mp z1;have y2:=Int.mul_eq_zero.mp z2;exact h ⟨by omega,by omega⟩
def zfs {u w p d a1 b1 q1 a2 b2 q2:P}{c:Int}(hp:sc p u<=c)(hd:c<sc d u)(hw:sc p w<=sc d w)
  (i1:sc a1 u<=c) (o1:c<sc b1 u) (m1:sc q1 u=c) (n1:cr a1 b1 q1=0) (i2:sc b2 u<=c) (o2:c<sc a2 u) (m2:sc q2 u=c) (n2:cr a2 b2 q2=0)
  (p1:0<=cr a1 b1 p) (d1:0<=cr a1 b1 d) (p2:0<=cr a2 b2 p) (d2:0<=cr a2 b2 d):sc p w<=sc q1 w\/sc p w<=sc q2 w:=by
 have hα:0<sc d u - c:=by omega
 have hβ:0<=c - sc p u:=by omega
 generalize hA:sc d u - c=α at*;generalize hB:c - sc p u=β at*;have uu:0<u.1*u.1+u.2*u.2:=by
  refine sqp λz =>?_;unfold sc at i1 o1;rw[z.1,z.2] at i1 o1;simp at i1 o1;omega
 have key:∀{a b q:P},sc q u=c->cr a b q=0->0<=cr a b p->0<=cr a b d->0<=(u.1*(p.2*α+d.2*β - (α+β)*q.2) - u.2*(p.1*α+d.1*β - (α+β)*q.1))*(sc b u - sc a u):=by
  intro a b q mq nq pq dq;have h1:0<=cr a b p*α+cr a b d*β:=Int.add_nonneg (Int.mul_nonneg pq (Int.le_of_lt hα)) (Int.mul_nonneg dq hβ);have perp:u.1*(p.1*α+d.1*β - (α+β)*q.1)+u.2*(p.2*α+d.2*β - (α+β)*q.2)=0:=by
   have e1:sc p u*α+sc d u*β=c*(α+β):=by rw[<- hA, <- hB]; grind
   unfold sc at e1 mq
   grind
  have h2:cr a b p*α+cr a b d*β=(b.1 - a.1)*(p.2*α+d.2*β - (α+β)*q.2) - (b.2 - a.2)*(p.1*α+d.1*β - (α+β)*q.1):=by
   unfold cr at nq ⊢
   grind
  rw[h2] at h1;generalize p.1*α+d.1*β - (α+β)*q.1=x at*;generalize p.2*α+d.2*β - (α+β)*q.2=y at*;have h3:=Int.mul_nonneg h1 (Int.le_of_lt uu);have h4:((b.1 - a.1)*y - (b.2 - a.2)*x)*(u.1*u.1+u.2*u.2)=(u.1*y - u.2*x)*(sc b u - sc a u):=by
   unfold sc
   grind
  rw[h4] at h3;exact h3
 have fin:∀{q:P},sc q u=c->(u.1*(p.2*α+d.2*β - (α+β)*q.2) - u.2*(p.1*α+d.1*β - (α+β)*q.1))*(u.1*w.2 - u.2*w.1)<=0->sc p w<=sc q w:=by
  intro q mq h;have perp:u.1*(p.1*α+d.1*β - (α+β)*q.1)+u.2*(p.2*α+d.2*β - (α+β)*q.2)=0:=by
   have e1:sc p u*α+sc d u*β=c*(α+β):=by rw[<- hA, <- hB]; grind
   unfold sc at e1 mq
   grind
  have e2:sc p w*α+sc d w*β - (α+β)*sc q w=(p.1*α+d.1*β - (α+β)*q.1)*w.1+(p.2*α+d.2*β - (α+β)*q.2)*w.2:=by unfold sc; grind
  generalize p.1*α+d.1*β - (α+β)*q.1=x at*;generalize p.2*α+d.2*β - (α+β)*q.2=y at*;have e3:(x*w.1+y*w.2)*(u.1*u.1+u.2*u.2)=(u.1*y - u.2*x)*(u.1*w.2 - u.2*w.1):=by grind
  have e4:x*w.1+y*w.2<=0:=by
   rcases Int.lt_or_le 0 (x*w.1+y*w.2) with z | z
   ·have:=Int.mul_pos z uu;omega
   ·exact z
  have e5:=Int.mul_le_mul_of_nonneg_right hw hβ;have e6:sc p w*(α+β)<=sc q w*(α+β):=by grind
  exact Int.le_of_mul_le_mul_right e6 (by omega)
 have k1:=key m1 n1 p1 d1;have k2:=key m2 n2 p2 d2;have s1:0<=u.1*(p.2*α+d.2*β - (α+β)*q1.2) - u.2*(p.1*α+d.1*β - (α+β)*q1.1):=z4I (show 0<sc b1 u - sc a1 u by omega) k1;have s2:u.1*(p.2*α+d.2*β - (α+β)*q2.2) - u.2*(p.1*α+d.1*β - (α+β)*q2.1)<=0:=by
  have:0 <= -(u.1*(p.2*α+d.2*β - (α+β)*q2.2) - u.2*(p.1*α+d.1*β - (α+β)*q2.1)):=z4I (show 0<sc a2 u - sc b2 u by omega) (by grind);omega
 rcases Int.le_total (u.1*w.2 - u.2*w.1) 0 with t | t
 ·exact .inl (fin m1 (Int.mul_nonpos_of_nonneg_of_nonpos s1 t))
 ·exact .inr (fin m2 (Int.mul_nonpos_of_nonpos_of_nonneg s2 t))
def zbP {h:List P}{f:P->Int}{c:Int}(hl:0<h.length){a b:P}(ha:a∈h)(hb:b∈h)(fa:f a<=c)(fb:c<f b):∃i,f (cy h i)<=c/\c<f (cy h (i+1)):=by
 obtain⟨i,hi,ei⟩:=List.mem_iff_getElem.mp ha;obtain⟨j,hj,ej⟩:=List.mem_iff_getElem.mp hb;have at_:∀{k:Nat}(hk:k<h.length) (m:Nat),cy h (k+m*h.length)=h[k]:=λ{k} hk m=>by
  unfold cy;rw[Nat.add_mul_mod_self_right,Nat.mod_eq_of_lt hk,List.getD_eq_getElem?_getD,List.getElem?_eq_getElem hk]
  rfl
 refine Classical.byContradiction λno =>?_;have stay:∀n,f (cy h (i+n))<=c:=λn=>by
  induction n with
  | zero=>
   have:=at_ hi 0;rw[Nat.zero_mul] at this;rw[this,ei]; exact fa
  | succ n ih=>
   rcases Int.lt_or_le c (f (cy h (i+n+1))) with z | z
   ·exact absurd ⟨i+n,ih,z⟩ no
   ·exact z
 have s:=stay (j+h.length - i);have e:=at_ hj 1;rw[show i+(j+h.length - i)=j+1*h.length by omega,e,ej] at s;omega
structure Mid (u:P)(c:Int)(a b q:P):Prop where
 on:sc q u=c
 line:cr a b q=0
def zfI (p u:P):sc p (-u.1,-u.2) = -sc p u:=by unfold sc; grind
def ze3 {S:P->Prop}{H L:List P}(X:z17 S H){u:P}{c:Int}(hL:∀d∈H,sc d u<=c->d∈L)
  (hio:∀i,sc (cy H i) u<c->c<sc (cy H (i+1)) u->∃q∈L,Mid u c (cy H i) (cy H (i+1)) q) (hoi:∀i,c<sc (cy H i) u->sc (cy H (i+1)) u<c->∃q∈L,Mid u c (cy H i) (cy H (i+1)) q)
  {p:P}(hp:In H p) (gp:sc p u<=c) (w:P):∃d∈L,sc p w<=sc d w:=by
 have F:z17 (In H) H:=X.fill (λq hq=>X.in (X.sub q hq)) λq hq=>hq;have hl:0<H.length:=by obtain⟨m,t,e,_⟩:=X.ex; rw[e]; simp
 obtain⟨d,hd,dw⟩:=X.far hp w
 rcases Int.lt_or_le c (sc d u) with out | inn
 ·obtain⟨e,he,eu⟩:=X.far hp (-u.1,-u.2);rw[zfI,zfI] at eu;have e0:sc e u<=c:=by omega
  have h2:2<=H.length:=by
   rcases Nat.lt_or_ge H.length 2 with z | z
   ·match H,hl,z with
    | [x],_,_=>
     rw[List.mem_singleton.mp hd] at out;rw[List.mem_singleton.mp he] at e0;omega
   ·exact z
  obtain⟨i,ia,ib⟩:=zbP (f:=λp=>sc p u) hl he hd e0 out;obtain⟨j,ja,jb⟩:=zbP (f:=λp => -sc p u) (c := -c - 1) hl hd he (by show -sc d u <= -c - 1; omega) (by show -c - 1 < -sc e u; omega);have E1:=z6A F h2 i;have E2:=z6A F h2 j;have mi:=z8y (h:=H) (i:=i) hl;have mj:=z8y (h:=H) (i:=j+1) hl;have dI:In H d:=X.in (X.sub d hd);have g1:∃q∈L,Mid u c (cy H i) (cy H (i+1)) q:=by
   rcases Int.lt_or_le (sc (cy H i) u) c with z | z
   ·exact hio i z ib
   ·exact⟨cy H i,hL _ mi ia,⟨by omega,by simp only[cr]; grind⟩⟩
  have g2:∃q∈L,Mid u c (cy H j) (cy H (j+1)) q:=by
   have ja':c<sc (cy H j) u:=by omega
   have jb':sc (cy H (j+1)) u<=c:=by omega
   rcases Int.lt_or_le (sc (cy H (j+1)) u) c with z | z
   ·exact hoi j ja' z
   ·exact⟨cy H (j+1),hL _ mj jb',⟨by omega,by simp only[cr]; grind⟩⟩
  obtain⟨q1,m1,M1⟩:=g1;obtain⟨q2,m2,M2⟩:=g2;have ja':c<sc (cy H j) u:=by omega
  have jb':sc (cy H (j+1)) u<=c:=by omega
  rcases zfs gp out dw ia ib M1.on M1.line jb' ja' M2.on M2.line (E1.left p hp) (E1.left d dI) (E2.left p hp) (E2.left d dI) with z | z
  ·exact⟨q1,m1,z⟩
  ·exact⟨q2,m2,z⟩
 ·exact⟨d,hL d hd inn,dw⟩
def zjx {S:P->Prop}{H L h':List P}(X:z17 S H)(X':z17 (· ∈ L) h'){u:P}{c:Int}(hL:∀d∈H,sc d u<=c->d∈L)
  (hio:∀i,sc (cy H i) u<c->c<sc (cy H (i+1)) u->∃q∈L,Mid u c (cy H i) (cy H (i+1)) q) (hoi:∀i,c<sc (cy H i) u->sc (cy H (i+1)) u<c->∃q∈L,Mid u c (cy H i) (cy H (i+1)) q)
  {p:P}(hp:In H p) (gp:sc p u<=c):In h' p:=In.at_far X' λw=>by
 obtain⟨d,hd,dw⟩:=ze3 X hL hio hoi hp gp w;obtain⟨e,he,ew⟩:=X'.far (X'.in hd) w;exact⟨e,he,Int.le_trans dw ew⟩
end Geo
namespace Pu
open PySem L2 Mth
def Lw.same {x y b k:Int}{t u:Geo.T3}(hb:0<b)(hk:0<k)(h:Lw x y b t)(h':Lw (k*x) (k*y) (k*b) u):t=u:=by
 have c:∀{p q X:Int},p*b=X*t.2.2->q*(k*b)=k*X*u.2.2->p*u.2.2=q*t.2.2:=λ{p q X} e1 e2=>by
  have e3:q*b=X*u.2.2:=Int.eq_of_mul_eq_mul_left (show k≠0 by omega) (by rw[show k*(q*b)=q*(k*b) by grind,e2]; grind);exact Int.eq_of_mul_eq_mul_left (show b≠0 by omega) (by rw[show b*(p*u.2.2)=p*b*u.2.2 by grind,e1,show b*(q*t.2.2)=q*b*t.2.2 by grind,e3]; grind)
 exact Geo.Lo.eq h.lo h'.lo (c h.cx h'.cx) (c h.cy h'.cy)
def Lw.uniq {x y b:Int}{t u:Geo.T3}(hb:0<b)(h:Lw x y b t)(h':Lw x y b u):t=u:=Lw.same hb (k:=1) (by decide) h (by simpa using h')
def zhN {x y b:Int}{Q:DK}{X:XP}(hb:0<b)(bb:Bt 9000 b)(q:∀t,Lw x y b t->Q (pl3 t)):z2S.run [.int x,.int y,.int b] Q X:=by
 have hg:((Int.gcd ((Int.gcd b x:Nat):Int) y:Nat):Int)=g3 x y b:=rfl;have hp:=zdk (x:=x) (y:=y) hb;have g0:=zbT (x:=x) (y:=y) hb;have gb:=z70 x y b;have bg:Bt 9000 (g3 x y b):=Bt.le (bb.of_abs (by
  have:=Int.natAbs_dvd_natAbs.mpr gb;exact Nat.le_of_dvd (by lia) this))
 walk_at "fn";ac_nf;refine zbq ?_;ac_nf;refine zbq ?_;rw[hg];generalize g3 x y b=g at*;ac_nf;refine q (x / g,y / g,b / g) ?_;obtain⟨k,rfl⟩:=gb;exact⟨⟨by have:=hp.pos; exact this,hp.cop⟩,hp.cx,hp.cy,hp.lu,hp.lv,Int.ediv_le_self _ (by lia)⟩
def bey (b m:Int × Int)(t:Geo.T3):Int:=ss b t*m.2 - m.1*t.2.2
structure Mk (m:Int × Int):Prop where
 pos:0<m.2
 b1:Bt 4010 m.1
 b2:Bt 2010 m.2
abbrev Pd:=Pb 2000
def zc3 {b m:Int × Int}{t:Geo.T3}(hb:Vb 1000 b)(hm:Mk m)(ht:Pd t):Bt 5012 (bey b m t):=
 (Bt.sub (Bt.mul (Bt.add (Bt.mul hb.1 ht.bx) (Bt.mul hb.2 ht.bY)) hm.b2) (Bt.mul hm.b1 ht.bw)).le
def zhR {b m:Int × Int}{t:Geo.T3}{Q:DK}{X:XP}(hb:Vb 1000 b)(hm:Mk m)(ht:Pd t)(q:Q (.int (bey b m t))):z2H.run [pl3 t,vec b,vec m] Q X:=by
 have h1:=hb.1;have h2:=hb.2;have t1:=ht.bx;have t2:=ht.bY;have t3:=ht.bw;have m1:=hm.b1;have m2:=hm.b2;have s0:Bt 3001 (b.1*t.1+b.2*t.2.1):=(Bt.add (Bt.mul h1 t1) (Bt.mul h2 t2)).le;show z2H.run [.tup [.int t.1,.int t.2.1,.int t.2.2],.tup [.int b.1,.int b.2],.tup [.int m.1,.int m.2]] Q X;walk_at "fn";ac_nf;show z71.run _ _ _;walk_at "fn";ac_nf;exact q
def Xng (b m:Int × Int)(a c t:Geo.T3):Prop:=Lw (a.1*bey b m c - c.1*bey b m a) (a.2.1*bey b m c - c.2.1*bey b m a) (a.2.2*bey b m c - c.2.2*bey b m a) t
def z6O {b m:Int × Int}{a c:Geo.T3}(ha:0<a.2.2)(hc:0<c.2.2)(h1:bey b m a<0)(h2:0<bey b m c):0<a.2.2*bey b m c - c.2.2*bey b m a:=by
 have e1:=Int.mul_pos ha h2;have e2:=Int.mul_pos hc (show 0 < -bey b m a by omega);rw[Int.mul_neg] at e2;omega
def zjw {b m:Int × Int}{a c:Geo.T3}(hb:Vb 1000 b)(hm:Mk m)(ha:Pd a)(hc:Pd c):Bt 7013 (a.1*bey b m c - c.1*bey b m a)/\Bt 7013 (a.2.1*bey b m c - c.2.1*bey b m a)/\Bt 6013 (a.2.2*bey b m c - c.2.2*bey b m a):=by
 have e1:=zc3 hb hm ha;have e2:=zc3 hb hm hc;exact⟨(Bt.sub (Bt.mul ha.bx e2) (Bt.mul hc.bx e1)).le,(Bt.sub (Bt.mul ha.bY e2) (Bt.mul hc.bY e1)).le,(Bt.sub (Bt.mul ha.bw e2) (Bt.mul hc.bw e1)).le⟩
structure Pq (t:Geo.T3):Prop where
 lo:Geo.Lo t
 bx:Bt 7013 t.1
 bY:Bt 7013 t.2.1
 bw:Bt 6013 t.2.2
def Pq.tz {t:Geo.T3}(h:Pq t):Tz t:=⟨h.bx.le,h.bY.le,h.bw.le⟩
def Pq.of {t:Geo.T3}(h:Pd t):Pq t:=⟨h.lo,h.bx.le,h.bY.le,h.bw.le⟩
def Xng.pq {b m:Int × Int}{a c t:Geo.T3}(hb:Vb 1000 b)(hm:Mk m)(ha:Pd a)(hc:Pd c)(h1:bey b m a<0)(h2:0<bey b m c)(h:Xng b m a c t):Pq t:=by
 obtain⟨e1,e2,e3⟩:=zjw hb hm ha hc;have p0:=z6O ha.lo.1 hc.lo.1 h1 h2;exact⟨h.lo,e1.of_abs h.ax,e2.of_abs h.ay,e3.of_abs (by have:=h.ab; have:=h.lo.1; lia)⟩
def zcY {b m:Int × Int}{a c:Geo.T3}{Q:DK}{X:XP}(hb:Vb 1000 b)(hm:Mk m)(ha:Pd a)(hc:Pd c)(h1:bey b m a<0)(h2:0<bey b m c)(q:∀t,Xng b m a c t->Q (pl3 t)):z21.run [pl3 a,.int (bey b m a),pl3 c,.int (bey b m c)] Q X:=by
 have e1:=zc3 hb hm ha;have e2:=zc3 hb hm hc;have p0:=z6O ha.lo.1 hc.lo.1 h1 h2;have b0:=(zjw hb hm ha hc).2.2;have a1:=ha.bx;have a2:=ha.bY;have a3:=ha.bw;have c1:=hc.bx;have c2:=hc.bY;have c3:=hc.bw;have q':∀t,Lw (a.1*bey b m c - c.1*bey b m a) (a.2.1*bey b m c - c.2.1*bey b m a) (a.2.2*bey b m c - c.2.2*bey b m a) t->Q (pl3 t):=q;generalize bey b m a=α at*;generalize bey b m c=β at*;show z21.run [.tup [.int a.1,.int a.2.1,.int a.2.2],.int α,.tup [.int c.1,.int c.2.1,.int c.2.2],.int β] Q X;walk_at "fn";ac_nf;exact zhN p0 b0.le q'
def pcN (α β:Int):Nat:=(if (α < 0/\0 < β)\/(0 < α/\β < 0) then 1 else 0)+(if β<=0 then 1 else 0)
def cutK (b m:Int × Int)(h:List Geo.T3)(k:Nat):Nat:=match h[(k+h.length - 1) % h.length]?, h[k]? with
 | some a,some c=>pcN (bey b m a) (bey b m c)
 | _,_=>0
def ziw (α β:Int):pcN α β<=2:=by unfold pcN; split <;> split <;> omega
def zhf (b m:Int × Int)(h:List Geo.T3)(k:Nat):cutK b m h k<=2:=by
 unfold cutK
 split
 ·exact ziw _ _
 ·omega
def z9t (b m:Int × Int)(h:List Geo.T3):∀l:List Nat,(l.map (cutK b m h)).sum<=2*l.length
 | []=>by simp
 | k::l=>by
  have:=z9t b m h l;have:=zhf b m h k;simp;omega
structure Lf (b m:Int × Int)(h left:List Geo.T3):Prop where
 sub:∀t∈left,(t∈h/\bey b m t<=0)\/∃a∈h,∃c∈h,bey b m a<0/\0<bey b m c/\Xng b m a c t
 own:∀t∈h,bey b m t<=0->t∈left
 out:∀k a c,k<h.length->h[(k+h.length - 1) % h.length]? = some a->h[k]? = some c->bey b m a<0->0<bey b m c->∃t∈left,Xng b m a c t
 inn:∀k a c,k<h.length->h[(k+h.length - 1) % h.length]? = some a->h[k]? = some c->0<bey b m a->bey b m c<0->∃t∈left,Xng b m c a t
 len:left.length<=((List.range h.length).map (cutK b m h)).sum
def zhP {b m:Int × Int}{h:List Geo.T3}{Q:DK}{X:XP}(hb:Vb 1000 b)(hm:Mk m)(hp:∀t∈h,Pd t)(hz:h.length<=1000)(q:∀left,Lf b m h left->Q (.lst (left.map pl3))):z3N.run [pls3 h,vec b,vec m] Q X:=by
 walk_at "fn";ac_nf;refine⟨λx hx=>by simp at hx,?_⟩;ac_rfl;ac_nf;rw[List.length_map];refine zbv (by omega) (by omega) ?_;rw[show ((h.length:Nat):Int).toNat=h.length by simp];refine z2e (f:=λ(j:Nat)=>D.int (j:Int)) (λdn ρ=>∃(left:List Geo.T3) (x4 x5 x6 x7 x8:B),ρ=[.s (pls3 h),.s (vec b),.s (vec m),.o (.lst (left.map pl3)),x4,x5,x6,x7,x8]/\left.length<=(dn.map (cutK b m h)).sum/\
  (∀t∈left,(t∈h/\bey b m t<=0)\/∃a∈h,∃c∈h,bey b m a<0/\0<bey b m c/\Xng b m a c t)/\
  (∀k∈dn,∀a c,h[(k+h.length - 1) % h.length]? = some a->h[k]? = some c->(bey b m c<=0->c∈left)/\(bey b m a<0->0<bey b m c->∃t∈left,Xng b m a c t)/\(0<bey b m a->bey b m c<0->∃t∈left,Xng b m c a t)))
  ⟨[],_,_,_,_,_,rfl,by simp,by simp,by simp⟩ ?_ ?_
 ·rintro dn k r ρ e ⟨left,x4,x5,x6,x7,x8,rfl,ll,ls,la⟩;have hk:k<h.length:=List.mem_range.mp (by rw[e]; simp);have i1:(k+h.length - 1) % h.length<h.length:=Nat.mod_lt _ (by omega);have ea:=List.getElem?_eq_getElem i1;have ec:=List.getElem?_eq_getElem hk;have a1:atI h ((k:Int) - 1)=_:=(zhk (j:=1) hk (by omega)).trans ea;have a0:atI h (k:Int)=_:=(z5t hk).trans ec;have ma:=List.mem_of_getElem? ea;have mc:=List.mem_of_getElem? ec;have pa:=hp _ ma;have pc:=hp _ mc;generalize h[(k+h.length - 1) % h.length]=a at*;generalize h[k]=c at*;have ck:cutK b m h k=pcN (bey b m a) (bey b m c):=by unfold cutK; rw[ea,ec]
  have more:∀(l':List Geo.T3),l'.length<=pcN (bey b m a) (bey b m c)->(∀t∈l',(t∈h/\bey b m t<=0)\/∃a∈h,∃c∈h,bey b m a<0/\0<bey b m c/\Xng b m a c t)->((bey b m c<=0->c∈l')/\(bey b m a<0->0<bey b m c->∃t∈l',Xng b m a c t)/\(0<bey b m a->bey b m c<0->∃t∈l',Xng b m c a t))->
    (left++l').length<=((dn++[k]).map (cutK b m h)).sum/\(∀t∈left++l',(t∈h/\bey b m t<=0)\/∃a∈h,∃c∈h,bey b m a<0/\0<bey b m c/\Xng b m a c t)/\
    (∀i∈dn++[k],∀a c,h[(i+h.length - 1) % h.length]? = some a->h[i]? = some c->(bey b m c<=0->c∈left++l')/\(bey b m a<0->0<bey b m c->∃t∈left++l',Xng b m a c t)/\(0<bey b m a->bey b m c<0->∃t∈left++l',Xng b m c a t)):=λl' z1 z2 z3=>by
   refine⟨by rw[List.length_append,List.map_append,List.sum_append]; simp[ck]; omega,λt ht=>(List.mem_append.mp ht).elim (ls t) (z2 t),λk' hk' a' c' ea' ec' =>?_⟩
   rcases List.mem_append.mp hk' with z | z
   ·obtain⟨w1,w2,w3⟩:=la k' z a' c' ea' ec';exact⟨λy=>List.mem_append_left _ (w1 y),λy y'=>let ⟨t,q1,q2⟩:=w2 y y'; ⟨t,List.mem_append_left _ q1,q2⟩,λy y'=>let ⟨t,q1,q2⟩:=w3 y y'; ⟨t,List.mem_append_left _ q1,q2⟩⟩
   ·have z:=List.mem_singleton.mp z;subst z;rw[ea] at ea';rw[ec] at ec'
    cases ea'
    cases ec'
    obtain⟨w1,w2,w3⟩:=z3;exact⟨λy=>List.mem_append_right _ (w1 y),λy y'=>let ⟨t,q1,q2⟩:=w2 y y'; ⟨t,List.mem_append_right _ q1,q2⟩,λy y'=>let ⟨t,q1,q2⟩:=w3 y y'; ⟨t,List.mem_append_right _ q1,q2⟩⟩
  show Sm.run _ _ _ _ _;ac_rfl;ac_nf;refine z2Y (z2n a1) ?_;refine⟨by walk_at "sf",?_⟩;ac_rfl;ac_nf;refine z2Y (z2n a0) ?_;refine⟨by walk_at "sf",?_⟩;ac_rfl;ac_nf;refine zhR hb hm pa ?_;refine⟨by walk_at "sf",?_⟩;ac_rfl;ac_nf;refine zhR hb hm pc ?_;refine⟨by walk_at "sf",?_⟩;ac_rfl;ac_nf;have dl:dn.length<=1000:=by
   have:=congrArg List.length e;simp at this;omega
  have lb:=z9t b m h dn;have fin:∀(l':List Geo.T3),l'.length<=pcN (bey b m a) (bey b m c)->(∀t∈l',(t∈h/\bey b m t<=0)\/∃a∈h,∃c∈h,bey b m a<0/\0<bey b m c/\Xng b m a c t)->((bey b m c<=0->c∈l')/\(bey b m a<0->0<bey b m c->∃t∈l',Xng b m a c t)/\(0<bey b m a->bey b m c<0->∃t∈l',Xng b m c a t))->∀l2:List D,l2=left.map pl3++l'.map pl3->
    ∃(left:List Geo.T3) (x4 x5 x6 x7 x8:B),[.s (pls3 h),.s (vec b),.s (vec m),.o (.lst l2),B.s (D.int k),B.s (pl3 a),B.s (pl3 c),B.s (D.int (bey b m a)),B.s (D.int (bey b m c))]=[.s (pls3 h),.s (vec b),.s (vec m),.o (.lst (left.map pl3)),x4,x5,x6,x7,x8]/\left.length<=((dn++[k]).map (cutK b m h)).sum/\(∀t∈left,(t∈h/\bey b m t<=0)\/∃a∈h,∃c∈h,bey b m a<0/\0<bey b m c/\Xng b m a c t)/\
    (∀i∈dn++[k],∀a c,h[(i+h.length - 1) % h.length]? = some a->h[i]? = some c->(bey b m c<=0->c∈left)/\(bey b m a<0->0<bey b m c->∃t∈left,Xng b m a c t)/\(0<bey b m a->bey b m c<0->∃t∈left,Xng b m c a t)):=λl' z1 z2 z3 l2 e2=>⟨left++l',.s (.int k),.s (pl3 a),.s (pl3 c),.s (.int (bey b m a)),.s (.int (bey b m c)),by rw[e2, <- List.map_append],more l' z1 z2 z3⟩
  have one:∀{t:Geo.T3},bey b m a<0->0<bey b m c->Xng b m a c t->∃a∈h,∃c∈h,bey b m a<0/\0<bey b m c/\Xng b m a c t:=λh1 h2 h3=>⟨a,ma,c,mc,h1,h2,h3⟩
  have two:∀{t:Geo.T3},bey b m c<0->0<bey b m a->Xng b m c a t->∃a∈h,∃c∈h,bey b m a<0/\0<bey b m c/\Xng b m a c t:=λh1 h2 h3=>⟨c,mc,a,ma,h1,h2,h3⟩
  clear more la ls;refine z2f (λα0 =>?_) (λα0 =>?_)
  ·ac_nf;refine z2f (λβ0 =>?_) (λβ0 =>?_)
   ·ac_nf;refine z8L (l:=left.map pl3) (z2M rfl ?_);ac_nf;refine zcY hb hm pa pc α0 β0 λt ht =>?_;refine⟨by rw[List.length_map]; exact szl' (by omega),Safe.of_noL rfl rfl _,?_⟩;ac_rfl;ac_nf;refine t_no (by omega) ?_;refine t_bl (λw=>absurd w (by decide)) (λ_ =>?_);ac_nf;refine t_no (by omega) ?_;ac_nf;exact fin [t] (by unfold pcN; simp only[List.length_cons,List.length_nil]; repeat (first | omega | split)) (λu hu=>by rw[List.mem_singleton.mp hu]; exact .inr (one α0 β0 ht)) ⟨λz=>by omega,λ_ _=>⟨t,by simp,ht⟩,λz=>by omega⟩ _ rfl
   ·ac_nf;refine t_no (by omega) ?_;refine t_bl (λw=>absurd w (by decide)) (λ_ =>?_);ac_nf;refine z75 (by omega) ?_;refine z8L (l:=left.map pl3) (z2M rfl ?_);ac_nf;refine⟨by rw[List.length_map]; exact szl' (by omega),Safe.of_noL rfl rfl _,?_⟩;ac_rfl;exact fin [c] (by unfold pcN; simp only[List.length_cons,List.length_nil]; repeat (first | omega | split)) (λu hu=>by rw[List.mem_singleton.mp hu]; exact .inl ⟨mc,by omega⟩) ⟨λ_=>by simp,λ_ z=>by omega,λz=>by omega⟩ _ rfl
  ·refine t_bl (λw=>absurd w (by decide)) (λ_ =>?_);ac_nf;refine z2f (λα1 =>?_) (λα1 =>?_)
   ·ac_nf;refine z2f (λβ0 =>?_) (λβ0 =>?_)
    ·refine z8L (l:=left.map pl3) (z2M rfl ?_);ac_nf;refine zcY hb hm pc pa β0 α1 λt ht =>?_;refine⟨by rw[List.length_map]; exact szl' (by omega),Safe.of_noL rfl rfl _,?_⟩;ac_rfl;ac_nf;refine z75 (by omega) ?_;refine z8L (l:=left.map pl3++[pl3 t]) (z2M rfl ?_);ac_nf;refine⟨by simp; exact szl' (by omega),Safe.of_noL rfl rfl _,?_⟩;ac_rfl;exact fin [t,c] (by unfold pcN; simp only[List.length_cons,List.length_nil]; repeat (first | omega | split)) (λu hu=>by
      simp only[List.mem_cons,List.not_mem_nil,or_false] at hu
      rcases hu with rfl | rfl
      ·exact .inr (two β0 α1 ht)
      ·exact .inl ⟨mc,by omega⟩) ⟨λ_=>by simp,λz=>by omega,λ_ _=>⟨t,by simp,ht⟩⟩ _ (by simp)
    ·ac_nf;refine z2f (λβ1 =>?_) (λβ1 =>?_)
     ·refine z8L (l:=left.map pl3) (z2M rfl ?_);ac_nf;refine⟨by rw[List.length_map]; exact szl' (by omega),Safe.of_noL rfl rfl _,?_⟩;ac_rfl;exact fin [c] (by unfold pcN; simp only[List.length_cons,List.length_nil]; repeat (first | omega | split)) (λu hu=>by rw[List.mem_singleton.mp hu]; exact .inl ⟨mc,by omega⟩) ⟨λ_=>by simp,λz=>by omega,λ_ z=>by omega⟩ _ rfl
     ·ac_nf;exact fin [] (by unfold pcN; simp only[List.length_cons,List.length_nil]; repeat (first | omega | split)) (λu hu=>by simp at hu) ⟨λz=>by omega,λz=>by omega,λ_ z=>by omega⟩ _ (by simp)
   ·refine t_bl (λw=>absurd w (by decide)) (λ_ =>?_);ac_nf;refine z2f (λβ1 =>?_) (λβ1 =>?_)
    ·refine z8L (l:=left.map pl3) (z2M rfl ?_);ac_nf;refine⟨by rw[List.length_map]; exact szl' (by omega),Safe.of_noL rfl rfl _,?_⟩;ac_rfl;exact fin [c] (by unfold pcN; simp only[List.length_cons,List.length_nil]; repeat (first | omega | split)) (λu hu=>by rw[List.mem_singleton.mp hu]; exact .inl ⟨mc,by omega⟩) ⟨λ_=>by simp,λz=>by omega,λz=>by omega⟩ _ rfl
    ·ac_nf;exact fin [] (by unfold pcN; simp only[List.length_cons,List.length_nil]; repeat (first | omega | split)) (λu hu=>by simp at hu) ⟨λz=>by omega,λz=>by omega,λz=>by omega⟩ _ (by simp)
 ·rintro ρ ⟨left,x4,x5,x6,x7,x8,rfl,ll,ls,la⟩;ac_nf;have la':∀k,k<h.length->_:=λk hk=>la k (List.mem_range.mpr hk);refine q left ⟨ls,λt ht bt =>?_,λk a c hk ea ec h1 h2=>(la' k hk a c ea ec).2.1 h1 h2,λk a c hk ea ec h1 h2=>(la' k hk a c ea ec).2.2 h1 h2,by simpa using ll⟩;obtain⟨k,hk,ek⟩:=List.mem_iff_getElem.mp ht;have i1:(k+h.length - 1) % h.length<h.length:=Nat.mod_lt _ (by omega);exact(la' k hk _ t (List.getElem?_eq_getElem i1) (by rw[List.getElem?_eq_getElem hk,ek])).1 bt
abbrev uB (b m:Int × Int):Geo.P:=(b.1*m.2,b.2*m.2)
def zg4 {M:Int}{b m:Int × Int}{t:Geo.T3}(d:Geo.Dv M t):Geo.sc (Geo.up M t) (uB b m) - m.1*M=bey b m t*(M / t.2.2):=by
 obtain⟨k0,e⟩:=d.k;unfold Geo.sc Geo.up bey ss uB;dsimp only;generalize M / t.2.2=k at*;rw[<- e]
 grind
def z6Q {M:Int}{b m:Int × Int}{t:Geo.T3}(d:Geo.Dv M t):(Geo.sc (Geo.up M t) (uB b m)<=m.1*M↔bey b m t<=0)/\(Geo.sc (Geo.up M t) (uB b m)<m.1*M↔bey b m t<0):=by
 have e:=zg4 (b:=b) (m:=m) d;obtain⟨k0,_⟩:=d.k;have s:=Geo.z79 (x:=bey b m t) (y:=Geo.sc (Geo.up M t) (uB b m) - m.1*M) k0 (show (0:Int)<1 by decide) (by rw[e]; grind);omega
def Xng.bey0 {b m:Int × Int}{a c t:Geo.T3}(p0:0<a.2.2*bey b m c - c.2.2*bey b m a)(h:Xng b m a c t):bey b m t=0:=by
 have e1:=h.cx;have e2:=h.cy;have:bey b m t*(a.2.2*bey b m c - c.2.2*bey b m a)=0:=by
  have f:bey b m t*(a.2.2*bey b m c - c.2.2*bey b m a)=(b.1*(t.1*(a.2.2*bey b m c - c.2.2*bey b m a))+b.2*(t.2.1*(a.2.2*bey b m c - c.2.2*bey b m a)))*m.2 - m.1*t.2.2*(a.2.2*bey b m c - c.2.2*bey b m a):=by
   rw[show bey b m t=(b.1*t.1+b.2*t.2.1)*m.2 - m.1*t.2.2 from rfl]
   grind
  rw[f,e1,e2];have ga:bey b m a=(b.1*a.1+b.2*a.2.1)*m.2 - m.1*a.2.2:=rfl;have gc:bey b m c=(b.1*c.1+b.2*c.2.1)*m.2 - m.1*c.2.2:=rfl;generalize bey b m a=α at*;generalize bey b m c=β at*
  grind
 rcases Int.mul_eq_zero.mp this with z | z
 ·exact z
 ·omega
def Xng.line {b m:Int × Int}{a c t:Geo.T3}(p0:0<a.2.2*bey b m c - c.2.2*bey b m a)(h:Xng b m a c t):Geo.cr3 a c t=0:=by
 have e1:=h.cx;have e2:=h.cy;generalize bey b m a=α at*;generalize bey b m c=β at*;have:Geo.cr3 a c t*(a.2.2*β - c.2.2*α)=0:=by
  have f:Geo.cr3 a c t*(a.2.2*β - c.2.2*α)=a.1*(c.2.1*t.2.2*(a.2.2*β - c.2.2*α) - t.2.1*(a.2.2*β - c.2.2*α)*c.2.2) - a.2.1*(c.1*t.2.2*(a.2.2*β - c.2.2*α) - t.1*(a.2.2*β - c.2.2*α)*c.2.2)+a.2.2*(c.1*(t.2.1*(a.2.2*β - c.2.2*α)) - c.2.1*(t.1*(a.2.2*β - c.2.2*α))):=by
   unfold Geo.cr3
   grind
  rw[f,e1,e2]
  grind
 rcases Int.mul_eq_zero.mp this with z | z
 ·exact z
 ·omega
def Xng.in {M:Int}{S:Geo.P->Prop}{H:List Geo.P}{b m:Int × Int}{a c t:Geo.T3}(is:Geo.z17 S H)(ha:Geo.Dv M a)(hc:Geo.Dv M c)(ht:Geo.Dv M t)(ia:Geo.In H (Geo.up M a))(ic:Geo.In H (Geo.up M c))(h1:bey b m a<0)(h2:0<bey b m c)(h:Xng b m a c t):Geo.In H (Geo.up M t):=by
 have p0:=z6O ha.pos hc.pos h1 h2;have e1:=h.cx;have e2:=h.cy;obtain⟨ka,fa⟩:=ha.k;obtain⟨kc,fc⟩:=hc.k;obtain⟨kt,ft⟩:=ht.k;have i0:=Int.mul_pos ha.pos h2;have j0:=Int.mul_pos hc.pos (show 0 < -bey b m a by omega);generalize bey b m a=α at*;generalize bey b m c=β at*;refine Geo.In.between is ia ic (i:=a.2.2*β) (j:=c.2.2 * -α) (by omega) (by omega) (by omega) ?_ ?_
 ·unfold Geo.up;dsimp only;generalize M / a.2.2=i at*;generalize M / c.2.2=j at*;generalize M / t.2.2=k at*;have:t.1*k*(a.2.2*β+c.2.2 * -α)=t.1*(a.2.2*β - c.2.2*α)*k:=by grind
  rw[this,e1]
  grind
 ·unfold Geo.up;dsimp only;generalize M / a.2.2=i at*;generalize M / c.2.2=j at*;generalize M / t.2.2=k at*;have:t.2.1*k*(a.2.2*β+c.2.2 * -α)=t.2.1*(a.2.2*β - c.2.2*α)*k:=by grind
  rw[this,e2]
  grind
def Xng.mid {M:Int}{b m:Int × Int}{a c t:Geo.T3}(ha:Geo.Dv M a)(hc:Geo.Dv M c)(ht:Geo.Dv M t)(h1:bey b m a<0)(h2:0<bey b m c)(h:Xng b m a c t):Geo.Mid (uB b m) (m.1*M) (Geo.up M a) (Geo.up M c) (Geo.up M t):=by
 have p0:=z6O ha.pos hc.pos h1 h2;refine⟨?_,(Geo.zg2 ha hc ht).2.mp (h.line p0)⟩;have e:=zg4 (b:=b) (m:=m) ht;rw[h.bey0 p0,Int.zero_mul] at e;omega
def zf4 {u a c q:Geo.P}{k:Int}(h:Geo.Mid u k a c q):Geo.Mid u k c a q:=⟨h.on,by
 have:=h.line;rw[show Geo.cr c a q = -Geo.cr a c q by simp only[Geo.cr]; grind,this]; rfl⟩
def zjb {M:Int}{b m:Int × Int}{l h left:List Geo.T3}(x:Geo.Ar l h)(ne:l≠[])(lf:Lf b m h left)(hM:∀t∈l,Geo.Dv M t)(lM:∀t∈left,Geo.Dv M t){t:Geo.T3}(ht:t∈left):Geo.In (h.map (Geo.up M)) (Geo.up M t)/\bey b m t<=0:=by
 have is:=x.is hM ne;have inn:∀a∈h,Geo.In (h.map (Geo.up M)) (Geo.up M a):=λa ha=>is.in (List.mem_map_of_mem (x.sub a ha))
 rcases lf.sub t ht with ⟨z1,z2⟩ | ⟨a,ha,c,hc,h1,h2,h3⟩
 ·exact⟨inn t z1,z2⟩
 ·have ma:=hM a (x.sub a ha);have mc:=hM c (x.sub c hc);exact⟨h3.in is ma mc (lM t ht) (inn a ha) (inn c hc) h1 h2,by rw[h3.bey0 (z6O ma.pos mc.pos h1 h2)]; decide⟩
def zbd {M:Int}{b m:Int × Int}{l h left f:List Geo.T3}(x:Geo.Ar l h)(ne:l≠[])(lf:Lf b m h left)(xf:Geo.Ar left f)(hM:∀t∈l,Geo.Dv M t)(lM:∀t∈left,Geo.Dv M t){p:Geo.P}(hp:Geo.In (h.map (Geo.up M)) p)(gp:Geo.sc p (uB b m)<=m.1*M):left≠[]/\Geo.In (f.map (Geo.up M)) p:=by
 have is:=x.is hM ne;have hl:(h.map (Geo.up M)).length=h.length:=List.length_map ..;have n0:0<h.length:=by
  obtain⟨q,t,e,_⟩:=is.ex;rw[<- hl,e]; simp
 have at_:∀i,∃a∈h,h[i % h.length]? = some a/\Geo.cy (h.map (Geo.up M)) i=Geo.up M a:=λi=>by
  have hi:=Nat.mod_lt i n0;have g:=Geo.z4d (h:=h.map (Geo.up M)) (i:=i) (by omega);rw[hl,List.getElem?_map,List.getElem?_eq_getElem hi] at g;exact⟨_,List.getElem_mem hi,List.getElem?_eq_getElem hi,(Option.some.inj g).symm⟩
 have pre:∀i,((i+1) % h.length+h.length - 1) % h.length=i % h.length:=λi=>Geo.z6Y n0;have hL:∀d∈h.map (Geo.up M),Geo.sc d (uB b m)<=m.1*M->d∈left.map (Geo.up M):=λd hd z=>by
  obtain⟨t,ht,rfl⟩:=List.mem_map.mp hd;exact List.mem_map_of_mem (lf.own t ht ((z6Q (hM t (x.sub t ht))).1.mp z))
 have hio:∀i,Geo.sc (Geo.cy (h.map (Geo.up M)) i) (uB b m)<m.1*M->m.1*M<Geo.sc (Geo.cy (h.map (Geo.up M)) (i+1)) (uB b m)->∃q∈left.map (Geo.up M),Geo.Mid (uB b m) (m.1*M) (Geo.cy (h.map (Geo.up M)) i) (Geo.cy (h.map (Geo.up M)) (i+1)) q:=λi z1 z2=>by
  obtain⟨a,ha,ea,ga⟩:=at_ i;obtain⟨c,hc,ec,gc⟩:=at_ (i+1);rw[ga] at z1 ⊢;rw[gc] at z2 ⊢;have ma:=hM a (x.sub a ha);have mc:=hM c (x.sub c hc);have w1:=(z6Q ma).2.mp z1;have w2:0<bey b m c:=by have:=(z6Q (b:=b) (m:=m) mc).1; omega
  obtain⟨t,ht,cx⟩:=lf.out ((i+1) % h.length) a c (Nat.mod_lt _ n0) (by rw[pre]; exact ea) ec w1 w2;exact⟨_,List.mem_map_of_mem ht,cx.mid ma mc (lM t ht) w1 w2⟩
 have hoi:∀i,m.1*M<Geo.sc (Geo.cy (h.map (Geo.up M)) i) (uB b m)->Geo.sc (Geo.cy (h.map (Geo.up M)) (i+1)) (uB b m)<m.1*M->∃q∈left.map (Geo.up M),Geo.Mid (uB b m) (m.1*M) (Geo.cy (h.map (Geo.up M)) i) (Geo.cy (h.map (Geo.up M)) (i+1)) q:=λi z1 z2=>by
  obtain⟨a,ha,ea,ga⟩:=at_ i;obtain⟨c,hc,ec,gc⟩:=at_ (i+1);rw[ga] at z1 ⊢;rw[gc] at z2 ⊢;have ma:=hM a (x.sub a ha);have mc:=hM c (x.sub c hc);have w1:0<bey b m a:=by have:=(z6Q (b:=b) (m:=m) ma).1; omega
  have w2:=(z6Q mc).2.mp z2;obtain⟨t,ht,cx⟩:=lf.inn ((i+1) % h.length) a c (Nat.mod_lt _ n0) (by rw[pre]; exact ea) ec w1 w2;exact⟨_,List.mem_map_of_mem ht,zf4 (cx.mid mc ma (lM t ht) w2 w1)⟩
 have ne':left≠[]:=λz=>by
  obtain⟨d,hd,_⟩:=Geo.ze3 is hL hio hoi hp gp (0,0);rw[z] at hd;simp at hd
 exact⟨ne',Geo.zjx is (xf.is lM ne') hL hio hoi hp gp⟩
def ziK {l:List Geo.T3}{p:Geo.T3}{Q:DK}{X:XP}(h:p∈l)(q:Q (.bl false)):zdv.run [pl3 p,.lst (l.map pl3)] Q X:=by
 refine⟨Da.pl3 p,λd hd =>?_,?_⟩
 ·obtain⟨y,_,rfl⟩:=List.mem_map.mp hd;exact Da.pl3 y
 ·show Q (.bl (!(l.map pl3).any λd=>deq d (pl3 p)));rw[show ((l.map pl3).any λd=>deq d (pl3 p))=true from List.any_eq_true.mpr ⟨pl3 p,List.mem_map_of_mem h,by rw[z7y]; simp⟩];exact q
def zkA {x y b:Int}(hb:0<b):∃t,Lw x y b t:=by
 have hp:=zdk (x:=x) (y:=y) hb;have g0:=zbT (x:=x) (y:=y) hb;have gb:=z70 x y b;generalize g3 x y b=g at*;refine⟨(x / g,y / g,b / g),?_⟩;obtain⟨k,rfl⟩:=gb;exact⟨⟨by have:=hp.pos; exact this,hp.cop⟩,hp.cx,hp.cy,hp.lu,hp.lv,Int.ediv_le_self _ (by lia)⟩
def z5P {b:Int × Int}{t:Geo.T3}(hb:Vb 1000 b)(ht:Pd t):Bt 3001 (lf b t).1/\Bt 1000 (lf b t).2:=by
 obtain⟨g0,e1,e2,p,c⟩:=z9o (t:=ss b t) ht.lo.1;have bs:Bt 3001 (ss b t):=(Bt.add (Bt.mul hb.1 ht.bx) (Bt.mul hb.2 ht.bY)).le;have le:∀{x g u:Int},0<g->x=g*u->u.natAbs<=x.natAbs:=λ{x g u} g0 e=>by
  rw[e,Int.natAbs_mul];exact Nat.le_mul_of_pos_left _ (by omega)
 exact⟨bs.of_abs (le g0 e1),ht.bw.of_abs (le g0 e2)⟩
def z8s {b m:Int × Int}{t:Geo.T3}(h:0<t.2.2):((lf b t).1*m.2<m.1*(lf b t).2↔bey b m t<0)/\(m.1*(lf b t).2<(lf b t).1*m.2↔0<bey b m t):=by
 obtain⟨p,e,_⟩:=zcn (b:=b) h;have s:=Geo.z79 (x:=(lf b t).1*m.2 - m.1*(lf b t).2) (y:=bey b m t) h p (by
  unfold bey;generalize lf b t=r at*
  grind)
 omega
def zgi {b m:Int × Int}{a c:Geo.T3}{Q:DK}{X:XP}(hb:Vb 1000 b)(hm:Mk m)(ha:Pd a)(hc:Pd c)(h1:bey b m a<0)(h2:0<bey b m c)(q:∀t,Xng b m a c t->Q (pl3 t)):z20.run [pl3 a,pl3 c,vec b,vec m] Q X:=by
 have p0:=z6O ha.lo.1 hc.lo.1 h1 h2;obtain⟨t0,ht0⟩:=zkA (x:=a.1*bey b m c - c.1*bey b m a) (y:=a.2.1*bey b m c - c.2.1*bey b m a) p0;obtain⟨la1,la2⟩:=z5P hb ha;obtain⟨lc1,lc2⟩:=z5P hb hc;obtain⟨pa,ea,_⟩:=zcn (b:=b) ha.lo.1;obtain⟨pc,ec,_⟩:=zcn (b:=b) hc.lo.1;have m1:=hm.b1;have m2:=hm.b2;have a1:=ha.bx;have a2:=ha.bY;have a3:=ha.bw;have c1:=hc.bx;have c2:=hc.bY;have c3:=hc.bw;walk_at "fn";ac_nf;refine z3A hb (ha.tz (by decide)) ha.lo.1 ?_;refine⟨Safe.of_noL rfl rfl _,?_⟩;ac_rfl;ac_nf;refine z3A hb (hc.tz (by decide)) hc.lo.1 ?_;refine⟨Safe.of_noL rfl rfl _,?_⟩;ac_rfl;have kk:0<(lf b a).2*(lf b c).2:=Int.mul_pos pa pc;have ga:(m.1*(lf b a).2 - (lf b a).1*m.2)*a.2.2 = -((lf b a).2*bey b m a):=by
  unfold bey;generalize lf b a=r at*
  grind
 have gc:((lf b c).1*m.2 - m.1*(lf b c).2)*c.2.2=(lf b c).2*bey b m c:=by
  unfold bey;generalize lf b c=r at*
  grind
 generalize lf b a=A at*;generalize lf b c=E at*;have q':∀t,Lw (a.1*bey b m c - c.1*bey b m a) (a.2.1*bey b m c - c.2.1*bey b m a) (a.2.2*bey b m c - c.2.2*bey b m a) t->Q (pl3 t):=q;generalize bey b m a=α at*;generalize bey b m c=β at*;have u0:Bt 5012 (m.1*A.2 - A.1*m.2):=(Bt.sub (Bt.mul m1 la2) (Bt.mul la1 m2)).le;have w0:Bt 4002 (E.1*A.2 - A.1*E.2):=(Bt.sub (Bt.mul lc1 la2) (Bt.mul la1 lc2)).le;show Sm.run _ _ _ _ _;ac_nf;have u1:Bt 6012 ((m.1*A.2 - A.1*m.2)*E.2):=(Bt.mul u0 lc2).le;have w1:Bt 6012 ((E.1*A.2 - A.1*E.2)*m.2):=(Bt.mul w0 m2).le;have eu:(E.1*A.2 - A.1*E.2)*m.2 - (m.1*A.2 - A.1*m.2)*E.2=A.2*(E.1*m.2 - m.1*E.2):=by grind
 generalize (m.1*A.2 - A.1*m.2)=U0 at*;generalize hU:U0*E.2=U at*;generalize (E.1*A.2 - A.1*E.2)*m.2=W at*;generalize E.1*m.2 - m.1*E.2=V0 at*;show z0E.run [.tup [.int a.1,.int a.2.1,.int a.2.2],.tup [.int c.1,.int c.2.1,.int c.2.2],.int U,.int W] Q _;walk_at "fn";have s1:Bt 6013 (W - U):=(Bt.sub w1 u1).le;have t1:Bt 3000 (a.1*c.2.2):=(Bt.mul a1 c3).le;have t2:Bt 3000 (c.1*a.2.2):=(Bt.mul c1 a3).le;have t3:Bt 3000 (a.2.1*c.2.2):=(Bt.mul a2 c3).le;have t4:Bt 3000 (c.2.1*a.2.2):=(Bt.mul c2 a3).le;have t5:Bt 2000 (a.2.2*c.2.2):=(Bt.mul a3 c3).le;ac_nf;have eb:a.2.2*c.2.2*W=A.2*E.2*(a.2.2*β - c.2.2*α):=by
  rw[show W=A.2*V0+U by omega, <- hU]
  grind
 have ex:∀{p r:Int},p*c.2.2*(W - U)+r*a.2.2*U=A.2*E.2*(p*β - r*α):=λ{p r}=>by
  rw[eu, <- hU]
  grind
 rw[ex,ex,eb];refine z5I (Int.mul_pos kk p0) (by rw[<- eb]; exact(Bt.mul t5 w1).le) λt ht =>?_;rw[<- Lw.same p0 kk ht0 ht];exact q' t0 ht0
structure Pt (b m:Int × Int)(h pts:List Geo.T3):Prop where
 sub:∀t∈pts,(t∈h/\bey b m t<=0)\/∃a∈h,∃c∈h,bey b m a<0/\0<bey b m c/\Xng b m a c t
 own:∀t∈h,bey b m t<=0->t∈pts
 all:∀a∈h,∀c∈h,bey b m a<0->0<bey b m c->∃t∈pts,Xng b m a c t
def zeu {b m:Int × Int}{h:List Geo.T3}{Q:DK}{X:XP}(hb:Vb 1000 b)(hm:Mk m)(hp:∀t∈h,Pd t)(hz:h.length<=60)(q:∀pts,Pt b m h pts->Q (.lst (pts.map pl3))):z1O.run [pls3 h,vec b,vec m] Q X:=by
 have vm:Vb 110000 m:=⟨hm.b1.le,hm.b2.le⟩
 have vl:∀t∈h,Vb 110000 (lf b t):=λt ht=>zkC hb ((hp t ht).tz (by decide)) (hp t ht).lo.1;walk_at "fn";ac_nf;refine⟨by rw[List.length_map]; exact szl' (by omega),?_⟩;refine z54 (f:=pl3) (g:=pl3) (p:=λt=>decide (¬ 0<bey b m t)) (λt ht K k1 k2 =>?_) ?_
 ·ac_nf;refine z3A hb ((hp t ht).tz (by decide)) (hp t ht).lo.1 ?_;ac_nf;refine zaV vm (vl t ht) ?_;ac_nf;refine z6j (z2f (λz =>?_) (λz =>?_))
  ·exact k2 (by simpa using (z8s (hp t ht).lo.1).2.mp z)
  ·ac_nf;exact k1 (decide_eq_true λw=>z ((z8s (hp t ht).lo.1).2.mpr w))
 generalize hp0:h.filter (λt=>decide (¬ 0<bey b m t))=p0;have o0:∀t∈h,bey b m t<=0->t∈p0:=λt ht z=>by rw[<- hp0]; exact List.mem_filter.mpr ⟨ht,decide_eq_true (by omega)⟩
 have s0:∀t∈p0,(t∈h/\bey b m t<=0):=λt ht=>by
  rw[<- hp0] at ht;have:=List.mem_filter.mp ht;exact⟨this.1,by have:=of_decide_eq_true this.2; omega⟩
 have l0:p0.length<=h.length:=by rw[<- hp0]; exact List.length_filter_le _ _
 refine zaP (λx hx=>by obtain⟨t,_,rfl⟩:=List.mem_map.mp hx; exact Safe.of_noL rfl rfl _) ?_;ac_rfl;ac_nf;refine z2e (f:=pl3) (λdn ρ=>∃(pts:List Geo.T3) (x4 x5 x6:B),ρ=[.s (pls3 h),.s (vec b),.s (vec m),.o (.lst (pts.map pl3)),x4,x5,x6]/\pts.length<=60+60*dn.length/\
  (∀t∈pts,(t∈h/\bey b m t<=0)\/∃a∈h,∃c∈h,bey b m a<0/\0<bey b m c/\Xng b m a c t)/\(∀t∈h,bey b m t<=0->t∈pts)/\(∀a∈dn,∀c∈h,bey b m a<0->0<bey b m c->∃t∈pts,Xng b m a c t))
  ⟨p0,_,_,_,rfl,by simp; omega,λt ht =>.inl (s0 t ht),o0,by simp⟩ ?_ ?_
 ·rintro dn a r ρ e ⟨pts,x4,x5,x6,rfl,ll,ls,lo,la⟩;have ma:a∈h:=by rw[e]; simp
  have pa:=hp a ma;have dl:dn.length<=60:=by
   have:=congrArg List.length e;simp at this;omega
  show Sm.run _ _ _ _ _;ac_rfl;ac_nf;refine z2e (f:=pl3) (λd2 ρ=>∃(pts:List Geo.T3) (x5 x6:B),ρ=[.s (pls3 h),.s (vec b),.s (vec m),.o (.lst (pts.map pl3)),.s (pl3 a),x5,x6]/\pts.length<=60+60*dn.length+d2.length/\
   (∀t∈pts,(t∈h/\bey b m t<=0)\/∃a∈h,∃c∈h,bey b m a<0/\0<bey b m c/\Xng b m a c t)/\(∀t∈h,bey b m t<=0->t∈pts)/\(∀a∈dn,∀c∈h,bey b m a<0->0<bey b m c->∃t∈pts,Xng b m a c t)/\(∀c∈d2,bey b m a<0->0<bey b m c->∃t∈pts,Xng b m a c t))
   ⟨pts,_,_,rfl,by simpa using ll,ls,lo,la,by simp⟩ ?_ ?_
  ·clear ll ls lo la pts x4 x5 x6;rintro d2 c r2 ρ e2 ⟨pts,x5,x6,rfl,ll,ls,lo,la,lb⟩;have mc:c∈h:=by rw[e2]; simp
   have pc:=hp c mc;have d2l:d2.length<=60:=by
    have:=congrArg List.length e2;simp at this;omega
   show Sm.run _ _ _ _ _;ac_rfl;ac_nf;refine z3A hb (pa.tz (by decide)) pa.lo.1 ?_;ac_nf;refine zaV (vl a ma) vm ?_;refine⟨Safe.of_noL rfl rfl _,?_⟩;ac_rfl;ac_nf;have skip:¬ (bey b m a<0/\0<bey b m c)->∀x5 x6:B,∃(pts':List Geo.T3) (y5 y6:B),[.s (pls3 h),.s (vec b),.s (vec m),.o (.lst (pts.map pl3)),.s (pl3 a),x5,x6]=[.s (pls3 h),.s (vec b),.s (vec m),.o (.lst (pts'.map pl3)),.s (pl3 a),y5,y6]/\pts'.length<=60+60*dn.length+(d2++[c]).length/\
    (∀t∈pts',(t∈h/\bey b m t<=0)\/∃a∈h,∃c∈h,bey b m a<0/\0<bey b m c/\Xng b m a c t)/\(∀t∈h,bey b m t<=0->t∈pts')/\(∀a∈dn,∀c∈h,bey b m a<0->0<bey b m c->∃t∈pts',Xng b m a c t)/\(∀v∈d2++[c],bey b m a<0->0<bey b m v->∃t∈pts',Xng b m a v t):=λno x5 x6=>
     ⟨pts,x5,x6,rfl,by simp; omega,ls,lo,la,λc' hc' z1 z2=>by
      rcases List.mem_append.mp hc' with w | w
      ·exact lb c' w z1 z2
      ·rw[List.mem_singleton.mp w] at z2;exact absurd ⟨z1,z2⟩ no⟩
   refine z2f (λz =>?_) (λz =>?_)
   ·have α0:=(z8s pa.lo.1).1.mp z;ac_nf;refine z3A hb (pc.tz (by decide)) pc.lo.1 ?_;ac_nf;refine zaV vm (vl c mc) ?_;refine z2f (λz =>?_) (λz =>?_)
    ·have β0:=(z8s pc.lo.1).2.mp z;refine z8L (l:=pts.map pl3) (z2M rfl ?_);ac_nf;refine zgi hb hm pa pc α0 β0 λt ht =>?_;refine⟨by rw[List.length_map]; exact szl' (by omega),Safe.of_noL rfl rfl _,?_⟩;ac_rfl;refine⟨pts++[t],_,_,by rw[List.map_append]; rfl,by simp; omega,λu hu =>?_,λu hu z=>List.mem_append_left _ (lo u hu z),λa' ha' c' hc' z1 z2=>let ⟨v,w1,w2⟩:=la a' ha' c' hc' z1 z2; ⟨v,List.mem_append_left _ w1,w2⟩,λc' hc' z1 z2 =>?_⟩
     ·rcases List.mem_append.mp hu with w | w
      ·exact ls u w
      ·rw[List.mem_singleton.mp w];exact .inr ⟨a,ma,c,mc,α0,β0,ht⟩
     ·rcases List.mem_append.mp hc' with w | w
      ·obtain⟨v,w1,w2⟩:=lb c' w z1 z2;exact⟨v,List.mem_append_left _ w1,w2⟩
      ·rw[List.mem_singleton.mp w];exact⟨t,by simp,ht⟩
    ·ac_nf;exact skip (λw=>z ((z8s pc.lo.1).2.mpr w.2)) _ _
   ·refine t_bl (λw=>absurd w (by decide)) (λ_ =>?_);ac_nf;exact skip (λw=>z ((z8s pa.lo.1).1.mpr w.1)) _ _
  ·clear ll ls lo la pts x4 x5 x6;rintro ρ ⟨pts,x5,x6,rfl,ll,ls,lo,la,lb⟩;refine⟨pts,_,_,_,rfl,by simp; omega,ls,lo,λa' ha' c' hc' z1 z2 =>?_⟩
   rcases List.mem_append.mp ha' with w | w
   ·exact la a' w c' hc' z1 z2
   ·rw[List.mem_singleton.mp w] at z1 ⊢;exact lb c' hc' z1 z2
 ·rintro ρ ⟨pts,x4,x5,x6,rfl,ll,ls,lo,la⟩;ac_nf;exact q pts ⟨ls,lo,la⟩
def zdd {b m:Int × Int}{h:List Geo.T3}(hb:Vb 1000 b)(hm:Mk m)(hp:∀t∈h,Pd t){t:Geo.T3}(z:(t∈h/\bey b m t<=0)\/∃a∈h,∃c∈h,bey b m a<0/\0<bey b m c/\Xng b m a c t):Pq t:=by
 rcases z with ⟨z,_⟩ | ⟨a,ha,c,hc,h1,h2,h3⟩
 ·exact .of (hp t z)
 ·exact h3.pq hb hm (hp a ha) (hp c hc) h1 h2
def zbs {b m:Int × Int}{h:List Geo.T3}{Q:DK}{X:XP}(hb:Vb 1000 b)(hm:Mk m)(hp:∀t∈h,Pd t)(hz:h.length<=20)(q:∀left f,Lf b m h left->Geo.Ar left f->Q (pls3 f)):z1w.run [pls3 h,vec b,vec m] Q X:=by
 walk_at "fn";ac_nf;refine zhP hb hm hp (by omega) λleft lf =>?_;ac_nf;have pq:∀t∈left,Pq t:=λt ht=>zdd hb hm hp (lf.sub t ht);exact zd1 (l:=left) (.inr rfl) (λt ht=>(pq t ht).tz) (λt ht=>(pq t ht).lo) (by have:=lf.len; have:=z9t b m h (List.range h.length); rw[List.length_range] at this; omega) λf x=>q left f lf x
def z9R {b m:Int × Int}{l h:List Geo.T3}{Q:DK}{X:XP}(x:Geo.Ar l h)(ne:l≠[])(hb:Vb 1000 b)(hm:Mk m)(hl:∀t∈l,Pd t)(hz:l.length<=20)(q:Q (.bl true)):z0M.run [pls3 h,vec b,vec m] Q X:=by
 have lo:∀t∈l,Geo.Lo t:=λt ht=>(hl t ht).lo;have hp:∀t∈h,Pd t:=λt ht=>hl t (x.sub t ht);have hhl:=zaF x lo;walk_at "fn";ac_nf;refine zbs hb hm hp (by omega) λleft f lf xf =>?_;have pq:∀t∈left,Pq t:=λt ht=>zdd hb hm hp (lf.sub t ht);have fl:=zaF xf λt ht=>(pq t ht).lo;have ll:=lf.len;have lc:=z9t b m h (List.range h.length);rw[List.length_range] at lc;refine⟨Safe.of_noL (z96 f) (z98 f) _,?_⟩;ac_rfl;ac_nf;refine zeu hb hm hp (by omega) λpts pt =>?_;have pp:∀t∈pts,Pq t:=λt ht=>zdd hb hm hp (pt.sub t ht);refine⟨by walk_at "sf",?_⟩;ac_rfl;obtain⟨M,_,hM⟩:=Geo.zam (l:=l++(left++pts)) λt ht=>by
  rcases List.mem_append.mp ht with z | z
  ·exact(lo t z).1
  ·rcases List.mem_append.mp z with z | z
   ·exact(pq t z).lo.1
   ·exact(pp t z).lo.1
 have m1:∀t∈l,Geo.Dv M t:=λt ht=>hM t (List.mem_append_left _ ht);have m2:∀t∈left,Geo.Dv M t:=λt ht=>hM t (List.mem_append_right _ (List.mem_append_left _ ht));have m3:∀t∈pts,Geo.Dv M t:=λt ht=>hM t (List.mem_append_right _ (List.mem_append_right _ ht));have is:=x.is m1 ne;ac_nf;refine zcf xf m2 (λt ht=>(pq t ht).lo) (λt ht=>(pq t ht).tz) (λt ht=>(pq t ht).bw.le) (by omega) ?_;ac_nf;refine z6j (z5e ?_);ac_nf;refine z2e (f:=pl3) (λdn ρ=>∃x5 x6:B,ρ=[.s (pls3 h),.s (vec b),.s (vec m),.s (pls3 f),.s (.lst (pts.map pl3)),x5,x6]) ⟨_,_,rfl⟩ ?_ ?_
 ·rintro dn p r ρ e ⟨x5,x6,rfl⟩;have mp:p∈left:=xf.sub p (by rw[e]; simp);have mq:p∈pts:=by
   rcases lf.sub p mp with ⟨z1,z2⟩ | ⟨a,ha,c,hc,h1,h2,h3⟩
   ·exact pt.own p z1 z2
   ·obtain⟨t,ht,cx⟩:=pt.all a ha c hc h1 h2;rw[Lw.uniq (z6O (hp a ha).lo.1 (hp c hc).lo.1 h1 h2) h3 cx];exact ht
  show Sm.run _ _ _ _ _;ac_rfl;ac_nf;refine ziK mq ?_;refine t_bl (λw=>absurd w (by decide)) (λ_ =>?_);ac_nf;exact⟨_,_,rfl⟩
 rintro ρ ⟨x5,x6,rfl⟩;ac_nf;refine z2e (f:=pl3) (λdn ρ=>∃x5 x6:B,ρ=[.s (pls3 h),.s (vec b),.s (vec m),.s (pls3 f),.s (.lst (pts.map pl3)),x5,x6]) ⟨_,_,rfl⟩ ?_ ?_
 ·rintro dn p r ρ e ⟨x5,x6,rfl⟩;have mp:p∈pts:=by rw[e]; simp
  have inp:Geo.In (h.map (Geo.up M)) (Geo.up M p)/\bey b m p<=0:=by
   rcases pt.sub p mp with ⟨z1,z2⟩ | ⟨a,ha,c,hc,h1,h2,h3⟩
   ·exact⟨is.in (List.mem_map_of_mem (x.sub p z1)),z2⟩
   ·have ma:=x.sub a ha;have mc:=x.sub c hc;exact⟨h3.in is (m1 a ma) (m1 c mc) (m3 p mp) (is.in (List.mem_map_of_mem ma)) (is.in (List.mem_map_of_mem mc)) h1 h2,by rw[h3.bey0 (z6O (m1 a ma).pos (m1 c mc).pos h1 h2)]; decide⟩
  have inf:=(zbd x ne lf xf m1 m2 inp.1 ((z6Q (m3 p mp)).1.mpr inp.2)).2;show Sm.run _ _ _ _ _;ac_rfl;ac_nf;refine zcX (M:=M) (λt ht=>m2 t (xf.sub t ht)) (m3 p mp) (λt ht=>(pq t (xf.sub t ht)).lo) (pp p mp).lo (by omega) (λt ht=>(pq t (xf.sub t ht)).tz) (pp p mp).tz λv hv =>?_;have vt:v=true:=hv.mpr inf;subst vt;ac_nf;refine z6j (z5e ?_);ac_nf;exact⟨_,_,rfl⟩
 rintro ρ ⟨x5,x6,rfl⟩;ac_nf;exact q
def ngB (b:Int × Int):Int × Int:=(0 - b.1,0 - b.2)
def ngM (m:Int × Int):Int × Int:=(0 - m.1,m.2)
def ze9 (b m:Int × Int)(t:Geo.T3):bey (ngB b) (ngM m) t = -bey b m t:=by unfold bey ss ngB ngM; dsimp only; grind
def Mk.ng {m:Int × Int}(h:Mk m):Mk (ngM m):=⟨h.pos,h.b1.of_abs (by show (0 - m.1).natAbs<=_; omega),h.b2⟩
def zg6 {b:Int × Int}{n:Nat}(h:Vb n b):Vb n (ngB b):=⟨h.1.of_abs (by show (0 - b.1).natAbs<=_; omega),h.2.of_abs (by show (0 - b.2).natAbs<=_; omega)⟩
def ziv (α β:Int):pcN α β+pcN (-α) (-β)<=3:=by unfold pcN; repeat (first | omega | split)
def zbX (b m:Int × Int)(h:List Geo.T3):∀l:List Nat,(l.map (cutK b m h)).sum+(l.map (cutK (ngB b) (ngM m) h)).sum<=3*l.length
 | []=>by simp
 | k::l=>by
  have:=zbX b m h l;have:cutK b m h k+cutK (ngB b) (ngM m) h k<=3:=by
   unfold cutK
   split
   ·rename_i a c _ _
    rw[ze9,ze9];exact ziv _ _
   ·omega
  simp;omega
def zfr {b m:Int × Int}{l h left1 f1 left2 f2 h3:List Geo.T3}(x:Geo.Ar l h)(ne:l≠[])(lo:∀t∈l,Geo.Lo t)(l1:Lf b m h left1)(x1:Geo.Ar left1 f1)(l2:Lf (ngB b) (ngM m) h left2)(x2:Geo.Ar left2 f2)(o1:∀t∈left1,Geo.Lo t)(o2:∀t∈left2,Geo.Lo t)(x3:Geo.Ar (f1++f2) h3):h3=h:=by
 obtain⟨M,_,hM⟩:=Geo.zam (l:=l++(left1++left2)) λt ht=>by
  rcases List.mem_append.mp ht with z | z
  ·exact(lo t z).1
  ·rcases List.mem_append.mp z with z | z
   ·exact(o1 t z).1
   ·exact(o2 t z).1
 have m0:∀t∈l,Geo.Dv M t:=λt ht=>hM t (List.mem_append_left _ ht);have m1:∀t∈left1,Geo.Dv M t:=λt ht=>hM t (List.mem_append_right _ (List.mem_append_left _ ht));have m2:∀t∈left2,Geo.Dv M t:=λt ht=>hM t (List.mem_append_right _ (List.mem_append_right _ ht));have is:=x.is m0 ne;have has:∀t∈h,Geo.In (f1.map (Geo.up M)) (Geo.up M t)/\left1≠[]\/Geo.In (f2.map (Geo.up M)) (Geo.up M t)/\left2≠[]:=λt ht=>by
  have mt:=x.sub t ht;have it:=is.in (List.mem_map_of_mem (f:=Geo.up M) mt)
  rcases Int.le_total (bey b m t) 0 with z | z
  ·obtain⟨w1,w2⟩:=zbd x ne l1 x1 m0 m1 it ((z6Q (m0 t mt)).1.mpr z);exact .inl ⟨w2,w1⟩
  ·obtain⟨w1,w2⟩:=zbd x ne l2 x2 m0 m2 it ((z6Q (m0 t mt)).1.mpr (by rw[ze9]; omega));exact .inr ⟨w2,w1⟩
 have m3:∀t∈f1++f2,Geo.Dv M t:=λt ht=>by
  rcases List.mem_append.mp ht with z | z
  ·exact m1 t (x1.sub t z)
  ·exact m2 t (x2.sub t z)
 have lo3:∀t∈f1++f2,Geo.Lo t:=λt ht=>by
  rcases List.mem_append.mp ht with z | z
  ·exact o1 t (x1.sub t z)
  ·exact o2 t (x2.sub t z)
 have hne:h≠[]:=x.ne (λt ht=>(lo t ht).1) ne;have ne3:f1++f2≠[]:=λz=>by
  obtain⟨z1,z2⟩:=List.append_eq_nil_iff.mp z
  cases h with
  | nil=>exact hne rfl
  | cons t r=>
   rcases has t (by simp) with ⟨w,w'⟩ | ⟨w,w'⟩
   ·exact x1.ne (λt ht=>(o1 t ht).1) w' z1
   ·exact x2.ne (λt ht=>(o2 t ht).1) w' z2
 have is3:=x3.is m3 ne3;have inn:∀t∈f1++f2,Geo.In (h.map (Geo.up M)) (Geo.up M t):=λt ht=>by
  rcases List.mem_append.mp ht with z | z
  ·exact(zjb x ne l1 m0 m1 (x1.sub t z)).1
  ·exact(zjb x ne l2 m0 m2 (x2.sub t z)).1
 have A:Geo.z17 (Geo.In (h.map (Geo.up M))) (h.map (Geo.up M)):=is.fill (λp hp=>is.in (is.sub p hp)) λp hp=>hp;have B:Geo.z17 (Geo.In (h.map (Geo.up M))) (h3.map (Geo.up M)):=is3.fill (λp hp=>by
   obtain⟨t,ht,rfl⟩:=List.mem_map.mp hp;exact inn t (x3.sub t ht)) λp hp=>Geo.In.at_far is3 λw=>by
  obtain⟨c,hc,cw⟩:=is.far hp w;obtain⟨t,ht,rfl⟩:=List.mem_map.mp hc;have step:∀{left f:List Geo.T3},Geo.Ar left f->left≠[]->(∀t∈left,Geo.Dv M t)->(∀t∈f,t∈f1++f2)->Geo.In (f.map (Geo.up M)) (Geo.up M t)->∃c∈h3.map (Geo.up M),Geo.sc p w<=Geo.sc c w:=λ{left f} xf nf mf sf it=>by
   obtain⟨d,hd,dw⟩:=(xf.is mf nf).far it w;obtain⟨u,hu,rfl⟩:=List.mem_map.mp hd;obtain⟨e,he,ew⟩:=is3.far (is3.in (List.mem_map_of_mem (sf u hu))) w;exact⟨e,he,Int.le_trans cw (Int.le_trans dw ew)⟩
  rcases has t ht with ⟨z,z'⟩ | ⟨z,z'⟩
  ·exact step x1 z' m1 (λu hu=>List.mem_append_left _ hu) z
  ·exact step x2 z' m2 (λu hu=>List.mem_append_right _ hu) z
 refine Geo.zfV (λa ha c hc e =>?_) (B.unique A);exact Geo.Lo.inj (lo3 a (x3.sub a ha)) (lo c (x.sub c hc)) (m3 a (x3.sub a ha)) (m0 c (x.sub c hc)) e
def ix_x {t:Geo.T3}{Q:DK}{X:XP}(q:Q (.int t.1)):pIx.run [pl3 t,.int 0] Q X:=zgW (za6 q)
def zh0 {x b:Int}{t:Geo.T3}(h:Lw x 0 b t)(b1:Bt 4010 x)(b2:Bt 2010 b):Mk (t.1,t.2.2):=⟨h.lo.1,b1.of_abs h.ax,b2.of_abs (by have:=h.ab; have:=h.lo.1; lia)⟩
def zhM {c f:Int}{b:Int × Int}{ts:List Geo.T3}{Q:DK}{X:XP}(hf:f=0\/1<=f/\f<=57)(hb:Vb 1000 b)(hp:∀t∈ts,Pd t)(ne:ts≠[])(q:∀m,Mk m->Q (vec m)):z16.run [.int c,.lst (ts.map pl3),vec b,.int f] Q X:=by
 have rest:∀{d4:B}{X:XP},Sm.run (.seq (.set 5 (.op z0o [(.v 0),(.c (.int 4))]))
 (.seq (.ifs (.op pEq [(.op pMod [(.v 5),(.c (.int 3))]),(.c (.int 0))]) (.ret (.op z0b [(.v 2),(.op pIx [(.v 1),(.op pMod [(.op z1r [(.v 5),(.c (.int 3))]),(.op pLen [(.v 1)])])])])) .skip)
 (.seq (.ifs (.op pEq [(.op pMod [(.v 5),(.c (.int 3))]),(.c (.int 1))]) (.seq (.set 6 (.op z0b [(.v 2),(.op pIx [(.v 1),(.op pMod [(.op z1r [(.v 5),(.c (.int 3))]),(.op pLen [(.v 1)])])])]))
 (.seq (.set 7 (.op z0b [(.v 2),(.op pIx [(.v 1),(.op pMod [(.op z1r [(.v 5),(.c (.int 300))]),(.op pLen [(.v 1)])])])]))
 (.seq (.set 4 (.op z06 [(.op pAdd [(.op z0l [(.op pIx [(.v 6),(.c (.int 0))]),(.op pIx [(.v 7),(.c (.int 1))])]),(.op z0l [(.op pIx [(.v 7),(.c (.int 0))]),(.op pIx [(.v 6),(.c (.int 1))])])]),(.c (.int 0)),(.op z0l [(.op z0l [(.c (.int 2)),(.op pIx [(.v 6),(.c (.int 1))])]),(.op pIx [(.v 7),(.c (.int 1))])])]))
 (.ret (.op pTup [(.op pIx [(.v 4),(.c (.int 0))]),(.op pIx [(.v 4),(.c (.int 2))])]))))) .skip)
 (.seq (.set 4 (.op z06 [(.op pSub [(.op pMod [(.op z1r [(.v 5),(.c (.int 3))]),(.c (.int 41))]),(.c (.int 20))]),(.c (.int 0)),(.op pAdd [(.c (.int 1)),(.op pMod [(.op z1r [(.v 5),(.c (.int 123))]),(.c (.int 7))])])]))
 (.ret (.op pTup [(.op pIx [(.v 4),(.c (.int 0))]),(.op pIx [(.v 4),(.c (.int 2))])])))))) [.s (.int c),.s (.lst (ts.map pl3)),.s (vec b),.s (.int f),d4,.n,.n,.n] (λ_=>Q .non) Q X:=λ{d4 X}=>by
  have tl:0<ts.length:=List.length_pos_iff.mpr ne;have hl0:(0:Int)<((ts.map pl3).length:Int):=by rw[List.length_map]; omega
  ac_nf;refine z8J (by decide) (by decide) λr r0 r1 =>?_;refine⟨by walk_at "sf",?_⟩;ac_rfl;ac_nf;refine z2f (λ_ =>?_) (λ_ =>?_)
  ·ac_nf;obtain⟨t,mt,et⟩:=z8D (s:=r / 3) ne;refine z2Y et ?_;ac_nf;obtain⟨l1,l2⟩:=z5P hb (hp t mt);refine z3A hb ((hp t mt).tz (by decide)) (hp t mt).lo.1 (q _ ⟨(zcn (hp t mt).lo.1).1,l1.le,l2.le⟩)
  ac_nf;refine z2f (λ_ =>?_) (λ_ =>?_)
  ·ac_nf;obtain⟨t,mt,et⟩:=z8D (s:=r / 3) ne;obtain⟨u,mu,eu⟩:=z8D (s:=r / 300) ne;obtain⟨l1,l2⟩:=z5P hb (hp t mt);obtain⟨k1,k2⟩:=z5P hb (hp u mu);have p1:=(zcn (b:=b) (hp t mt).lo.1).1;have p2:=(zcn (b:=b) (hp u mu).lo.1).1;refine z2Y et ?_;ac_nf;refine z3A hb ((hp t mt).tz (by decide)) (hp t mt).lo.1 ?_;refine⟨Safe.of_noL rfl rfl _,?_⟩;ac_rfl;ac_nf;refine z2Y eu ?_;ac_nf;refine z3A hb ((hp u mu).tz (by decide)) (hp u mu).lo.1 ?_;refine⟨Safe.of_noL rfl rfl _,?_⟩;ac_rfl;generalize lf b t=A at*;generalize lf b u=E at*;have z1:Bt 1003 (2*A.2):=(Bt.mul (z0s (n:=3) (by decide)) l2).le;show Sm.run _ _ _ _ _;ac_nf;have z2:Bt 2010 (2*A.2*E.2):=(Bt.mul z1 k2).le;have z3:Bt 4010 (A.1*E.2+E.1*A.2):=(Bt.add (Bt.mul l1 k2) (Bt.mul k1 l2)).le;refine z5I (Int.mul_pos (by omega) p2) z2.le λv hv =>?_;refine⟨Safe.of_noL rfl rfl _,?_⟩;ac_rfl;show Sm.run _ _ _ _ _;ac_nf;refine ix_x ?_;ac_nf;refine ix_w ?_;ac_nf;exact q (v.1,v.2.2) (zh0 hv z3 z2)
  ac_nf;refine z5I (by omega) (Bt.le (m:=10) (z0s (by omega))) λv hv =>?_;refine⟨Safe.of_noL rfl rfl _,?_⟩;ac_rfl;show Sm.run _ _ _ _ _;ac_nf;refine ix_x ?_;ac_nf;refine ix_w ?_;ac_nf;exact q (v.1,v.2.2) (zh0 hv (Bt.le (m:=10) (z0s (by omega))) (Bt.le (m:=10) (z0s (by omega))))
 walk_at "fn";ac_nf;refine z2f (λf0 =>?_) (λf0 =>?_)
 ·ac_nf;refine z2f (λ_ =>?_) (λ_ =>?_)
  ·ac_nf;refine zfK (by omega) λt pt =>?_;refine⟨Safe.of_noL rfl rfl _,?_⟩;ac_rfl;show Sm.run _ _ _ _ _;ac_nf;refine ix_x ?_;ac_nf;refine ix_w ?_;ac_nf;refine z5I pt.lo.1 pt.bw.le λv hv =>?_;refine⟨Safe.of_noL rfl rfl _,?_⟩;ac_rfl;show Sm.run _ _ _ _ _;ac_nf;refine ix_x ?_;ac_nf;refine ix_w ?_;ac_nf;exact q (v.1,v.2.2) (zh0 hv pt.bx.le pt.bw.le)
  ·ac_nf;exact rest
 ·refine t_bl (λw=>absurd w (by decide)) (λ_ =>?_);ac_nf;exact rest
def zh1 (ns:List Int)(h:ns.length<=63):z7w.run [.lst (ns.map .int)] (λd=>d = .bl true) (λ_=>False):=by
 walk_at "fn";ac_nf;refine zgl λc =>?_;ac_nf;rw[z7G];obtain⟨ys,hy,e⟩:∃ys:List Int,ys.length<=63/\ys=(ns.drop (HT.sIx ns.length 0 (some 1))).take (HT.sIx ns.length ns.length (some 63) - HT.sIx ns.length 0 (some 1)):=⟨_,by simp; omega,rfl⟩
 rw[<- e];clear e;refine zdz (by simp; exact szl (by omega)) ?_;rw[show [D.int (c / 2)]++ys.map D.int=(c / 2::ys).map D.int from rfl];have hc:1<=(c / 2::ys).length/\(c / 2::ys).length<=64:=by simp; omega
 generalize c / 2::ys=cs at*;have hf:30*(c % 2)=0\/1<=30*(c % 2)/\30*(c % 2)<=57:=by omega
 generalize 30*(c % 2)=f at*;refine⟨by walk_at "sf",?_⟩;ac_rfl;ac_nf;rw[List.length_map];obtain⟨k0,ek⟩:∃k0:Int,k0=(if ((cs.length:Int)+1) / 2<20 then ((cs.length:Int)+1) / 2 else 20):=⟨_,rfl⟩
 rw[<- ek];have hk:1<=k0/\k0<=20/\k0<=cs.length:=by rw[ek]; split <;> omega
 clear ek;rw[zhe (by omega)];have cl:(cs.take k0.toNat).length=k0.toNat:=by rw[List.length_take]; omega
 refine zev hf (by omega) λts t1 t2 =>?_;refine⟨by walk_at "sf",?_⟩;ac_rfl;have hp:∀t∈ts,Pd t:=λt ht=>(t2 t ht).le (by omega);have ne:ts≠[]:=λz=>by rw[z] at t1; simp at t1; omega
 have tl:ts.length<=20:=by omega
 ac_nf;refine zd1 (l:=ts) (.inl rfl) (λt ht=>(hp t ht).tz (by decide)) (λt ht=>(hp t ht).lo) (by omega) λar x =>?_;refine⟨Safe.of_noL (z96 ar) (z98 ar) _,?_⟩;ac_rfl;ac_nf;rw[z7G];obtain⟨zs,hzs,e⟩:∃zs:List Int,zs.length<=64/\zs=(cs.drop (HT.sIx cs.length 0 (some k0))).take (HT.sIx cs.length cs.length (some (k0+24)) - HT.sIx cs.length 0 (some k0)):=⟨_,by simp; omega,rfl⟩
 rw[<- e];clear e;refine zdz (by simp; exact szl (by omega)) ?_;rw[show zs.map D.int++[D.int c,D.int c]=(zs++[c,c]).map D.int by rw[List.map_append]; rfl];have ql:2<=(zs++[c,c]).length/\(zs++[c,c]).length<=66:=by simp; omega
 generalize zs++[c,c]=qs at*;refine⟨by walk_at "sf",?_⟩;ac_rfl;have lo:∀t∈ts,Geo.Lo t:=λt ht=>(hp t ht).lo;have arp:∀t∈ar,Pd t:=λt ht=>hp t (x.sub t ht);have al:=zaF x lo;ac_nf;rw[List.length_map];refine ziJ ⟨by decide,by decide,by omega,by omega,by decide,by decide⟩ ?_;ac_nf;have hr:∀j,j<rgs 0 ((qs.length:Int) - 1) 2->2*j+1<qs.length:=λj hj=>by
  simp only[rgs,Builtin.Range.rangeSize] at hj;rw[if_pos (by decide),if_pos (by omega)] at hj;omega
 refine z2e (f:=λ(j:Nat)=>D.int (0+(j:Int)*2)) (λdn ρ=>∃x7 x8 x9 x10 x11:B,ρ=[.s (.lst (ns.map .int)),.s (.int c),.s (.int f),.s (.lst (qs.map .int)),.s (.int k0),.s (.lst (ts.map pl3)),.s (pls3 ar),x7,x8,x9,x10,x11]) ⟨_,_,_,_,_,rfl⟩ ?_ ?_
 ·rintro dn j r ρ e ⟨x7,x8,x9,x10,x11,rfl⟩;have hj:=hr j (List.mem_range.mp (by rw[e]; simp));have a0:atI qs (0+(j:Int)*2)=some qs[2*j]:=by rw[show 0+(j:Int)*2=((2*j:Nat):Int) by omega,z5t (by omega),List.getElem?_eq_getElem]
  have a1:atI qs (0+(j:Int)*2+1)=some qs[2*j+1]:=by rw[show 0+(j:Int)*2+1=((2*j+1:Nat):Int) by omega,z5t hj,List.getElem?_eq_getElem]
  generalize qs[2*j]=v0 at*;generalize qs[2*j+1]=v1 at*;generalize 0+(j:Int)*2=k at*;have rest:∀b,Vb 1000 b->Sm.run (.seq (.set 9 (.op z16 [(.op pIx [(.v 3),(.op pAdd [(.v 7),(.c (.int 1))])]),(.v 5),(.v 8),(.v 2)]))
 (.seq (.set 10 (.op pTup [(.op pSub [(.c (.int 0)),(.op pIx [(.v 8),(.c (.int 0))])]),(.op pSub [(.c (.int 0)),(.op pIx [(.v 8),(.c (.int 1))])])]))
 (.seq (.ifs (.or (.not (.op z0M [(.v 6),(.v 8),(.v 9)])) (.not (.op z0M [(.v 6),(.v 10),(.op pTup [(.op pSub [(.c (.int 0)),(.op pIx [(.v 9),(.c (.int 0))])]),(.op pIx [(.v 9),(.c (.int 1))])])]))) (.ret (.c (.bl false))) .skip)
 (.seq (.set 11 (.op pAdd [(.op z1w [(.v 6),(.v 8),(.v 9)]),(.op z1w [(.v 6),(.v 10),(.op pTup [(.op pSub [(.c (.int 0)),(.op pIx [(.v 9),(.c (.int 0))])]),(.op pIx [(.v 9),(.c (.int 1))])])])]))
 (.ifs (.or (.op pNe [(.op z2W [(.v 11)]),(.v 6)]) (.op pNe [(.op z1w [(.op pTup []),(.v 8),(.v 9)]),(.op pTup [])])) (.ret (.c (.bl false))) .skip))))) [.s (.lst (ns.map .int)),.s (.int c),.s (.int f),.s (.lst (qs.map .int)),.s (.int k0),.s (.lst (ts.map pl3)),.s (pls3 ar),.s (.int k),.s (vec b),x9,x10,x11]
   (λρ=>∃x7 x8 x9 x10 x11:B,ρ=[.s (.lst (ns.map .int)),.s (.int c),.s (.int f),.s (.lst (qs.map .int)),.s (.int k0),.s (.lst (ts.map pl3)),.s (pls3 ar),x7,x8,x9,x10,x11]) (λd=>d = .bl true) (λ_=>False):=λb hb=>by
   ac_nf;refine z2Y (z2n a1) ?_;ac_nf;refine zhM hf hb hp ne λm hm =>?_;refine⟨Safe.of_noL rfl rfl _,?_⟩;ac_rfl;show Sm.run _ _ _ _ _;ac_nf;refine z9R x ne hb hm hp (by omega) ?_;ac_nf;refine z6j (z5e ?_);ac_nf;refine z9R (b:=ngB b) (m:=ngM m) x ne (zg6 hb) hm.ng hp (by omega) ?_;ac_nf;refine z6j (z5e ?_);ac_nf;refine zbs hb hm arp (by omega) λleft1 f1 l1 x1 =>?_;ac_nf;refine zbs (b:=ngB b) (m:=ngM m) (zg6 hb) hm.ng arp (by omega) λleft2 f2 l2 x2 =>?_;have q1:∀t∈left1,Pq t:=λt ht=>zdd hb hm arp (l1.sub t ht);have q2:∀t∈left2,Pq t:=λt ht=>zdd (zg6 hb) hm.ng arp (l2.sub t ht);have n1:=zaF x1 λt ht=>(q1 t ht).lo;have n2:=zaF x2 λt ht=>(q2 t ht).lo;have k1:=l1.len;have k2:=l2.len;have k3:=zbX b m ar (List.range ar.length);rw[List.length_range] at k3;have q3:∀t∈f1++f2,Pq t:=λt ht=>by
    rcases List.mem_append.mp ht with z | z
    ·exact q1 t (x1.sub t z)
    ·exact q2 t (x2.sub t z)
   refine zj5 (by simp; exact szl (by omega)) ?_;rw[<- List.map_append];refine⟨Safe.of_noL (z96 _) (z98 _) _,?_⟩;ac_rfl;ac_nf;refine zd1 (l:=f1++f2) (.inl rfl) (λt ht=>(q3 t ht).tz) (λt ht=>(q3 t ht).lo) (by rw[List.length_append]; omega) λh3 x3 =>?_;rw[zfr x ne lo l1 x1 l2 x2 (λt ht=>(q1 t ht).lo) (λt ht=>(q2 t ht).lo) x3];ac_nf;refine ziL (Da.pls3 ar) (Da.pls3 ar) ?_;rw[show deq (.tup (ar.map pl3)) (.tup (ar.map pl3))=decide (ar=ar) from zbW ar ar,decide_eq_true rfl];refine t_bl (λw=>absurd w (by decide)) (λ_ =>?_);ac_nf;refine zbs (h:=[]) hb hm (by simp) (by simp) λleft0 f0 l0 x0 =>?_;have e0:left0=[]:=List.length_eq_zero_iff.mp (by have:=l0.len; simpa using this);rw[e0] at x0;rw[x0.nil];ac_nf;refine ziL (Da.pls3 []) (Da.pls3 []) ?_;rw[show deq (.tup (([]:List Geo.T3).map pl3)) (.tup [])=decide (([]:List Geo.T3)=[]) from zbW [] [],decide_eq_true rfl];refine t_bl (λw=>absurd w (by decide)) (λ_ =>?_);ac_nf;exact⟨_,_,_,_,_,rfl⟩
  show Sm.run _ _ _ _ _;ac_rfl;ac_nf;refine z2Y (z2n a0) ?_;ac_nf;refine zjR λb hb =>?_;refine⟨Safe.of_noL rfl rfl _,?_⟩;ac_rfl;show Sm.run _ _ _ _ _;ac_nf;refine z2f (λf0 =>?_) (λf0 =>?_)
  ·ac_nf;refine z2Y (z2n a0) ?_;ac_nf;refine zgm (by omega) λb hb =>?_;refine⟨Safe.of_noL rfl rfl _,?_⟩;ac_rfl;exact rest b hb
  ·ac_nf;exact rest b hb
 ·rintro ρ ⟨x7,x8,x9,x10,x11,rfl⟩;ac_nf
  rfl
end Pu
namespace Pu
open PySem PySem.Spec PyProof.Rows L2
def Std (K:W.Frag)(n:Str)(st:Stmt)(f:Addr):Prop:=∃(oc:Value) (od:Option Addr) (sl:Array (Option Value)) (kV dc pm:Value) (an:Option Addr) (cd ct:Value),
 PySem.W.nsIn K mainGlobals n=some (some (.ref f))/\K.lookup f=some ⟨oc,od,.func (PySem.W.fnOf n n (z4v st) (z33 st) (z01 st) .none kV dc pm an cd ct),sl⟩/\PySem.W.codeIn K cd n=true/\PySem.W.keepIn K (.ref f)=true
def Std.mk {K:W.Frag}{n:Str}{st:Stmt}{f:Addr}{oc:Value}{od:Option Addr}{sl:Array (Option Value)}{kV dc pm:Value}{an:Option Addr}{cd ct:Value}(a:PySem.W.nsIn K mainGlobals n=some (some (.ref f)))(l:K.lookup f=some ⟨oc,od,.func (PySem.W.fnOf n n (z4v st) (z33 st) (z01 st) .none kV dc pm an cd ct),sl⟩)(c:PySem.W.codeIn K cd n=true)(k:PySem.W.keepIn K (.ref f)=true):Std K n st f:=⟨oc,od,sl,kV,dc,pm,an,cd,ct,a,l,c,k⟩
section
variable {P:Program}{w:World}{K:W.Frag}{mg:Str->Option Value}{h base:Heap}{CX:CXT}{k:Nat}{n:Str}{st:Stmt}{f fa:Addr}{ps:List Str}{sp:Sp}
def z0J (X:K.In h)(G:h.Ns mainGlobals mg)(d:Std K n st f)
  (hb:∀(kV dc pm:Value) (an:Option Addr) (cd ct:Value) (us:List Value),us.length=ps.length->bindArgs (PySem.W.fnOf n n (z4v st) (z33 st) (z01 st) .none kV dc pm an cd ct) ⟨us,[]⟩=pure (ps.zip us))
  (ok:∀fd,Fun K n n st f fd->FnOk P w K mg base CX k f fd ps sp):Cal P w K mg base CX k n ps sp:=by
 obtain⟨oc,od,sl,kV,dc,pm,an,cd,ct,a,l,c,kk⟩:=d;have F:=zg0 (st:=st) l c kk;exact⟨_,_,ok _ F,PySem.W.mg_of X G a,kk,F.binds (ps:=ps) hb⟩
def zht {x:Str}(X:K.In h)(G:h.Ns mainGlobals mg)(d:Std K n st f)(hfa:mg n=some (.ref fa))
  (hb:∀(kV dc pm:Value) (an:Option Addr) (cd ct:Value) (s:Shared) (v:Value),BindsTo s (PySem.W.fnOf n n (z4v st) (z33 st) (z01 st) .none kV dc pm an cd ct) ⟨[v],[]⟩ [(x,v)])
  (ok:∀base:Heap,K.In base->base.Ns mainGlobals mg->∀fd,Fun K n n st fa fd->FnOk P w K mg base CX k fa fd [x] sp):
  ∃fd:FuncData,(∀(s:Shared) (v:Value),BindsTo s fd ⟨[v],[]⟩ [(x,v)])/\∀base:Heap,K.In base->base.Ns mainGlobals mg->FnOk P w K mg base CX k fa fd [x] sp:=by
 obtain⟨oc,od,sl,kV,dc,pm,an,cd,ct,a,l,c,kk⟩:=d
 cases hfa.symm.trans (PySem.W.mg_of X G a)
 exact⟨_,λs v=>hb kV dc pm an cd ct s v,λbase kb nb=>ok base kb nb _ (zg0 (st:=st) l c kk)⟩
end
end Pu
namespace L2
open PySem PySem.Spec PyProof.Rows
def zee (X:Cx)(pos:Pos):Prop:=∃c P,X.env.code = .ref c/\PySem.W.codeHdIn X.K c P=true/\(tsOf X.K).lookup P=some (pos.line,pos.col,X.env.qual++"<lambda>")
abbrev lamO (X:Cx)(params:Arguments)(body:Expr)(scope:Scope)(c':Addr)(ctv:Value):Obj:=PySem.W.kla_obj "<lambda>" (X.env.qual++"<lambda>") params body scope (z2J X.env scope.names []) ((X.mg "__name__").getD .none) c' ctv
def LamF (X:Cx)(params:Arguments)(body:Expr)(scope:Scope)(f c':Addr)(H:Hp):Prop:=∃ctv oc vs t,H f=some (.frz (lamO X params body scope c' ctv) (.own f))/\H c'=some (.frz oc (.own c'))/\oc.data = .fields vs/\vs[1]? = some (.str (X.env.qual++"<lambda>") t)
def LamF.same {X:Cx}{params:Arguments}{body:Expr}{scope:Scope}{f c':Addr}{H H':Hp}(h:LamF X params body scope f c' H)(g:∀b o,H b=some o->H' b=some o):LamF X params body scope f c' H':=
 let ⟨ctv,oc,vs,t,h1,h2,h3⟩:=h; ⟨ctv,oc,vs,t,g _ _ h1,g _ _ h2,h3⟩
def z6y {t:Nat × Nat × Str}{more:Array Value}{i:Nat}(h:i<3):(encT t++more)[i]? = (encT t)[i]? := Array.getElem?_append_left (show i<(encT t).size from h)
section
variable {X:Cx}{pins:List (Addr × Obj)}{σ:St}{H:Hp}{s:Shared}{params:Arguments}{body:Expr}{scope:Scope}{pos:Pos}{N':List Str}{nt:Nat}{js:List Nat}
def zfb {E:Value->Shared->Prop}{Q:VK}(I:Inv X pins σ H s)(hl:zee X pos)(cp:z4f X N' nt js scope)(hdef:defaultsOf params X.env=([],[]))
  (h:∀f c' H',LamF X params body scope f c' H'->Same H H'->Q (.ref f) H'):wpAny (model X.prog X.w) X.A (eval (.Lambda params body scope pos) X.env) (EP X pins σ Q) E s:=by
 obtain⟨c,P,hcode,hhd,hts⟩:=hl;obtain⟨more,hHP⟩:=I.tbs P _ hts;have CH:PySem.W.CodeHd s.heap c P:=PySem.W.codeHd_of_K I.kIn hhd;have hg:s.heap.Ns mainGlobals X.mg:=I.mod.glob.keeps I.bk;have base_ne:∀b o,X.base.get? b=some o->b≠P:=λb o e z=>by
  have:=(I.bs b o e).2;rw[z,hHP] at this; cases this
 have hgP:mainGlobals≠P:=by
  obtain⟨o,es,ep,e,_⟩:=I.mod.glob;exact base_ne _ _ e
 have hb:s.heap.BuiltinsAt X.mg P:=by
  obtain⟨bm,ob,b1,b2,b3,b4,b5,b6⟩:=I.mod.bm;obtain⟨o,es,ep,e,hd,_⟩:=I.mod.glob;exact⟨bm,ob,b1,b2,(λz=>by rw[z,e] at b3; cases b3; rw[hd] at b6; cases b6),base_ne _ _ b3,I.bk _ _ b3,b4,b5,b6⟩
 have hcl:=z4w (cp.cells I);refine PySem.W.kla_eval hdef ?_
 rcases I.hok P _ hHP with hP | ⟨l,cl,q,t,c',oc,vs,u,e1,e2,e3,hP,hc',hd,hv⟩
 ·refine PySem.W.kla_makeFunction (ps := #[]) hcl I.ok.glob hg hcode CH hP trivial rfl hgP hb λc' ctv h' tk hx hge hlt hrec htb =>?_;obtain⟨c2,oc,vs,t,ec,hoc,hd,hv⟩:=hrec
  cases ec
  have cn:H c'=none:=I.hok.fresh hge;have hsz:s.heap.objs.size<=h'.objs.size:=Nat.le_trans hge (Nat.le_of_lt hlt);generalize hf0:h'.objs.size=f at*;have fn:H f=none:=I.hok.fresh hsz;have ncf:c'≠f:=Nat.ne_of_lt hlt;generalize hlo:lamO X params body scope c' ctv=lo;have hlo':PySem.W.kla_obj "<lambda>" (X.env.qual++"<lambda>") params body scope (z2J X.env scope.names []) ((X.mg "__name__").getD .none) c' ctv=lo:=hlo;rw[hlo'];generalize hh2:h'.push lo=h2;have up:∀b o,h'.get? b=some o->h2.get? b=some o:=λb o e=>hh2 ▸ Heap.get?_push_of_some _ e;have hfo:h2.get? f=some lo:=by rw[<- hh2, <- hf0]; exact Heap.get?_push_size _ (hlo ▸ rfl)
  have keep:∀b o,b≠P->s.heap.get? b=some o->h2.get? b=some o:=λb o n e=>up b o (hx b o n e)
  let H1:Hp:=upd H c' (.frz oc (.own c'))
  have f1:H1 f=none:=by show upd H c' _ f=none; rw[z0f ncf.symm]; exact fn
  have neH:∀b v,H b=some v->upd H1 f (.frz lo (.own f)) b=some v:=λb v e=>by
   rw[z0f (z0v e fn)];show upd H c' _ b=_;rw[z0f (z0v e cn)]; exact e
  have U:Un X.fs [] H (upd H1 f (.frz lo (.own f))) s.heap h2:=⟨λb o e n _ _=>keep b o (λz=>by rw[z,hHP] at n; cases n) e,λb o e n _ _=>⟨o.slots,keep b o (λz=>by rw[z,hHP] at n; cases n) e⟩,λb o e n _=>by
    rw[z0f (Nat.ne_of_lt (Nat.lt_of_lt_of_le (Heap.lt_size e) hsz))];show upd H c' _ b=_;rw[z0f (Nat.ne_of_lt (Nat.lt_of_lt_of_le (Heap.lt_size e) hge))]; exact n,λb o e _=>by
    by_cases hb:b=P
    ·exact⟨_,hb ▸ up _ _ htb⟩
    ·exact⟨o,keep b o hb e⟩,λb xs e=>neH b _ e,λb o u e=>neH b _ e,λb ps e=>⟨#[],by rw[neH b _ e]; simp⟩⟩
  have K:HOk X.prog X.w (upd H1 f (.frz lo (.own f))) h2:=λb v e=>by
   by_cases hbf:b=f
   ·subst hbf; rw[z0t] at e; cases e; exact⟨hfo,_,hfo⟩
   rw[z0f hbf] at e
   by_cases hbc:b=c'
   ·subst hbc;have e':upd H b _ b=some v:=e;rw[z0t] at e'; cases e'; exact⟨up _ _ hoc,_,up _ _ hoc⟩
   have e':upd H c' _ b=some v:=e;rw[z0f hbc] at e'
   by_cases hbP:b=P
   ·subst hbP;rw[hHP] at e'
    cases e'
    exact .inr ⟨rawInt pos.line,rawInt pos.col,_,0,c',oc,vs,t,z6y (by decide),z6y (by decide),z6y (by decide),up _ _ (by simpa using htb),by rw[z0f ncf]; exact z0t,hd,hv⟩
   ·exact(I.hok b v e').stay (λc2 v2 hc q=>keep c2 v2 (by
     rcases hc with rfl | hc
     ·exact hbP
     ·intro z; rw[z,hHP] at hc; cases hc) q) (λc q=>neH _ _ q) (λc xs q=>neH _ _ q) λc _ _ q=>neH _ _ q
  exact⟨.ref f,_,I.un (t':=tk) U K,rfl,h f c' _ ⟨ctv,oc,vs,t,by rw[z0t,hlo],by rw[z0f ncf]; exact z0t,hd,hv⟩ neH⟩
 ·have e1':l=rawInt pos.line:=Option.some.inj (((z6y (by decide)).symm.trans e1).symm);have e2':cl=rawInt pos.col:=Option.some.inj (((z6y (by decide)).symm.trans e2).symm);have e3':X.env.qual++"<lambda>"=q:=by
   have:(encT (pos.line,pos.col,X.env.qual++"<lambda>")++more)[2]? = some (.str (X.env.qual++"<lambda>") 0):=z6y (by decide);rw[this] at e3
   injection e3 with e3
   injection e3
  subst e1' e2';subst e3';refine PySem.W.kla_makeFunctionHit (ps := #[rawInt pos.line,rawInt pos.col,.ref c']) (cv :=.ref c') hcl I.ok.glob hg hcode CH hP (by simp[TriplesOk,rawInt]) (by simp[codeAmong,rawInt]) hb λctv h' tk hk hsz =>?_;generalize hlo:lamO X params body scope c' ctv=lo;have hlo':({ cls :=.type "function",data :=.func (PySem.W.kla_fn "<lambda>" (X.env.qual++"<lambda>") params body scope (z2J X.env scope.names []) ((X.mg "__name__").getD .none) (.ref c') ctv) }:Obj)=lo:=hlo;rw[hlo'];have fn:H h'.objs.size=none:=I.hok.fresh hsz;have hfo:(h'.push lo).get? h'.objs.size=some lo:=Heap.get?_push_size _ (hlo ▸ rfl);exact⟨.ref _,_,I.laid (t':=tk) (o :=.frz lo (.own h'.objs.size)) (λb u e=>Heap.get?_push_of_some _ (hk b u e)) hsz ⟨hfo,_,hfo⟩,rfl,h _ c' _ ⟨ctv,oc,vs,u,by rw[z0t,hlo],by rw[z0f (z0v hc' fn)]; exact hc',hd,hv⟩ (z0X fn _)⟩
@[reducible] def Cx.lamG (X:Cx)(A:Around)(scope:Scope)(N':List Str)(f c':Addr)(s:Shared)(H:Hp):Cx:=
 { X with A:=A.deeper (PySem.W.envX (X.env.qual++"<lambda>") scope s.heap.objs.size f (.ref c') (z2J X.env scope.names [])),N:=N',s₀:=s,H₀:=H,env:=PySem.W.envX (X.env.qual++"<lambda>") scope s.heap.objs.size f (.ref c') (z2J X.env scope.names []),outer:=X.stack,stack:=PySem.W.envX (X.env.qual++"<lambda>") scope s.heap.objs.size f (.ref c') (z2J X.env scope.names [])::X.stack,ex:=[],pn:=[],fn:=λy=>((z2J X.env scope.names []).lookup y).isNone,xe:=λ_ _=>False }
def Inv.lamG {A:Around}{f c':Addr}{h1:Heap}{t1:Nat}{p:Str}{xv:V}{u:Value}(I:Inv X pins σ H s)(hk:scope.kind = .function)(c:z4f X N' 1 js scope)(hA:A.frames=X.A.frames)(hc:A.handled=none)(hp:N'[0]? = some p)(hpl:scope.names.lookup p=some .local)(r:RelV xv u)
  (keep:∀b o,s.heap.get? b=some o->h1.get? b=some o) (hns:h1.Ns s.heap.objs.size (λx=>([(p,u)]:List (Str × Value)).reverse.lookup x)):
  Inv (X.lamG A scope N' f c' s H) [] (some xv::js.map λj=>(σ[j]?).getD none) H { s with heap:=h1,toks:=t1 }:=by
 have cell:∀{a:Addr}{v:Option Value},s.heap.IsCell a v->h1.IsCell a v:=λ⟨o,ho,hd⟩=>⟨o,keep _ _ ho,hd⟩
 have noA:∀b:Addr,b ∉ (X.lamG A scope N' f c' s H).ex:=λb z=>absurd (show b∈([]:List Addr) from z) (by simp);refine⟨⟨I.ok.mod,hk,rfl,rfl,Nat.le_refl _,(λy z a e1 e2=>I.ok.inj y z a (c.clo I e1).1 (c.clo I e2).1),(λy q=>c.has I ?_),(λy a hf e =>?_),(λ_=>hc),Around.frames_deeper (hA.trans I.ok.frames),.inr ⟨rfl,rfl⟩,λb z=>absurd z (noA b),(λb o e=>⟨I.bk b o e,(I.bs b o e).2⟩),Nat.le_trans I.ok.bsz I.sz,λb _ _=>noA b,λb z=>absurd z (noA b),I.stack,I.stkFree,I.tbs⟩,
  rfl,I.bare,Un.kept keep,⟨_,hns,(λi y v e1 e2 hv =>?_)⟩,(λy a e =>?_),I.hok.fresh (Nat.le_refl _),(λy a e=>I.freeC y a (c.clo I e).1),(λp hp=>absurd (show p∈([]:List (Addr × Obj)) from hp) (by simp)),I.hok.kept keep,?_⟩
 ·have q:scope.names.lookup y=some .cell\/scope.names.lookup y=some .free:=q
  rcases q with q | q
  ·exact absurd rfl (c.nocell _ (z1s q))
  ·exact z1s q
 ·have hf':((z2J X.env scope.names []).lookup y).isNone=true:=hf;have e':(z2J X.env scope.names []).lookup y=some a:=e;rw[e'] at hf'
  cases hf'
 ·cases i with
  | zero=>
   have e1':N'[0]? = some y:=e1;rw[hp] at e1'
   cases e1'
   have e2':some (some xv)=some (some v):=e2
   cases e2'
   exact⟨u,r,.inl ⟨hpl,by simp⟩⟩
  | succ k=>
   have e2:(js.map λj=>(σ[j]?).getD none)[k]? = some (some v):=by simpa using e2
   rw[List.getElem?_map] at e2
   cases ej:js[k]? with
   | none=>rw[ej] at e2; cases e2
   | some j=>
    rw[ej] at e2;obtain⟨y',q1,q2,q3⟩:=c.cap _ _ ej;rw[Nat.add_comm] at q1;have e1':N'[k+1]? = some y:=e1;rw[q1] at e1'
    cases e1'
    have e2:some ((σ[j]?).getD none)=some (some v):=e2;have hσ:σ[j]? = some (some v):=by
     cases ez:σ[j]? with
     | none=>rw[ez] at e2; cases e2
     | some z=>rw[ez] at e2; exact congrArg some (Option.some.inj e2)
    have hkX:=c.free _ (z1s q3) rfl;obtain⟨m,hn,hl⟩:=I.loc;obtain⟨u,r,l⟩:=hl j y v q2 hσ (.inr hkX);refine⟨u,r,.inr ⟨.inr q3,?_⟩⟩
    rcases l with ⟨l,_⟩ | ⟨_,a,ha,hcell⟩
    ·have l':X.env.kindOf y=some .local:=l
     rcases hkX with z | z
     ·rw[l'] at z; cases z
     ·rw[l'] at z; cases z
    ·obtain⟨b,hb⟩:=c.has I (z1s q3);have:=(c.clo I hb).1;rw[ha] at this
     cases this
     exact⟨a,hb,cell hcell⟩
 ·obtain⟨v,z⟩:=I.cell y a (c.clo I e).1;exact⟨v,cell z⟩
 ·show (some xv::js.map λj=>(σ[j]?).getD none).length=N'.length;rw[List.length_cons,List.length_map,c.len,Nat.add_comm]
def zfc {A:Around}{f c':Addr}{p:Str}{xv:V}{u:Value}{tb:TE}{Q:VK}{E:Value->Shared->Prop}(I:Inv X pins σ H s)(hf:LamF X params body scope f c' H)(hk:scope.kind = .function)(hco:scope.isCoroutine=false)(hgen:scope.isGenerator=false)(cp:z4f X N' 1 js scope)
  (hA:A.frames=X.A.frames) (hc:A.handled=none) (hroom:A.depth<recursionLimit) (hp:N'[0]? = some p) (hpl:scope.names.lookup p=some .local) (r:RelV xv u)
  (hbind:∀(name qual:Str) (sc:Scope) (cl:List (Str × Addr)) (pm cdv ct:Value),bindArgs (PySem.W.kla_fn name qual params body sc cl pm cdv ct) ⟨[u],[]⟩=pure [(p,u)])
  (hb:PE (X.lamG A scope N' f c' s H) body tb) (q:tb (some xv::js.map λj=>(σ[j]?).getD none) H Q):
  wpAny (model X.prog X.w) A (call (.ref f) [u]) (EP X pins σ Q) E s:=by
 obtain⟨ctv,oc,vs,t,hF,hC,hd,hv⟩:=hf;refine wpAny_call (PySem.W.kla_callFunE hroom (I.hok f _ hF).1 rfl hco hgen rfl ⟨c',oc,vs,t,rfl,(I.hok c' _ hC).1,hd,hv⟩ ?_);rw[hbind];refine wpAny_pure (wpAny_newFunctionEnv cp.nocell (λy hy=>by rw[List.mem_singleton.mp hy]; exact hpl) (λh1 hns hsb =>?_) hk);have keep:∀b o,s.heap.get? b=some o->h1.get? b=some o:=λb o e=>hsb.extBut b o (Nat.ne_of_lt (Heap.lt_size e)) (Heap.get?_push_of_some _ e);refine⟨I.nolimit.keeps keep,PySem.W.kla_codeExpr (wpAny_mono (hb [] _ _ H Q (I.lamG hk cp hA hc hp hpl r keep hns) q) (λv s' hs =>?_) λ_ _ z=>z.elim)⟩;obtain⟨y,H',J,rv,qq⟩:=hs;exact⟨y,H',I.call' (ch:=[]) J.os J.base J.hok J.bare (λb z=>absurd z (by simp)),rv,qq⟩
end
end L2
namespace Pu
open PySem PySem.Spec PyProof.Rows L2 Tab
def zaY {α β:Type}{R:α->β->Prop}{bs bs':List β}(p:bs.Perm bs'):∀{as:List α},Paired R as bs->∃as',as.Perm as'/\Paired R as' bs':=by
 induction p with
 | nil=>exact λh=>⟨_,.refl _,h⟩
 | cons x _ ih=>
  intro as h
  cases h with
  | cons r t=>
   obtain⟨as',q,h'⟩:=ih t;exact⟨_::as',q.cons _,.cons r h'⟩
 | swap x y l=>
  intro as h
  cases h with
  | cons r t=>
   cases t with
   | cons r' t'=>exact⟨_,List.Perm.swap _ _ _,.cons r' (.cons r t')⟩
 | trans _ _ ih1 ih2=>
  intro as h;obtain⟨a1,q1,h1⟩:=ih1 h;obtain⟨a2,q2,h2⟩:=ih2 h1;exact⟨a2,q1.trans q2,h2⟩
def z8o {α β κ:Type}{R:α->β->Prop}:∀(kz:List κ) {as:List α}{bs:List β},Paired R as bs->Paired (λ(p:κ × α) (q:κ × β)=>p.1=q.1/\R p.2 q.2) (kz.zip as) (kz.zip bs)
 | [],_,_,_ =>.nil
 | _::_,_,_,.nil=>by simpa using Paired.nil
 | k::kz,_,_,.cons r t =>.cons ⟨rfl,r⟩ (z8o kz t)
def z6n {α β κ:Type}{R:α->β->Prop}:∀{ps:List (κ × α)}{qs:List (κ × β)},Paired (λ(p:κ × α) (q:κ × β)=>p.1=q.1/\R p.2 q.2) ps qs->ps.map Prod.fst=qs.map Prod.fst/\Paired R (ps.map Prod.snd) (qs.map Prod.snd)
 | _,_,.nil=>⟨rfl,.nil⟩
 | _,_,.cons r t=>⟨by simp[r.1,(z6n t).1],.cons r.2 (z6n t).2⟩
def KO {α:Type}(kz:List (List Int))(l out:List α):Prop:=∃ps:List (List Int × α),ps.Perm (kz.zip l)/\out=ps.map Prod.snd/\ps.Pairwise (λp q=>HT.z2h q.1 p.1=false)
def KO.lift {α β:Type}{R:α->β->Prop}{kz:List (List Int)}{as:List α}{bs zb:List β}(h:Paired R as bs)(k:KO kz bs zb):∃za,Paired R za zb/\KO kz as za:=by
 obtain⟨ps,p,rfl,pw⟩:=k;obtain⟨qs,q,hq⟩:=zaY p.symm (z8o kz h);obtain⟨e,hs⟩:=z6n hq;refine⟨_,hs,qs,q.symm,rfl,?_⟩;have:(ps.map Prod.fst).Pairwise (λa b=>HT.z2h b a=false):=List.pairwise_map.mpr pw;rw[<- e] at this;exact List.pairwise_map.mp this
def z8j {K:W.Frag}{mg:Str->Option Value}{G:Hp}:∀{ds:List D}{xs:List V},RDs K mg G ds xs->Paired (RD K mg G) ds xs
 | [],_,h=>by rw[RDs] at h; subst h; exact .nil
 | _::_,_,h=>by
  rw[RDs] at h;obtain⟨x,r,rfl,h1,h2⟩:=h;exact .cons h1 (z8j h2)
def z8p {K:W.Frag}{mg:Str->Option Value}{G:Hp}:∀{ds:List D}{xs:List V},Paired (RD K mg G) ds xs->RDs K mg G ds xs
 | _,_,.nil=>RDs.nil
 | _,_,.cons r t=>RDs.cons r (z8p t)
def KeyG (K:W.Frag)(tb:TE)(σ0:V->L2.St)(xs:List V)(Q:VK)(H2:Hp):Prop:=∃W:List V->Hp->Prop,W [] H2/\(∀ys H,W ys H->Same H2 H)/\(∀ys H x,W ys H->xs[ys.length]? = some x->tb (σ0 x) H λy H'=>W (ys++[y]) H')/\
 ∀ys H,W ys H->ys.length=xs.length->∃kz,Tis K H ys kz/\(∀k∈kz,k≠[])/\∀zs:List V,KO kz xs zs->∀p,H p=none->Q (.ref p) (upd H p (.lst zs))
section
variable {X:Cx}{pins:List (Addr × Obj)}{σ:L2.St}{H:Hp}{s:Shared}{params:Arguments}{body:Expr}{scope:Scope}{N':List Str}{js:List Nat}
def zdL {D:Addr}{o:HO}(I:Inv X pins σ H s)(hn:H D=none)(hD:X.s₀.heap.objs.size<=D)(hL:D≠X.env.locals)(h2:∀x c,X.env.cells.lookup x=some c->c≠D)(h3:∀p∈X.pn++pins,p.1≠D)(ok:z2o X.prog X.w (upd H D o) s.heap D o):Inv X pins σ (upd H D o) s:=by
 have neH:∀b u,H b=some u->upd H D o b=some u:=λb u e=>by rw[z0f (z0v e hn)]; exact e
 exact I.step (g':=s.gens) (d':=s.drawn) (t':=s.toks) (h':=s.heap) (ch:=[D]) (λb hb=>by
  rw[List.mem_singleton.mp hb]; exact⟨.inr hD,hL,h2,h3⟩) (λb o _ _ _ e _=>e) (λb o _ _ _ e _=>⟨o.slots,e⟩) (λb u hc e n=>by rw[z0f (λz=>hc (by simp[z]))]; exact n) (λb u _ e=>⟨u,e⟩) (λb xs e=>neH b _ e) (λb u v e=>neH b _ e) (λb ps e=>⟨#[],by rw[neH b _ e]; simp⟩) (λm h=>h) (HOk.track I.hok hn ok) I.bare
def zen {f c' a:Addr}{p:Str}{xs:List V}{tb:TE}{Q:VK}{E:Value->Shared->Prop}(hc:X.calm=true)(hroom:X.A.depth<recursionLimit)(I:Inv X pins σ H s)(hf:LamF X params body scope f c' H)(hk:scope.kind = .function)(hco:scope.isCoroutine=false)(hgen:scope.isGenerator=false)(cp:z4f X N' 1 js scope)
  (hp:N'[0]? = some p) (hpl:scope.names.lookup p=some .local)
  (hbind:∀(u:Value) (name qual:Str) (sc:Scope) (cl:List (Str × Addr)) (pm cdv ct:Value),bindArgs (PySem.W.kla_fn name qual params body sc cl pm cdv ct) ⟨[u],[]⟩=pure [(p,u)])
  (hb:∀(A:Around) (f c':Addr) (s:Shared) (H:Hp),PE (X.lamG A scope N' f c' s H) body tb) (hs:SqL X.K H a xs) (h64:xs.length<Tim.z2b)
  (kg:KeyG X.K tb (λx=>some x::js.map λj=>(σ[j]?).getD none) xs Q H):
  wpAny (model X.prog X.w) X.A (call (.builtin "sorted") [.ref a] [(Str.ofString "key",.ref f)]) (EP X pins σ Q) E s:=by
 have hz:=Tim.zaO h64;obtain⟨W,w0,wS,wt,wf⟩:=kg;obtain⟨vs,rv,pl,_⟩:=I.list hs;have hl:xs.length=vs.length:=rv.length;refine call_function_entry_kw kind_sorted plain_sorted entry_sorted (ksk_s1 _ _) ?_;unfold Builtin.«sorted»;refine wpAny_bind (m:=checkCount "sorted" 1 1 _) (wpAny_pure ?_);refine wpAny_bind (collect_list (vs:=vs) (by simpa using pl.isList) ?_ (by omega));refine wpAny_bind (wpAny_newList ?_ (by omega));have hsz:((s.heap.push (seqObj "list" #[] 0)).update s.heap.objs.size (Obj.mapSeq (· ++ vs.toArray))).objs.size=s.heap.objs.size+1:=by rw[Heap.size_update,size_push']
 have keep:∀b o,s.heap.get? b=some o->(((s.heap.push (seqObj "list" #[] 0)).update s.heap.objs.size (Obj.mapSeq (· ++ vs.toArray))).push (seqObj "list" vs.toArray 0)).get? b=some o:=λb o q=>by
  have hlt:b<s.heap.objs.size:=Heap.lt_size q;rw[Heap.get?_push_ne _ _ _ (by rw[hsz]; exact Nat.ne_of_lt (Nat.lt_succ_of_lt hlt)),Heap.get?_update_ne _ _ _ _ (Nat.ne_of_lt hlt),Heap.get?_push_ne _ _ _ (Nat.ne_of_lt hlt)];exact q
 have hoL:(((s.heap.push (seqObj "list" #[] 0)).update s.heap.objs.size (Obj.mapSeq (· ++ vs.toArray))).push (seqObj "list" vs.toArray 0)).get? (s.heap.objs.size+1)=some (seqObj "list" vs.toArray 0):=by
  rw[<- hsz]; exact Heap.get?_push_size _ rfl
 show wpAny _ _ _ _ _ { s with heap:=((s.heap.push (seqObj "list" #[] 0)).update s.heap.objs.size (Obj.mapSeq (· ++ vs.toArray))).push (seqObj "list" vs.toArray 0) };rw[hsz];have hsz2:(((s.heap.push (seqObj "list" #[] 0)).update s.heap.objs.size (Obj.mapSeq (· ++ vs.toArray))).push (seqObj "list" vs.toArray 0)).objs.size=s.heap.objs.size+2:=by rw[size_push',hsz]
 generalize ((s.heap.push (seqObj "list" #[] 0)).update s.heap.objs.size (Obj.mapSeq (· ++ vs.toArray))).push (seqObj "list" vs.toArray 0)=g2 at keep hoL hsz2 ⊢;generalize hD:s.heap.objs.size+1=D at hoL ⊢;have hlt:s.heap.objs.size<D:=by omega
 have new:∀d,s.heap.objs.size<=d->d≠X.env.locals/\d ∉ X.fs/\X.s₀.heap.objs.size<=d/\(∀x c,X.env.cells.lookup x=some c->c≠d)/\∀q∈X.pn++pins,q.1≠d:=λd hd=>by
  refine⟨λz =>?_,I.nofs hd,Nat.le_trans I.sz hd,λx c e z =>?_,λq hq z =>?_⟩
  ·have:=I.lt;rw[z] at hd;exact absurd this (Nat.not_lt.mpr hd)
  ·obtain⟨v,o,ho,_⟩:=I.cell x c e;have:=Heap.lt_size ho;rw[z] at this;exact absurd this (Nat.not_lt.mpr hd)
  ·have:=Heap.lt_size (I.pin q hq).1;rw[z] at this;exact absurd this (Nat.not_lt.mpr hd)
 obtain⟨nD1,nD2,nD3,nD4,nD5⟩:=new D (Nat.le_of_lt hlt);obtain⟨nK1,nK2,nK3,nK4,nK5⟩:=new (g2.objs.size+1) (by omega);have hDK:D≠g2.objs.size+1:=by omega
 refine wpAny_bind (wpAny_holding (wpAny_call_entry_kw slot_list_sort ⟨_,hoL,rfl⟩ entry_list_sort ?body (ksk_l1 _ _)));show wpAny (model X.prog X.w) X.A.in1.in1 (Builtin.«list.sort» ⟨[.ref D],[(Str.ofString "key",.ref f)]⟩) _ _ _;rw[ksk_t1];refine Tim.zeo (s:={ s with heap:=g2 }) hoL (by rw[<- hl]; exact h64) (λe1 ks s'=>∃ys H',Inv X pins σ H' s'/\W ys H'/\Vals ys ks/\s'.heap.get? D=some (seqObj "list" #[] e1)/\(∃e,s'.heap.get? (g2.objs.size+1)=some (seqObj "list" ks.toArray e))/\H' D=none/\H' (g2.objs.size+1)=none) (λe1 ho1 => ?start) (λe1 i v ks s' hv hi hI => ?turn) (λe1 ks s' hks hI => ?fin)
 case start=>
  have hkS:((g2.update D (Obj.mapSeq λ_=>(#[]:Array Value))).push (seqObj "tuple" vs.toArray 0)).objs.size=g2.objs.size+1:=by rw[size_push',Heap.size_update]
  refine⟨[],H,I.kept (t':=s.toks) (λb o e=>Heap.get?_push_of_some _ (Heap.get?_push_of_some _ ?_)),w0,.nil,Heap.get?_push_of_some _ (Heap.get?_push_of_some _ ho1),⟨0,?_⟩,I.hok.fresh (Nat.le_of_lt hlt),I.hok.fresh (by omega)⟩
  ·rw[Heap.get?_update_ne _ _ _ _ (Nat.ne_of_lt (Nat.lt_trans (Heap.lt_size e) hlt))];exact keep b o e
  ·show Heap.get? (Heap.push _ _) _=_;rw[<- hkS]; exact Heap.get?_push_size _ rfl
 case turn=>
  obtain⟨ys,H',J,w,r,hA,⟨e,hK⟩,hDn,hKn⟩:=hI;have hyl:ys.length=i:=r.length.trans hi;have hx:∃x,xs[i]? = some x/\RelV x v:=by
   have hlt:i<xs.length:=by rw[hl]; exact(List.getElem?_eq_some_iff.mp hv).1
   obtain⟨u,h1,h2⟩:=rv.get (List.getElem?_eq_getElem hlt);rw[hv] at h1; cases h1;exact⟨_,List.getElem?_eq_getElem hlt,h2⟩
  obtain⟨x,hx,rx⟩:=hx;have J2:Inv X (pins++[(D,seqObj "list" #[] e1),(g2.objs.size+1,seqObj "list" ks.toArray e)]) σ H' s':=J.pins_of λq hq=>by
   rcases List.mem_append.mp hq with hq | hq
   ·exact J.pin q (List.mem_append_right _ hq)
   ·rcases List.mem_cons.mp hq with rfl | hq
    ·exact⟨hA,hDn,nD1,nD2,λv z=>by cases z⟩
    ·rw[List.mem_singleton.mp hq];exact⟨hK,hKn,nK1,nK2,λv z=>by cases z⟩
  refine wpAny_mono (zfc (E:=λ_ _=>False) (A:=X.A.in1.in1) J2 (hf.same (wS ys H' w)) hk hco hgen cp rfl (I.ok.hd hc) hroom hp hpl rx (hbind v) (hb _ _ _ _ _) (wt ys H' x w (by rw[hyl]; exact hx))) (λu s'' h =>?_) λ_ _ z=>z;obtain⟨y,H'',J3,ry,w3⟩:=h;have pD:=J3.pin (D,seqObj "list" #[] e1) (List.mem_append_right _ (List.mem_append_right _ (.head _)));have pK:=J3.pin (g2.objs.size+1,seqObj "list" ks.toArray e) (List.mem_append_right _ (List.mem_append_right _ (.tail _ (.head _))));have J4:Inv X pins σ H'' s'':=J3.pins_of λq hq=>J3.pin q (List.mem_append_right _ (List.mem_append_left _ hq));refine⟨⟨e,pK.1⟩,ys++[y],H'',J4.turned (t':=s''.toks) (it:=g2.objs.size+1) (λb o n q=>by rw[Heap.get?_update_ne _ _ _ _ n]; exact q) pK.2.1 nK1 (.inr nK3) nK4 nK5,w3,Vals.append r (.cons ry .nil),?_,?_,pD.2.1,pK.2.1⟩
  ·show Heap.get? (Heap.update _ _ _) _=_;rw[Heap.get?_update_ne _ _ _ _ hDK]; exact pD.1
  ·obtain⟨e',he'⟩:∃e',(s''.heap.update (g2.objs.size+1) (Obj.mapSeq (·.push u))).get? (g2.objs.size+1)=some (seqObj "list" (ks.toArray.push u) e'):=⟨_,get?_update_seq pK.1 (·.push u)⟩
   exact⟨e',by rw[show (ks++[u]).toArray=ks.toArray.push u by simp]; exact he'⟩
 case fin=>
  obtain⟨ys,H',J,w,r,hA,⟨e,hK⟩,hDn,hKn⟩:=hI;have hyl:ys.length=xs.length:=by rw[r.length,hks,hl]
  obtain⟨kz,ht,hne,q⟩:=wf ys H' w hyl;have hkl:kz.length=vs.length:=by rw[<- hl, <- hyl]; exact(zcI ht).symm
  refine⟨kz,hkl,hne,⟨hA,⟨e,hK⟩,λi u k hu hk =>?_⟩,λout hol ko=>⟨_,rfl,wpAny_pure ⟨_,rfl,?_⟩⟩⟩
  ·obtain⟨b,k',h1,h2,rfl,h4⟩:=zhu ht r hu;rw[hk] at h2; cases h2;exact TK.ti (zc8 J Same.refl' h4)
  ·obtain⟨zs,hv,kz'⟩:=KO.lift (R:=RelV) rv ko;have J1:=J.turned (t':=s'.toks) (it:=g2.objs.size+1) (h':=s'.heap.update (g2.objs.size+1) (Obj.mapSeq λ_ => #[])) (λb o n q=>by rw[Heap.get?_update_ne _ _ _ _ n]; exact q) hKn nK1 (.inr nK3) nK4 nK5;have hA1:(s'.heap.update (g2.objs.size+1) (Obj.mapSeq λ_ => #[])).get? D=some (seqObj "list" #[] e1):=by rw[Heap.get?_update_ne _ _ _ _ hDK]; exact hA
   obtain⟨e2,hA2⟩:∃e2,((s'.heap.update (g2.objs.size+1) (Obj.mapSeq λ_ => #[])).update D (Obj.mapSeq λ_=>out.toArray)).get? D=some (seqObj "list" out.toArray e2):=⟨_,get?_update_seq hA1 λ_=>out.toArray⟩
   have J2:=J1.turned (t':=s'.toks) (it:=D) (h':=(s'.heap.update (g2.objs.size+1) (Obj.mapSeq λ_ => #[])).update D (Obj.mapSeq λ_=>out.toArray)) (λb o n q=>by rw[Heap.get?_update_ne _ _ _ _ n]; exact q) hDn nD1 (.inr nD3) nD4 nD5;have hzl:zs.length<=sizeLine:=by
    have:=hv.length;omega
   exact⟨.ref D,upd H' D (.lst zs),zdL J2 hDn nD3 nD1 nD4 nD5 ⟨hzl,out,e2,hv,hA2⟩,rfl,q zs kz' D hDn⟩
end
end Pu
namespace Mxd
open PySem PySem.Spec PyProof.Rows
section
variable {prog:Program}{w:World}{A:Around}{R:Result->Shared->Prop}{I:Addr}{fp wr:List Addr}{n:Nat}{P:Nat->Value->Prop}{St:Nat->Heap->Prop}
def Best (P:Nat->Value->Prop)(bt:Nat->Nat->Bool)(i:Nat)(old:Array Value):Prop:=(i=0/\old = #[])\/∃j v,i=j+1/\old = #[v,v]/\P (argBest bt j) v
def zkB (W:Walks prog w A.in1 I fp wr n P St)(bt:Nat->Nat->Bool)(hcmp:CmpOf prog w A.in1 .Gt P bt)(S:Addr)(hSf:S ∉ fp)(d:Value):
  ∀(k i:Nat) (s:Shared) (old:Array Value) (c:Nat),n - i=k->i<=n->St i s.heap->s.heap.get? S=some { cls :=.type "list",dict:=none,data :=.seq old c,slots := #[] }->Best P bt i old->
  (∀v h' tk,(n=0/\v=d\/0<n/\P (argBest bt (n - 1)) v)->(∀b o,b ∉ wr->b≠S->s.heap.get? b=some o->h'.get? b=some o)->R (.ok (.ret v)) { s with heap:=h',toks:=tk })->
  codeAny (model prog w) A (.builtin "max.loop" ⟨[.ref I,.none,.ref S],[(Str.ofString "default",d)]⟩) R s:=by
 have hname:(toString "max"++toString ".loop":String)="max.loop":=by decide
 have hSw:S ∉ wr:=λz=>hSf (W.sub _ z);intro k
 induction k with
 | zero=>
  intro i s old c e1 e2 st hS hB hR;obtain rfl:i=n:=by omega
  refine codeAny_builtin F.entry_max_loop ?_;rw[Around.under_plainId F.plain_max_loop _];show wpAny _ A.in1 (seqItems? (.ref S) >>= _) _ _ s;refine wpAny_bind (wpAny_seqItems hS rfl ?_);show wpAny _ A.in1 (tryCatch (pyNext (.ref I)) _ >>= _) _ _ s;refine wpAny_bind (wpAny_tryCatch (W.done s _ _ st λh' tk kp =>?_))
  rcases hB with ⟨z,rfl⟩ | ⟨j,v,z,rfl,hP⟩
  ·exact wpAny_bind (wpAny_rule (wpAny_pure (hR d h' tk (.inl ⟨z,rfl⟩) λb o nb _ e=>kp b o nb e)))
  ·have hS':=kp S _ hSw hS;show wpAny _ A.in1 (updateSeq S (λ_ => #[]) >>= _) _ _ _;refine wpAny_bind (wpAny_updateSeq hS' rfl (wpAny_bind (wpAny_letGo (wpAny_pure ?_))));exact hR v _ tk (.inr ⟨by omega,by rw[z]; exact hP⟩) λb o nb ns e=>(Heap.get?_update_other _ _ (Ne.symm ns)).trans (kp b o nb e)
 | succ k ih=>
  intro i s old c e1 e2 st hS hB hR;have hlt:i<n:=by omega
  refine codeAny_builtin F.entry_max_loop ?_;rw[Around.under_plainId F.plain_max_loop _];show wpAny _ A.in1 (seqItems? (.ref S) >>= _) _ _ s;refine wpAny_bind (wpAny_seqItems hS rfl ?_);show wpAny _ A.in1 (tryCatch (pyNext (.ref I)) _ >>= _) _ _ s;refine wpAny_bind (wpAny_tryCatch (W.item i s _ _ hlt st λv h' tk hv st' kp =>?_));have hS':=kp S _ hSw hS;have back:∀(g:Array Value->Array Value),St (i+1) (h'.update S (Obj.mapSeq g)):=λg=>W.frame _ _ _ st' λb hb o e=>(Heap.get?_update_other _ _ (λz:S=b=>hSf (by rw[z]; exact hb))).trans e
  rcases hB with ⟨z,rfl⟩ | ⟨j,u,z,rfl,hP⟩
  ·show wpAny _ A.in1 (updateSeq S (λ_ => #[v,v]) >>= _) _ _ _;refine wpAny_bind (wpAny_updateSeq hS' rfl ?_);rw[hname];refine wpAny_pure ⟨plainId_quiet F.plain_max_loop _,ih (i+1) _ #[v,v] _ (by omega) hlt (back _) (Heap.get?_update_self _ hS' rfl) (.inr ⟨0,v,by omega,rfl,by rw[z] at hv; exact hv⟩) λv' g tk' q kp' =>?_⟩;exact hR v' g tk' q λb o nb ns e=>kp' b o nb ns ((Heap.get?_update_other _ _ (Ne.symm ns)).trans (kp b o nb e))
  ·show wpAny _ A.in1 (tryCatch (holding [v,v] (richCompare .Gt v u >>= _)) _ >>= _) _ _ _;refine wpAny_bind (wpAny_tryCatch (wpAny_holding (wpAny_bind (hcmp i (argBest bt j) v u _ _ _ hv hP ?_))));refine wpAny_bind (wpAny_holding (wpAny_truthy_bool (wpAny_bind (wpAny_letGo (wpAny_pure ?_)))))
   cases hb:bt i (argBest bt j) with
   | true=>
    simp only[if_true];refine wpAny_bind (wpAny_updateSeq hS' rfl (wpAny_bind (wpAny_letGo ?_)));rw[hname];refine wpAny_pure ⟨plainId_quiet F.plain_max_loop _,ih (i+1) _ #[v,v] _ (by omega) hlt (back _) (Heap.get?_update_self _ hS' rfl) (.inr ⟨i,v,rfl,rfl,?_⟩) λv' g tk' q kp' =>?_⟩
    ·rw[z] at hb hv ⊢;simp only[argBest,hb,if_true];exact hv
    ·exact hR v' g tk' q λb o nb ns e=>kp' b o nb ns ((Heap.get?_update_other _ _ (Ne.symm ns)).trans (kp b o nb e))
   | false=>
    simp only[Bool.false_eq_true,if_false];refine wpAny_bind (wpAny_letGo ?_);rw[hname];refine wpAny_pure ⟨plainId_quiet F.plain_max_loop _,ih (i+1) _ #[u,u] c (by omega) hlt st' hS' (.inr ⟨i,u,rfl,rfl,?_⟩) λv' g tk' q kp' =>?_⟩
    ·rw[z] at hb ⊢;simp only[argBest,hb,Bool.false_eq_true,if_false];exact hP
    ·exact hR v' g tk' q λb o nb ns e=>kp' b o nb ns (kp b o nb e)
end
section
variable {prog:Program}{w:World}{A:Around}{E:Value->Shared->Prop}{s:Shared}
def zeb (a d:Value):argsOk "max" ⟨[a],[(Str.ofString "default",d)]⟩:=by unfold argsOk; kernel_rfl
def zf5 {l:Addr}{xs:Array (Int × Tok)}{d:Value}{Q:Value->Shared->Prop}(hh:A.handled=none)(hl:s.heap.IsList l (intItems xs))
  (h:∀v h' tk,(xs.size=0/\v=d\/0<xs.size/\(intItems xs)[argBest (λi j=>decide (numAt xs i > numAt xs j)) (xs.size - 1)]? = some v)->(∀b o,s.heap.get? b=some o->h'.get? b=some o)->Q v { s with heap:=h',toks:=tk }):
  wpAny (model prog w) A (call (.builtin "max") [.ref l] [(Str.ofString "default",d)]) Q E s:=by
 refine wpAny_call (codeAny_call_builtin F.plain_max F.entry_max ?_);simp only[checkBuiltinCall,F.kind_max];have body:wpAny (model prog w) A.in1 (Builtin.«max» ⟨[.ref l],[(Str.ofString "default",d)]⟩) (λfin s'=>match fin with
   | .done f=>(match (Except.ok f:Result) with | .ok (.ret v)=>Q v s' | .ok _=>False | .error e=>E e s')
   | .again c'=>c'.quiet=true/\codeAny (model prog w) A c' (λr s'=>match r with | .ok (.ret v)=>Q v s' | .ok _=>False | .error e=>E e s') s') E s:=by
  have hname:(toString "max"++toString ".loop":String)="max.loop":=by decide
  show wpAny _ A.in1 (Builtin.Builtins.bindParams "max" ["key","default"] 0 ⟨[],[(Str.ofString "default",d)]⟩ >>= _) _ _ s;refine wpAny_bind (wpAny_of_eq (show Builtin.Builtins.bindParams "max" ["key","default"] 0 ⟨[],[(Str.ofString "default",d)]⟩=pure [none,some d] from rfl) ?_);refine wpAny_bind (wpAny_pure ?_);refine wpAny_bind (iter_intList hl λs₂ e st hfp hlI =>?_);subst e;refine wpAny_bind (wpAny_newObj_type ?_);have W:=Walks.list (A:=A.in1) (prog:=prog) (w:=w) hh _ l hlI (intItems xs);rw[hname];have hz:(intItems xs).size=xs.size:=by simp[intItems]
  refine wpAny_pure ⟨plainId_quiet F.plain_max_loop _,zkB W _ (CmpOf.ints_gt (numAt xs) (λ_ _=>intItems_at)) _ (λhm=>Nat.lt_irrefl _ (hfp _ hm)) d _ 0 _ #[] _ rfl (Nat.zero_le _) (W.frame _ _ _ st λb _ o e=>Heap.get?_push_of_some _ e) (Heap.get?_push_size _ rfl) (.inl ⟨rfl,rfl⟩) λv h' tk q kp =>?_⟩;refine h v h' tk ?_ ?_
  ·rw[hz] at q;exact q
  ·exact old_kept λb o nb e=>kp b o nb (Nat.ne_of_lt (Heap.lt_size e)) (Heap.get?_push_of_some _ e)
 cases hsig:Manifest.signature? "max" with
 | none=>exact wpAny_pure body
 | some sig=>
  have ha':Bind.checkArgs "max" sig ⟨[.ref l],[(Str.ofString "default",d)]⟩=pure ():=by simpa only[argsOk,hsig] using zeb (.ref l) d
  simp only[ha'];exact wpAny_pure body
end
end Mxd
namespace Pu
open PySem PySem.Spec PyProof.Rows L2
section
variable {X:Cx}{E:XK}
def zgo (K:W.Frag):R2:=λx y H Q=>∃(a:Addr) (ns:List Int) (i:Int),x = .ref a/\y = .int i/\SqL K H a (ns.map V.int)/\(ns=[]->Q (.int i) H)/\(ns≠[]->∀m∈ns,(∀x∈ns,x<=m)->Q (.int m) H)
def ze7 (hc:X.calm=true){pins:List (Addr × Obj)}{s:Shared}{σ:L2.St}{H:Hp}{x y:V}{u v:Value}{Q:VK}(I:Inv X pins σ H s)(rx:RelV x u)(ry:RelV y v)(h:zgo X.K x y H Q):
  wpAny (model X.prog X.w) X.A (call (.builtin "max") [u] [(Str.ofString "default",v)]) (EP X pins σ Q) X.xe s:=by
 obtain⟨a,ns,i,rfl,rfl,hs,q0,q1⟩:=h
 cases (show u=Value.ref a from rx)
 obtain⟨t0,rfl⟩:=ry;obtain⟨its,hv,pl,_⟩:=I.list hs;obtain⟨l,rfl,hl⟩:=zcF ns hv;have hll:l.length=ns.length:=by rw[<- hl,List.length_map]
 refine Mxd.zf5 (xs:=l.toArray) (I.ok.hd hc) (by have:=pl.isList; simpa[intItems] using this) λv h' tk z kp =>?_
 rcases z with ⟨z,rfl⟩ | ⟨z,e⟩
 ·have:ns=[]:=List.length_eq_zero_iff.mp (by rw[<- hll]; simpa using z);exact⟨.int i,H,I.kept (t':=tk) kp,⟨t0,rfl⟩,q0 this⟩
 ·have hpos:0<l.length:=by simpa using z
  have num:∀i,numAt l.toArray i=(ns[i]?).getD 0:=λi=>by
   unfold numAt;rw[<- hl,List.getElem?_map];simp
  obtain⟨t,rfl⟩:=intItems_at e;generalize hk0:argBest (λi j=>decide (numAt l.toArray i > numAt l.toArray j)) (l.toArray.size - 1)=k at*;have hkle:k<=l.length - 1:=by
   have:=z8E (λi j=>decide (numAt l.toArray i > numAt l.toArray j)) (l.toArray.size - 1);rw[hk0] at this;simpa using this
  have hkn:k<ns.length:=by omega
  refine⟨.int _,H,I.kept (t':=tk) kp,⟨t,rfl⟩,q1 (λw=>by rw[w] at hkn; simp at hkn) _ ?_ λx hx =>?_⟩
  ·rw[num,List.getElem?_eq_getElem hkn];exact List.getElem_mem hkn
  ·obtain⟨j,hj,rfl⟩:=List.mem_iff_getElem.mp hx;have:=z7K (numAt l.toArray) (l.toArray.size - 1) j (by simp; omega);rw[hk0] at this;rw[num j,List.getElem?_eq_getElem hj] at this;exact this
def zgF {e k:Expr}{pp pos kpos:Pos}{te tk:TE}(hc:X.calm=true)(hg:Gl X "max")(hm:X.mg "max"=none)(ha:PE X e te)(hk:PE X k tk)
  (hs:starEach [e] X.env=(false,eval e X.env)::starEach [] X.env:=by rfl) (hkw:∀pos,backToKw pos (keywordEach [⟨some "default",k,kpos⟩] X.env)=[(some (Str.ofString "default"),do let v <- eval k X.env; standAt pos; pure v)]:=by intro _; rfl):
  PE X (.Call (.Name "max" pp) [e] [⟨some "default",k,kpos⟩] pos) (tOp (zgo X.K) te tk):=by
 intro pins s σ H Q I h;refine wpAny_Call_Name_kw (z6H I hg hm (show bootBuiltins "max"=some (.builtin "max") from rfl) ?_ (by decide) (by decide));have pa:PA X [e] (z9H te tNil):=zaZ ha zdu hs;have pk:PK X [⟨some "default",k,kpos⟩] (z9H tk tNil):=zdm hk zfP;refine callWith_kw (thn (pa pos pins s σ H (λvs H1=>z9H tk tNil σ H1 λzs H2=>match vs,zs with | [x],[y]=>zgo X.K x y H2 Q | _,_=>False) I h) λus s1 ⟨vs,H1,I1,r,q⟩=>thn (pk pos pins s1 σ H1 _ I1 q) λws s2 ⟨zs,H2,I2,rz,q2⟩ =>?_) (by rw[hs]; rfl) (by rw[hs]; rfl) (by rw[hkw]; rfl) (by rw[hkw]; rfl)
 match vs,zs,r,rz,q2 with
 | [x],[y],r,rz,q2=>
  obtain⟨u,rfl,ru⟩:=z6i r;obtain⟨v,rfl,rv⟩:=z6i rz;rw[hkw];exact ze7 hc I2 ru rv q2
def zgp {e k:Expr}{pp pos kpos:Pos}{x y:Ex}(hc:X.calm=true)(hg:Gl X "max")(hm:X.mg "max"=none)(ha:QX X E e x)(hk:QX X E k y)
  (hs:starEach [e] X.env=(false,eval e X.env)::starEach [] X.env:=by rfl) (hkw:∀pos,backToKw pos (keywordEach [⟨some "default",k,kpos⟩] X.env)=[(some (Str.ofString "default"),do let v <- eval k X.env; standAt pos; pure v)]:=by intro _; rfl):
  QX X E (.Call (.Name "max" pp) [e] [⟨some "default",k,kpos⟩] pos) (.op zeP [x,y]):=
 QE.imp ⟨zgF hc hg hm ha.p hk.p hs hkw⟩ λσ H Q h=>tx2 (λG H d1 d2 v1 v2 Q0 X0 Q g rd1 rd2 hr hk=>by
  obtain⟨ns,i,e,h1,h2⟩:=hr
  injection e with e1 e2
  injection e2 with e2 _
  subst e1;subst e2;obtain⟨a,xs,rfl,hq,hx⟩:=z3k rd1;rw[z8O ns hx] at hq;exact⟨a,ns,i,rfl,z1i rd2,z2s g hq,λz=>hk.now g (h1 z) RD.int',λz m hm hx=>hk.now g (h2 z m hm hx) RD.int'⟩) h
end
end Pu
namespace Pu
open PySem PySem.Spec PyProof.Rows L2 Tab
section
variable {X:Cx}{E:XK}{e:Expr}{params:Arguments}{body:Expr}{scope:Scope}{pos lpos kpos pp:Pos}{N':List Str}{js:List Nat}{p:Str}
def zeL {te tb:TE}(hc:X.calm=true)(hroom:X.A.depth<recursionLimit)(hg:Gl X "sorted")(hm:X.mg "sorted"=none)(hl:zee X lpos)(ha:PE X e te)(hk:scope.kind = .function)(hco:scope.isCoroutine=false)(hgen:scope.isGenerator=false)(cp:z4f X N' 1 js scope)
  (hp:N'[0]? = some p) (hpl:scope.names.lookup p=some .local)
  (hbind:∀(u:Value) (name qual:Str) (sc:Scope) (cl:List (Str × Addr)) (pm cdv ct:Value),bindArgs (PySem.W.kla_fn name qual params body sc cl pm cdv ct) ⟨[u],[]⟩=pure [(p,u)])
  (hb:∀(A:Around) (f c':Addr) (s:Shared) (H:Hp),PE (X.lamG A scope N' f c' s H) body tb) (hdef:defaultsOf params X.env=([],[]))
  (hs:starEach [e] X.env=(false,eval e X.env)::starEach [] X.env) (hkw:∀pos,backToKw pos (keywordEach [⟨some "key",.Lambda params body scope lpos,kpos⟩] X.env)=[(some (Str.ofString "key"),do let v <- eval (.Lambda params body scope lpos) X.env; standAt pos; pure v)]):
  PE X (.Call (.Name "sorted" pp) [e] [⟨some "key",.Lambda params body scope lpos,kpos⟩] pos) (λσ H Q=>te σ H λv H1=>∀f c' H2,LamF X params body scope f c' H2->Same H1 H2->∃a xs,v = .ref a/\SqL X.K H2 a xs/\xs.length<Tim.z2b/\KeyG X.K tb (λx=>some x::js.map λj=>(σ[j]?).getD none) xs Q H2):=by
 intro pins s σ H Q I h;refine wpAny_Call_Name_kw (z6H I hg hm (show bootBuiltins "sorted"=some (.builtin "sorted") from rfl) ?_ (by decide) (by decide));have pa:PA X [e] (z9H te tNil):=zaZ ha zdu hs;have plam:PE X (.Lambda params body scope lpos) (λσ H Q=>∀f c' H',LamF X params body scope f c' H'->Same H H'->Q (.ref f) H'):=λpins s σ H Q I h=>zfb I hl cp hdef h;have pk:PK X [⟨some "key",.Lambda params body scope lpos,kpos⟩] (z9H _ tNil):=zdm plam zfP;refine callWith_kw (thn (pa pos pins s σ H (λvs H1=>match vs with | [v]=>∀f c' H2,LamF X params body scope f c' H2->Same H1 H2->∃a xs,v = .ref a/\SqL X.K H2 a xs/\xs.length<Tim.z2b/\KeyG X.K tb (λx=>some x::js.map λj=>(σ[j]?).getD none) xs Q H2 | _=>False) I h) λus s1 ⟨vs,H1,I1,r,q⟩ =>?_) (by rw[hs]; rfl) (by rw[hs]; rfl) (by rw[hkw]; rfl) (by rw[hkw]; rfl)
 match vs,r,q with
 | [x],r,q=>
  obtain⟨u,rfl,ru⟩:=z6i r;refine thn (pk pos pins s1 σ H1 (λzs H2=>match zs with | [y]=>∃f c',y = .ref f/\LamF X params body scope f c' H2/\∃a xs,x = .ref a/\SqL X.K H2 a xs/\xs.length<Tim.z2b/\KeyG X.K tb (λx=>some x::js.map λj=>(σ[j]?).getD none) xs Q H2 | _=>False) I1 λf c' H' l g=>⟨f,c',rfl,l,q f c' H' l g⟩) λws s2 ⟨zs,H2,I2,rz,q2⟩ =>?_
  match zs,rz,q2 with
  | [y],rz,q2=>
   obtain⟨v,rfl,rv⟩:=z6i rz;obtain⟨f,c',rfl,lf,a,xs,rfl,h1,h2,h3⟩:=q2
   cases (show u=Value.ref a from ru)
   cases (show v=Value.ref f from rv)
   rw[hkw];exact zen hc hroom I2 lf hk hco hgen cp hp hpl hbind hb h1 h2 h3
def zeF {k:Nat}{src x:Ex}(hc:X.calm=true)(hr:Room k X.A)(hg:Gl X "sorted")(hm:X.mg "sorted"=none)(hl:zee X lpos)(ha:QX X E e src)(hk:scope.kind = .function)(hco:scope.isCoroutine=false)(hgen:scope.isGenerator=false)(cp:z4f X N' 1 js scope)
  (hp:N'[0]? = some p) (hpl:scope.names.lookup p=some .local)
  (hbind:∀(u:Value) (name qual:Str) (sc:Scope) (cl:List (Str × Addr)) (pm cdv ct:Value),bindArgs (PySem.W.kla_fn name qual params body sc cl pm cdv ct) ⟨[u],[]⟩=pure [(p,u)])
  (hb:∀(A:Around) (f c':Addr) (s:Shared) (H:Hp),QX (X.lamG A scope N' f c' s H) E0 body x) (hdef:defaultsOf params X.env=([],[]):=by rfl)
  (hs:starEach [e] X.env=(false,eval e X.env)::starEach [] X.env:=by rfl) (hkw:∀pos,backToKw pos (keywordEach [⟨some "key",.Lambda params body scope lpos,kpos⟩] X.env)=[(some (Str.ofString "key"),do let v <- eval (.Lambda params body scope lpos) X.env; standAt pos; pure v)]:=by intro _; rfl):
  QF X E (.Call (.Name "sorted" pp) [e] [⟨some "key",.Lambda params body scope lpos,kpos⟩] pos) (.sortk 1 js (.nm 0) src x):=by
 refine QE.imp ⟨zeL (tb:=tx X.K X.mg E0 x) hc (Nat.lt_of_le_of_lt (Nat.le_trans (Nat.le_add_right _ (3*k)) (Nat.le_add_right _ 5)) hr.dp) hg hm hl ha.p hk hco hgen cp hp hpl hbind (λA f c' s H=>(hb A f c' s H).p) hdef hs hkw⟩ λσ H Q ⟨G,ρ,Q0,X0,g,ab,hr,hk,hx⟩ =>?_;refine⟨G,ρ,_,X0,g,ab,hr,λd v G1 H1 q g1 g2 g3 rd f c' H2 _ s12 =>?_,hx⟩
 cases d with
 | lst l=>
  obtain⟨a,xs,rfl,h1,h2⟩:=z3k rd;obtain⟨hz,q⟩:=(show l.length<Tim.z2b/\_ from q)
  have hxl:xs.length=l.length:=h2.len;have g12:Same G1 H2:=z0c g2 s12;refine⟨a,xs,rfl,z2s g12 h1,by rw[hxl]; exact hz,λys H'=>∃G' rs,Gr G1 H1 G'/\Same G' H'/\Same H2 H'/\RDs X.K X.mg G' rs ys/\z4E (z4F (.nm 0) none x (z1b 1 js ρ)) (l.drop ys.length) λr=>∃kz:List (List Int),rs++r=kz.map tupD/\(∀k∈kz,k≠[])/\∀out,zef kz l out->Q0 (.lst out),⟨G1,[],Gr.refl,g12,Same.refl',RDs.nil,by simpa using q⟩,λys H' ⟨_,_,_,_,s,_⟩=>s,λys H' xv ⟨G',rs,k1,k2,k3,rds,hc⟩ hxv =>?_,λys H' ⟨G',rs,k1,k2,k3,rds,hc⟩ hyl =>?_⟩
  ·obtain⟨d,hd,rd'⟩:=h2.getV hxv;obtain⟨hlt,hd'⟩:=List.getElem?_eq_some_iff.mp hd;rw[List.drop_eq_getElem_cons hlt,hd'] at hc;have hc':x.run ((z1b 1 js ρ).set 0 (.s d)) (λd'=>z4E (z4F (.nm 0) none x (z1b 1 js ρ)) (l.drop (ys.length+1)) λr=>∃kz:List (List Int),rs++((some d').toList++r)=kz.map tupD/\(∀k∈kz,k≠[])/\∀out,zef kz l out->Q0 (.lst out)) (λ_=>False):=hc;have ab':AbE X.K X.mg G' ((z1b 1 js ρ).set 0 (.s d)) (some xv::js.map λj=>(σ[j]?).getD none):=λi d' ed=>by
    cases i with
    | zero=>
     have ed':some d=some d':=ed
     cases ed'
     exact⟨xv,rfl,rd'.same k1.1⟩
    | succ i=>
     obtain⟨v,e1,e2⟩:=z8z (nt:=1) (js:=js) (ab.same (z0c g1.1 k1.1)) (i+1) d' ed;exact⟨v,e1,e2⟩
   refine⟨G',_,_,λ_=>False,k2,ab',hc',λd' v' G2 H3 q n1 n2 n3 rd2=>⟨G2,rs++[d'],k1.trans (z0c s12 k3) n1,n2,z0c k3 n3,(rds.same n1.1).app (RDs.cons rd2 RDs.nil),?_⟩,Kx.no⟩;rw[List.length_append];refine z3c z4e _ _ _ (λr q =>?_) q;simpa using q
  ·rw[hyl,hxl,List.drop_length] at hc;obtain⟨kz,ek,hne,hq⟩:=(show ∃kz:List (List Int),rs++[]=kz.map tupD/\(∀k∈kz,k≠[])/\∀out,zef kz l out->Q0 (.lst out) from hc)
   rw[List.append_nil] at ek;subst ek;refine⟨kz,(z8N (rds.same k2)),hne,λzs ko p hp =>?_⟩;obtain⟨out,pr,ko'⟩:=KO.lift (z8j (h2.same k1.1)) ko;have hn:∀{A:Hp},Same A H'->A p=none:=λs=>z2N s hp;exact hk (.lst out) p G' (upd H' p (.lst zs)) (hq out ko') (g1.trans g3 k1) (z0c k2 (z0X hp _)) (z0c g3 (z0c s12 (z0c k3 (z0X hp _)))) (hn (z0c g3 (z0c s12 k3))) (hn k2) ⟨zs,z0t,z8p pr⟩
 | _=>exact(show False from q).elim
end
end Pu
namespace Pu
open PySem PySem.Spec PyProof.Rows L2
def zbL (K:W.Frag):Bool:=K.all λp=>match p.2.data with
 | .func fd=>(match zbK fd with
  | some pos=>(match fd.code with
   | .ref c=>(match zaM K c with
    | some P=>PySem.W.codeHdIn K c P && ((tsOf K).lookup P == some (pos.line,pos.col,fd.qualname++".<locals>."++"<lambda>"))
    | none=>false)
   | _=>false)
  | none=>true)
 | _=>true
section
variable {P:Program}{w:World}{K:W.Frag}{mg:Str->Option Value}{base:Heap}{f:Addr}{qual:Str}{N:List Str}
def zje {CX:CXT}{sc:Scope}{cdv:Value}{A:Around}{outer:List PySem.Env}{s:Shared}{H:Hp}{E:XK}{xe:Value->Shared->Prop}{pos:Pos}{oc:Value}{od:Option Addr}{fd:FuncData}{osl:Array (Option Value)}(h:zbL K=true)(lk:K.lookup f=some ⟨oc,od,.func fd,osl⟩)(hc:fd.code=cdv)(hq:fd.qualname=qual)(hp:zbK fd=some pos):zee ((cxOf CX P w K mg base N qual sc f cdv A outer s H E).wish xe) pos:=by
 have:=List.all_eq_true.mp h _ (zbJ lk);dsimp only at this;rw[hp] at this;dsimp only at this;rw[hc,hq] at this
 cases cdv with
 | ref c=>
  dsimp only at this
  cases e:zaM K c with
  | none=>rw[e] at this; cases this
  | some P=>
   rw[e] at this;dsimp only at this;rw[Bool.and_eq_true] at this;exact⟨c,P,rfl,this.1,eq_of_beq this.2⟩
 | _=>cases this
def fnL {x:Str}{st:Stmt}{fd:FuncData}{ps:List Str}{k np nn:Nat}{b:Sm}{pos:Pos}(F:Fun K x qual st f fd)(S:z0h N ps (z01 st))(hl:zbL K=true)(hps:zbK { name:=x,qualname:=qual,params:=z4v st,body :=.stmts (z33 st),scope:=z01 st,globals:=0,closure:=[],defaults :=.none,kwdefaults :=.none,doc :=.none,pyModule :=.none,annotations:=none,code :=.none,closureTuple :=.none,builtins:=0 }=some pos)
  (hb:∀(cdv:Value) (A:Around) (outer:List PySem.Env) (s:Shared) (H:Hp) (E:XK),Room k (A.deeper (envOfC qual (z01 st) s.heap.objs.size f cdv))->(A.deeper (envOfC qual (z01 st) s.heap.objs.size f cdv)).units+64<cLine->zee ((cxOf (CXe P w) P w K mg base N qual (z01 st) f cdv A outer s H E).wish λ_ _=>False) pos->QZs ((cxOf (CXe P w) P w K mg base N qual (z01 st) f cdv A outer s H E).wish λ_ _=>False) E0 (z33 st) b) (hp:ps.length=np:=by rfl) (hN:N.length=nn:=by rfl):
  FnOk P w K mg base (CXe P w) (k+1) f fd ps (spP K mg (Fn.mkN np nn b)):=by
 obtain⟨oc,od,kV,doc,pm,an,cdv,ct,osl,rfl,lk,hcd⟩:=F.ex;refine zjs lk hcd S (λvs H Q E ⟨G,ds,Q0,X0,hs,rds,⟨hl,hr⟩,hk,hx⟩=>by rw[rds.len,hl,hp]) λA outer s H vs Q E hroom ⟨G,ds,Q0,X0,hs,rds,⟨hl',hr⟩,hk,hx⟩=>⟨_,(hb cdv A outer s H E hroom hroom.units (zje hl lk rfl rfl hps)).p.nox,?_⟩
 refine⟨H,G,G,_,λ_=>Q0 .non,Q0,λ_=>False,zbn hs rds hl' hN,hr,λρ' σ' H' G' q ab _ =>?_,hk,Kx.no⟩;exact hk .non .non G' H' q ⟨ab.g0,ab.nw⟩ ab.g ab.s0 (by rw[RD])
def zgc {K:Params->W.Frag}{as:List Addr}{e:∀P,as=(K P).map (·.1)}{ts:List Addr}{w:World}{h:Heap}(Y:(PySem.W.kmHook K as e ts).says w h)(hts:(tsOf (K w.params)).map Prod.fst=ts):∀P t,(tsOf (K w.params)).lookup P=some t->h.get? P=some { cls :=.none,data :=.fields #[] }:=
 λP t q=>PySem.W.km_tabs_of Y P (by rw[<- hts]; exact List.mem_map.mpr ⟨_,zbJ q,rfl⟩)
end
end Pu
namespace My
open PySem L2 Pu
def top (i:Nat):Stmt:=PySem.Challenge.pw_closehaul_k38_whole_areas_cut.main.body.getD i (.Pass ⟨0,0,0,0⟩)
def z1x:(("_law_along":Str) == ("__debug__":Str))=false:=by decide
def z6z:(("_law_bearing_by":Str) == ("__debug__":Str))=false:=by decide
def z5C:(("_law_bearing_free":Str) == ("__debug__":Str))=false:=by decide
def z9s:(("_law_before":Str) == ("__debug__":Str))=false:=by decide
def z5r:(("_law_between":Str) == ("__debug__":Str))=false:=by decide
def z87:(("_law_cell_at":Str) == ("__debug__":Str))=false:=by decide
def z86:(("_law_corners":Str) == ("__debug__":Str))=false:=by decide
def z3P:(("_law_digit":Str) == ("__debug__":Str))=false:=by decide
def zcv:(("_law_dot":Str) == ("__debug__":Str))=false:=by decide
def z5B:(("_law_less":Str) == ("__debug__":Str))=false:=by decide
def z1m:(("_law_lowest":Str) == ("__debug__":Str))=false:=by decide
def z85:(("_law_mark_by":Str) == ("__debug__":Str))=false:=by decide
def z48:(("_law_measure":Str) == ("__debug__":Str))=false:=by decide
def zar:(("_law_meets":Str) == ("__debug__":Str))=false:=by decide
def z3O:(("_law_mixed":Str) == ("__debug__":Str))=false:=by decide
def zaq:(("_law_place":Str) == ("__debug__":Str))=false:=by decide
def z7F:(("_law_place_by":Str) == ("__debug__":Str))=false:=by decide
def z4c:(("_law_place_free":Str) == ("__debug__":Str))=false:=by decide
def z9r:(("_law_places":Str) == ("__debug__":Str))=false:=by decide
def z9q:(("_law_points":Str) == ("__debug__":Str))=false:=by decide
def z6N:(("_law_right":Str) == ("__debug__":Str))=false:=by decide
def z7E:(("_law_size":Str) == ("__debug__":Str))=false:=by decide
def z2I:(("_law_step":Str) == ("__debug__":Str))=false:=by decide
def z7D:(("_law_turn":Str) == ("__debug__":Str))=false:=by decide
def zap:(("_law_whole":Str) == ("__debug__":Str))=false:=by decide
def z6c:(("_law_within":Str) == ("__debug__":Str))=false:=by decide
def zfq:(("abs":Str) == ("__debug__":Str))=false:=by decide
def zjv:(("all":Str) == ("__debug__":Str))=false:=by decide
def z59:(("area_cut":Str) == ("__debug__":Str))=false:=by decide
def z7C:(("area_of":Str) == ("__debug__":Str))=false:=by decide
def z7B:(("beyond_by":Str) == ("__debug__":Str))=false:=by decide
def zju:(("bool":Str) == ("__debug__":Str))=false:=by decide
def z8x:(("chain_of":Str) == ("__debug__":Str))=false:=by decide
def z4D:(("common_divisor":Str) == ("__debug__":Str))=false:=by decide
def z6b:(("crossing_of":Str) == ("__debug__":Str))=false:=by decide
def zfp:(("dot_of":Str) == ("__debug__":Str))=false:=by decide
def zkR:(("int":Str) == ("__debug__":Str))=false:=by decide
def z9p:(("least_round":Str) == ("__debug__":Str))=false:=by decide
def z47:(("len":Str) == ("__debug__":Str))=false:=by decide
def z84:(("lowest_place":Str) == ("__debug__":Str))=false:=by decide
def zkQ:(("min":Str) == ("__debug__":Str))=false:=by decide
def zao:(("places_cut":Str) == ("__debug__":Str))=false:=by decide
def z7A:(("rising_places":Str) == ("__debug__":Str))=false:=by decide
def z7z:(("tuple":Str) == ("__debug__":Str))=false:=by decide
def zan:(("turn_among":Str) == ("__debug__":Str))=false:=by decide
def zfz:bootBuiltins "abs"=some (.builtin "abs"):=by rfl
def zf6:("abs":Str)≠"__name__":=by decide
def zjE:bootBuiltins "all"=some (.builtin "all"):=by rfl
def zj9:("all":Str)≠"__name__":=by decide
def zjD:bootBuiltins "bool"=some (.type "bool"):=by rfl
def zj8:("bool":Str)≠"__name__":=by decide
def zkW:bootBuiltins "int"=some (.type "int"):=by rfl
def zkz:("int":Str)≠"__name__":=by decide
def z49:bootBuiltins "len"=some (.builtin "len"):=by rfl
def z3V:("len":Str)≠"__name__":=by decide
def zkV:bootBuiltins "min"=some (.builtin "min"):=by rfl
def zky:("min":Str)≠"__name__":=by decide
def z7J:bootBuiltins "tuple"=some (.type "tuple"):=by rfl
def z7j:("tuple":Str)≠"__name__":=by decide
structure Txt (K:W.Frag)(mg:Str->Option Value):Prop where
 triv:True
 n_abs:mg "abs"=none
 n_all:mg "all"=none
 n_bool:mg "bool"=none
 n_int:mg "int"=none
 n_isinstance:mg "isinstance"=none
 n_len:mg "len"=none
 n_list:mg "list"=none
 n_max:mg "max"=none
 n_min:mg "min"=none
 n_range:mg "range"=none
 n_reversed:mg "reversed"=none
 n_set:mg "set"=none
 n_sorted:mg "sorted"=none
 n_tuple:mg "tuple"=none
 lam:zbL K=true
local macro_rules | `(tactic| rfl') => `(tactic| first | exact⟨.inl rfl,by decide,by decide⟩ | exact⟨.inr rfl,by decide,by decide⟩ | exact⟨rfl,rfl,rfl,by decide +kernel,rfl,by decide +kernel,by decide +kernel⟩)
local macro_rules | `(tactic| walk_at "c1") => `(tactic| exact λ_ _ _ _ _ _ us hl=>match us,hl with | [_],_=>rfl)
local macro_rules | `(tactic| walk_at "c2") => `(tactic| exact λ_ _ _ _ _ _ us hl=>match us,hl with | [_,_],_=>rfl)
local macro_rules | `(tactic| walk_at "c3") => `(tactic| exact λ_ _ _ _ _ _ us hl=>match us,hl with | [_,_,_],_=>rfl)
local macro_rules | `(tactic| walk_at "c4") => `(tactic| exact λ_ _ _ _ _ _ us hl=>match us,hl with | [_,_,_,_],_=>rfl)
abbrev Cl (P:Program)(w:World)(K:W.Frag)(mg:Str->Option Value)(base:Heap)(n:Nat)(x:Str)(ps:List Str)(F:Fn):Prop:=Cal P w K mg base (CXe P w) n x ps (spP K mg F)
abbrev Fk (P:Program)(w:World)(K:W.Frag)(mg:Str->Option Value)(base:Heap)(n:Nat)(f:Addr)(fd:FuncData)(ps:List Str)(F:Fn):Prop:=FnOk P w K mg base (CXe P w) n f fd ps (spP K mg F)
abbrev Nd (l:List Str):Prop:=l.Nodup
abbrev z24:Stmt:=top 17
def z7P:z0h ["script","k"] ["script","k"] (z01 z24):=by rfl'
def z4V:Nm (z01 z24) "script":=by rfl'
def z4U:Nm (z01 z24) "k":=by rfl'
abbrev z2B:Stmt:=top 24
def z4j:z0h ["many","size","k"] ["many"] (z01 z2B):=by rfl'
def zac:Nm (z01 z2B) "many":=by rfl'
def z3F:Nm (z01 z2B) "size":=by rfl'
def zab:Nm (z01 z2B) "k":=by rfl'
abbrev z2j:Stmt:=top 25
def z6F:z0h ["rest","size","digit"] ["rest","size"] (z01 z2j):=by rfl'
def z9h:Nm (z01 z2j) "rest":=by rfl'
def z9g:Nm (z01 z2j) "size":=by rfl'
def z4r:Nm (z01 z2j) "digit":=by rfl'
abbrev z1H:Stmt:=top 19
def z1I:z0h ["one","other","rest"] ["one","other"] (z01 z1H):=by rfl'
def z1S:Nm (z01 z1H) "one":=by rfl'
def z1t:Nm (z01 z1H) "other":=by rfl'
def z4R:Nm (z01 z1H) "rest":=by rfl'
abbrev z1z:Stmt:=top 20
def z5G:z0h ["x","y","bottom","part"] ["x","y","bottom"] (z01 z1z):=by rfl'
def z5q:Nm (z01 z1z) "x":=by rfl'
def z5p:Nm (z01 z1z) "y":=by rfl'
def z5o:Nm (z01 z1z) "bottom":=by rfl'
def z2Q:Nm (z01 z1z) "part":=by rfl'
abbrev z0u:Stmt:=top 26
def z13:z0h ["cell","most","size","rest","x","y"] ["cell","most"] (z01 z0u):=by rfl'
def z3J:Nm (z01 z0u) "cell":=by rfl'
def z3I:Nm (z01 z0u) "most":=by rfl'
def z0U:Nm (z01 z0u) "size":=by rfl'
def z0T:Nm (z01 z0u) "rest":=by rfl'
def z3H:Nm (z01 z0u) "x":=by rfl'
def z3G:Nm (z01 z0u) "y":=by rfl'
abbrev z2i:Stmt:=top 21
def z6E:z0h ["cell","k","mixed"] ["cell","k"] (z01 z2i):=by rfl'
def z9f:Nm (z01 z2i) "cell":=by rfl'
def z9e:Nm (z01 z2i) "k":=by rfl'
def z4p:Nm (z01 z2i) "mixed":=by rfl'
abbrev z0N:Stmt:=top 22
def z3S:z0h ["one","other","top","bottom","x","y"] ["one","other","top","bottom"] (z01 z0N):=by rfl'
def z1U:Nm (z01 z0N) "one":=by rfl'
def z1T:Nm (z01 z0N) "other":=by rfl'
def z2x:Nm (z01 z0N) "top":=by rfl'
def z3p:Nm (z01 z0N) "bottom":=by rfl'
def z4X:Nm (z01 z0N) "x":=by rfl'
def z4W:Nm (z01 z0N) "y":=by rfl'
abbrev z0p:Stmt:=top 23
def z0y:z0h ["cell","ahead","rest","way","x","y","one","other"] ["cell","ahead"] (z01 z0p):=by rfl'
def z32:Nm (z01 z0p) "cell":=by rfl'
def z0I:Nm (z01 z0p) "ahead":=by rfl'
def z0i:Nm (z01 z0p) "rest":=by rfl'
def z1G:Nm (z01 z0p) "way":=by rfl'
def z31:Nm (z01 z0p) "x":=by rfl'
def z1F:Nm (z01 z0p) "y":=by rfl'
def z30:Nm (z01 z0p) "one":=by rfl'
def z2Z:Nm (z01 z0p) "other":=by rfl'
abbrev z1h:Stmt:=top 27
def z4k:z0h ["cells","free","places","cell"] ["cells","free"] (z01 z1h):=by rfl'
def z5n:Nm (z01 z1h) "cells":=by rfl'
def z80:Nm (z01 z1h) "free":=by rfl'
def z2P:Nm (z01 z1h) "places":=by rfl'
def z5m:Nm (z01 z1h) "cell":=by rfl'
abbrev z1g:Stmt:=top 9
def z4h:z0h ["start","middle","end","x","y"] ["start","middle","end"] (z01 z1g):=by rfl'
def z3X:Nm (z01 z1g) "start":=by rfl'
def z1K:Nm (z01 z1g) "middle":=by rfl'
def z1J:Nm (z01 z1g) "end":=by rfl'
def z5h:Nm (z01 z1g) "x":=by rfl'
def z5g:Nm (z01 z1g) "y":=by rfl'
abbrev z2g:Stmt:=top 2
def z5x:z0h ["spots","turn","kept","spot"] ["spots","turn"] (z01 z2g):=by rfl'
def zae:Nm (z01 z2g) "spots":=by rfl'
def zad:Nm (z01 z2g) "turn":=by rfl'
def z1V:Nm (z01 z2g) "kept":=by rfl'
def z52:Nm (z01 z2g) "spot":=by rfl'
abbrev z1n:Stmt:=top 3
def z3R:z0h ["rising","turn","there","back"] ["rising","turn"] (z01 z1n):=by rfl'
def z2t:Nm (z01 z1n) "rising":=by rfl'
def z4Q:Nm (z01 z1n) "turn":=by rfl'
def z4P:Nm (z01 z1n) "there":=by rfl'
def z4O:Nm (z01 z1n) "back":=by rfl'
abbrev z0A:Stmt:=top 10
def z2c:z0h ["places","apart","great","times"] ["places"] (z01 z0A):=by rfl'
def z6u:Nm (z01 z0A) "places":=by rfl'
def z2G:Nm (z01 z0A) "apart":=by rfl'
def z2F:Nm (z01 z0A) "great":=by rfl'
def z6t:Nm (z01 z0A) "times":=by rfl'
abbrev z56:Stmt:=top 11
def zcd:z0h ["places"] ["places"] (z01 z56):=by rfl'
def zba:Nm (z01 z56) "places":=by rfl'
abbrev z12:Stmt:=top 37
def z1Y:z0h ["cell","rest","bearing"] ["cell"] (z01 z12):=by rfl'
def z3K:Nm (z01 z12) "cell":=by rfl'
def z1k:Nm (z01 z12) "rest":=by rfl'
def z1M:Nm (z01 z12) "bearing":=by rfl'
abbrev z1R:Stmt:=top 35
def z4K:z0h ["bearing","place","far","part"] ["bearing","place"] (z01 z1R):=by rfl'
def z65:Nm (z01 z1R) "bearing":=by rfl'
def z38:Nm (z01 z1R) "place":=by rfl'
def z4t:Nm (z01 z1R) "far":=by rfl'
def z4s:Nm (z01 z1R) "part":=by rfl'
abbrev z0x:Stmt:=top 41
def z0Z:z0h ["cell","places","bearing","free","place","rest","one","other"] ["cell","places","bearing","free"] (z01 z0x):=by rfl'
def z3o:Nm (z01 z0x) "cell":=by rfl'
def z1u:Nm (z01 z0x) "places":=by rfl'
def z3n:Nm (z01 z0x) "bearing":=by rfl'
def z4S:Nm (z01 z0x) "free":=by rfl'
def z0m:Nm (z01 z0x) "place":=by rfl'
def z0Q:Nm (z01 z0x) "rest":=by rfl'
def z2w:Nm (z01 z0x) "one":=by rfl'
def z2v:Nm (z01 z0x) "other":=by rfl'
abbrev z0q:Stmt:=top 38
def z1B:z0h ["cell","most","size","rest","bearing"] ["cell","most"] (z01 z0q):=by rfl'
def z35:Nm (z01 z0q) "cell":=by rfl'
def z34:Nm (z01 z0q) "most":=by rfl'
def z1p:Nm (z01 z0q) "size":=by rfl'
def z23:Nm (z01 z0q) "rest":=by rfl'
def z22:Nm (z01 z0q) "bearing":=by rfl'
abbrev z4H:Stmt:=top 1
def zcV:z0h ["one","other"] ["one","other"] (z01 z4H):=by rfl'
def z8v:Nm (z01 z4H) "one":=by rfl'
def z8u:Nm (z01 z4H) "other":=by rfl'
abbrev z2k:Stmt:=top 12
def z9P:z0h ["place","bearing","most"] ["place","bearing","most"] (z01 z2k):=by rfl'
def z69:Nm (z01 z2k) "place":=by rfl'
def z9l:Nm (z01 z2k) "bearing":=by rfl'
def z68:Nm (z01 z2k) "most":=by rfl'
abbrev z0F:Stmt:=top 5
def z14:z0h ["one","other","great","small","rest"] ["one","other"] (z01 z0F):=by rfl'
def z67:Nm (z01 z0F) "one":=by rfl'
def z66:Nm (z01 z0F) "other":=by rfl'
def z1N:Nm (z01 z0F) "great":=by rfl'
def z1l:Nm (z01 z0F) "small":=by rfl'
def z3L:Nm (z01 z0F) "rest":=by rfl'
abbrev z15:Stmt:=top 7
def z4J:z0h ["x","y","bottom","divisor"] ["x","y","bottom"] (z01 z15):=by rfl'
def z4B:Nm (z01 z15) "x":=by rfl'
def z4A:Nm (z01 z15) "y":=by rfl'
def z4z:Nm (z01 z15) "bottom":=by rfl'
def z2d:Nm (z01 z15) "divisor":=by rfl'
abbrev z0O:Stmt:=top 13
def z3T:z0h ["one","one_beyond","other","other_beyond","x","y"] ["one","one_beyond","other","other_beyond"] (z01 z0O):=by rfl'
def z3t:Nm (z01 z0O) "one":=by rfl'
def z3s:Nm (z01 z0O) "one_beyond":=by rfl'
def z3r:Nm (z01 z0O) "other":=by rfl'
def z3q:Nm (z01 z0O) "other_beyond":=by rfl'
def z51:Nm (z01 z0O) "x":=by rfl'
def z50:Nm (z01 z0O) "y":=by rfl'
abbrev z0B:Stmt:=top 14
def z1A:z0h ["corners","bearing","most","left","number","ahead","corner","ahead_beyond","beyond"] ["corners","bearing","most"] (z01 z0B):=by rfl'
def z3Z:Nm (z01 z0B) "corners":=by rfl'
def z5j:Nm (z01 z0B) "bearing":=by rfl'
def z5i:Nm (z01 z0B) "most":=by rfl'
def z28:Nm (z01 z0B) "left":=by rfl'
def z3Y:Nm (z01 z0B) "number":=by rfl'
def z2O:Nm (z01 z0B) "ahead":=by rfl'
def z27:Nm (z01 z0B) "corner":=by rfl'
def z26:Nm (z01 z0B) "ahead_beyond":=by rfl'
def z1L:Nm (z01 z0B) "beyond":=by rfl'
abbrev z2C:Stmt:=top 15
def zaT:z0h ["area","bearing","most"] ["area","bearing","most"] (z01 z2C):=by rfl'
def zah:Nm (z01 z2C) "area":=by rfl'
def zag:Nm (z01 z2C) "bearing":=by rfl'
def zaf:Nm (z01 z2C) "most":=by rfl'
abbrev z3i:Stmt:=top 36
def zaS:z0h ["one","other"] ["one","other"] (z01 z3i):=by rfl'
def z6L:Nm (z01 z3i) "one":=by rfl'
def z6K:Nm (z01 z3i) "other":=by rfl'
abbrev z0P:Stmt:=top 39
def z2V:z0h ["one","other","bearing","most","begin","end","up","whole"] ["one","other","bearing","most"] (z01 z0P):=by rfl'
def z64:Nm (z01 z0P) "one":=by rfl'
def z63:Nm (z01 z0P) "other":=by rfl'
def z62:Nm (z01 z0P) "bearing":=by rfl'
def z4q:Nm (z01 z0P) "most":=by rfl'
def z2u:Nm (z01 z0P) "begin":=by rfl'
def z37:Nm (z01 z0P) "end":=by rfl'
def z61:Nm (z01 z0P) "up":=by rfl'
def z60:Nm (z01 z0P) "whole":=by rfl'
abbrev z0H:Stmt:=top 40
def z2q:z0h ["area","bearing","most","points","one","other","begins"] ["area","bearing","most"] (z01 z0H):=by rfl'
def z46:Nm (z01 z0H) "area":=by rfl'
def z45:Nm (z01 z0H) "bearing":=by rfl'
def z44:Nm (z01 z0H) "most":=by rfl'
def z5l:Nm (z01 z0H) "points":=by rfl'
def z43:Nm (z01 z0H) "one":=by rfl'
def z42:Nm (z01 z0H) "other":=by rfl'
def z5k:Nm (z01 z0H) "begins":=by rfl'
abbrev z3h:Stmt:=top 28
def zaR:z0h ["one","other"] ["one","other"] (z01 z3h):=by rfl'
def z3E:Nm (z01 z3h) "one":=by rfl'
def z3D:Nm (z01 z3h) "other":=by rfl'
abbrev z1X:Stmt:=top 33
def z5H:z0h ["one","other","step"] ["one","other"] (z01 z1X):=by rfl'
def z82:Nm (z01 z1X) "one":=by rfl'
def z81:Nm (z01 z1X) "other":=by rfl'
def z2R:Nm (z01 z1X) "step":=by rfl'
abbrev z3g:Stmt:=top 29
def zaQ:z0h ["one","other"] ["one","other"] (z01 z3g):=by rfl'
def z6J:Nm (z01 z3g) "one":=by rfl'
def z6I:Nm (z01 z3g) "other":=by rfl'
abbrev z4a:Stmt:=top 30
def zcc:z0h ["one","other"] ["one","other"] (z01 z4a):=by rfl'
def z7o:Nm (z01 z4a) "one":=by rfl'
def z7n:Nm (z01 z4a) "other":=by rfl'
abbrev z1y:Stmt:=top 31
def z4i:z0h ["corners","place","k","side"] ["corners","place"] (z01 z1y):=by rfl'
def z11:Nm (z01 z1y) "corners":=by rfl'
def z41:Nm (z01 z1y) "place":=by rfl'
def z29:Nm (z01 z1y) "k":=by rfl'
def z40:Nm (z01 z1y) "side":=by rfl'
abbrev z3y:Stmt:=top 18
def z9N:z0h ["found"] ["found"] (z01 z3y):=by rfl'
def z5U:Nm (z01 z3y) "found":=by rfl'
abbrev z2T:Stmt:=top 32
def z9O:z0h ["found"] ["found"] (z01 z2T):=by rfl'
def z1j:Nm (z01 z2T) "found":=by rfl'
abbrev z1o:Stmt:=top 34
def z2K:z0h ["found","k","side"] ["found"] (z01 z1o):=by rfl'
def z0j:Nm (z01 z1o) "found":=by rfl'
def z0R:Nm (z01 z1o) "k":=by rfl'
def z4T:Nm (z01 z1o) "side":=by rfl'
abbrev z0Y:Stmt:=top 42
def z2U:z0h ["area","bearing","most","found","points","corner","point"] ["area","bearing","most"] (z01 z0Y):=by rfl'
def z5Z:Nm (z01 z0Y) "area":=by rfl'
def z5Y:Nm (z01 z0Y) "bearing":=by rfl'
def z5X:Nm (z01 z0Y) "most":=by rfl'
def z36:Nm (z01 z0Y) "found":=by rfl'
def z4o:Nm (z01 z0Y) "points":=by rfl'
def z5W:Nm (z01 z0Y) "corner":=by rfl'
def z5V:Nm (z01 z0Y) "point":=by rfl'
abbrev z3j:Stmt:=top 43
def z3z:z0h ["script","first","free","cells","half","places","area","k","bearing","most","back","both"] ["script"] (z01 z3j):=by rfl'
def zdQ:Nm (z01 z3j) "script":=by rfl'
def z7q:Nm (z01 z3j) "first":=by rfl'
def z7p:Nm (z01 z3j) "free":=by rfl'
def z4u:Nm (z01 z3j) "cells":=by rfl'
def z9j:Nm (z01 z3j) "half":=by rfl'
def zb9:Nm (z01 z3j) "places":=by rfl'
def z6v:Nm (z01 z3j) "area":=by rfl'
def z9i:Nm (z01 z3j) "k":=by rfl'
def z4Z:Nm (z01 z3j) "bearing":=by rfl'
def z4Y:Nm (z01 z3j) "most":=by rfl'
def z9k:Nm (z01 z3j) "back":=by rfl'
def zbO:Nm (z01 z3j) "both":=by rfl'
section
variable {P:Program}{w:World}{K:W.Frag}{mg:Str->Option Value}{base:Heap}{f:Addr}{fd:FuncData}(T:Txt K mg)
include T
theorem z7V (F:Fun K "_law_cell_at" "_law_cell_at" z24 f fd):Fk P w K mg base 1 f fd ["script","k"] z1E:=by
 refine fnN F z7P rfl rfl (λcdv A outer s H E hr =>?_);have hu:=hr.units;exact(z05 (z25 (z0K (z7Y hu) lk2 (qx_v (vg 1 z4U)) (z2A z2a lkN (glg rfl) T.n_len z49 (z00 (qx_v (vg 0 z4V)) z04) z3V z47) (z0C _)) (z08 (z0g (z07 (qx_v (vg 0 z4V)) (qx_v (vg 1 z4U)) (λ_ _=>rfl)))) z10)
   (z08 (z0g z02)))
theorem zb2 (F:Fun K "_law_size" "_law_size" z2B f fd):Fk P w K mg base 1 f fd ["many"] z1d:=by
 refine fnN F z4j rfl rfl (λcdv A outer s H E hr =>?_);have hu:=hr.units;exact(z05 (z09 (ag 1 z4j.nd z3F z02))
   (z05 (z6X (g:=(.nm 2)) PassesOwn.never rfl (glg rfl) T.n_range (z00 (qx_v (vg 0 zac)) z04) (ng 2 z4j.nd zab) (z08 (z09 (ag 1 z4j.nd z3F (z03 z0e lk2 (qx_v (vg 1 z3F)) z02)))))
   (z08 (z0g (qx_v (vg 1 z3F))))))
theorem za3 (F:Fun K "_law_digit" "_law_digit" z2j f fd):Fk P w K mg base 1 f fd ["rest","size"] z0G:=by
 refine fnN F z6F rfl rfl (λcdv A outer s H E hr =>?_);have hu:=hr.units;exact(z05 (z09 (ag 2 z6F.nd z4r (z03 z0S lk2 (qx_v (vg 0 z9h)) (z03 z19 lk2 (z03 z0e lk2 z02 (qx_v (vg 1 z9g))) z02))))
   (z08 (z0g (z03 z0e lk2 (z03 z0z lk2 (z03 z19 lk2 (qx_v (vg 2 z4r)) z02) z02) (z03 z0L lk2 z02 (z03 z0e lk2 z02 (z03 z0S lk2 (qx_v (vg 2 z4r)) z02)))))))
theorem z7S (F:Fun K "_law_measure" "_law_measure" z1H f fd):Fk P w K mg base 1 f fd ["one","other"] z0D:=by
 refine fnN F z1I rfl rfl (λcdv A outer s H E hr =>?_);have hu:=hr.units;exact(z05 (z09 (ag 0 z1I.nd z1S (z2A zc2 lkN (glg rfl) T.n_abs zfz (z00 (qx_v (vg 0 z1S)) z04) zf6 zfq)))
   (z05 (z09 (ag 1 z1I.nd z1t (z2A zc2 lkN (glg rfl) T.n_abs zfz (z00 (qx_v (vg 1 z1t)) z04) zf6 zfq)))
   (z05 (z8P PassesOwn.never (z0K (z6W hu) lk2 (qx_v (vg 1 z1t)) z02 (z0C _)) (z05 (z09 (ag 2 z1I.nd z4R (z03 z0S lk2 (qx_v (vg 0 z1S)) (qx_v (vg 1 z1t)))))
   (z05 (z09 (ag 0 z1I.nd z1S (qx_v (vg 1 z1t))))
   (z08 (z09 (ag 1 z1I.nd z1t (qx_v (vg 2 z4R))))))))
   (z08 (z0g (qx_v (vg 0 z1S)))))))
theorem z93 (F:Fun K "_law_lowest" "_law_lowest" z1z f fd)(q0:Cl P w K mg base 1 "_law_measure" ["one","other"] z0D):Fk P w K mg base 2 f fd ["x","y","bottom"] z06:=by
 refine fnN F z5G rfl rfl (λcdv A outer s H E hr =>?_);have hu:=hr.units;exact(z05 (z09 (ag 3 z5G.nd z2Q (z0k q0 (hr.mono (by decide)) z0a (z00 (z0k q0 (hr.mono (by decide)) z0a (z00 (qx_v (vg 0 z5q)) (z00 (qx_v (vg 1 z5p)) z04)) (glg rfl) z48) (z00 (qx_v (vg 2 z5o)) z04)) (glg rfl) z48)))
   (z08 (z0g (z2m (z00 (z03 z0z lk2 (qx_v (vg 0 z5q)) (qx_v (vg 3 z2Q))) (z00 (z03 z0z lk2 (qx_v (vg 1 z5p)) (qx_v (vg 3 z2Q))) (z00 (z03 z0z lk2 (qx_v (vg 2 z5o)) (qx_v (vg 3 z2Q))) z04)))))))
theorem z6o (F:Fun K "_law_place_free" "_law_place_free" z0u f fd)(q1:Cl P w K mg base 2 "_law_lowest" ["x","y","bottom"] z06)(q2:Cl P w K mg base 1 "_law_size" ["many"] z1d)(q3:Cl P w K mg base 1 "_law_digit" ["rest","size"] z0G):Fk P w K mg base 3 f fd ["cell","most"] z0w:=by
 refine fnN F z13 rfl rfl (λcdv A outer s H E hr =>?_);have hu:=hr.units;exact(z05 (z09 (ag 2 z13.nd z0U (z0k q2 (hr.mono (by decide)) z0a (z00 (z03 z19 lk2 z02 (z03 z0S lk2 (qx_v (vg 0 z3J)) (qx_v (vg 1 z3I)))) z04) (glg rfl) z7E)))
   (z05 (z09 (ag 3 z13.nd z0T (z03 z0z lk2 (qx_v (vg 0 z3J)) (qx_v (vg 1 z3I)))))
   (z05 (z09 (ag 4 z13.nd z3H (z0k q3 (hr.mono (by decide)) z0a (z00 (qx_v (vg 3 z0T)) (z00 (qx_v (vg 2 z0U)) z04)) (glg rfl) z3P)))
   (z05 (z09 (ag 3 z13.nd z0T (z03 z0z lk2 (qx_v (vg 3 z0T)) (z03 z19 lk2 (z03 z0e lk2 z02 (qx_v (vg 2 z0U))) z02))))
   (z05 (z09 (ag 5 z13.nd z3G (z0k q3 (hr.mono (by decide)) z0a (z00 (qx_v (vg 3 z0T)) (z00 (qx_v (vg 2 z0U)) z04)) (glg rfl) z3P)))
   (z08 (z0g (z0k q1 (hr.mono (by decide)) z0a (z00 (qx_v (vg 4 z3H)) (z00 (qx_v (vg 5 z3G)) (z00 (z03 z19 lk2 z02 (z03 z0S lk2 (z03 z0z lk2 (qx_v (vg 3 z0T)) (z03 z19 lk2 (z03 z0e lk2 z02 (qx_v (vg 2 z0U))) z02)) (qx_v (vg 2 z0U)))) z04))) (glg rfl) z1m))))))))
theorem za1 (F:Fun K "_law_mixed" "_law_mixed" z2i f fd):Fk P w K mg base 1 f fd ["cell","k"] z0o:=by
 refine fnN F z6E rfl rfl (λcdv A outer s H E hr =>?_);have hu:=hr.units;exact(z05 (z09 (ag 2 z6E.nd z4p (z03 z0S lk2 (z03 z19 lk2 (z03 z19 lk2 (z03 z0e lk2 (z03 z0S lk2 (qx_v (vg 0 z9f)) z02) z02) (z03 z0e lk2 z02 (qx_v (vg 1 z9e)))) z02) z02)))
   (z08 (z0g (z03 z0z lk2 (z03 z0S lk2 (z03 z0e lk2 (qx_v (vg 2 z4p)) (qx_v (vg 2 z4p))) z02) z02))))
theorem z7W (F:Fun K "_law_between" "_law_between" z0N f fd)(q1:Cl P w K mg base 2 "_law_lowest" ["x","y","bottom"] z06):Fk P w K mg base 3 f fd ["one","other","top","bottom"] z0E:=by
 refine fnN F z3S rfl rfl (λcdv A outer s H E hr =>?_);have hu:=hr.units;exact(z05 (z09 (ag 4 z3S.nd z4X (z03 z19 lk2 (z03 z0e lk2 (z03 z0e lk2 (z07 (qx_v (vg 0 z1U)) z02 (λ_ _=>rfl)) (z07 (qx_v (vg 1 z1T)) z02 (λ_ _=>rfl))) (z03 z0L lk2 (qx_v (vg 3 z3p)) (qx_v (vg 2 z2x)))) (z03 z0e lk2 (z03 z0e lk2 (z07 (qx_v (vg 1 z1T)) z02 (λ_ _=>rfl)) (z07 (qx_v (vg 0 z1U)) z02 (λ_ _=>rfl))) (qx_v (vg 2 z2x))))))
   (z05 (z09 (ag 5 z3S.nd z4W (z03 z19 lk2 (z03 z0e lk2 (z03 z0e lk2 (z07 (qx_v (vg 0 z1U)) z02 (λ_ _=>rfl)) (z07 (qx_v (vg 1 z1T)) z02 (λ_ _=>rfl))) (z03 z0L lk2 (qx_v (vg 3 z3p)) (qx_v (vg 2 z2x)))) (z03 z0e lk2 (z03 z0e lk2 (z07 (qx_v (vg 1 z1T)) z02 (λ_ _=>rfl)) (z07 (qx_v (vg 0 z1U)) z02 (λ_ _=>rfl))) (qx_v (vg 2 z2x))))))
   (z08 (z0g (z0k q1 (hr.mono (by decide)) z0a (z00 (qx_v (vg 4 z4X)) (z00 (qx_v (vg 5 z4W)) (z00 (z03 z0e lk2 (z03 z0e lk2 (z07 (qx_v (vg 0 z1U)) z02 (λ_ _=>rfl)) (z07 (qx_v (vg 1 z1T)) z02 (λ_ _=>rfl))) (qx_v (vg 3 z3p))) z04))) (glg rfl) z1m)))))
theorem z7h (F:Fun K "_law_place_by" "_law_place_by" z0p f fd)(q1:Cl P w K mg base 2 "_law_lowest" ["x","y","bottom"] z06)(q4:Cl P w K mg base 1 "_law_mixed" ["cell","k"] z0o)(q5:Cl P w K mg base 3 "_law_between" ["one","other","top","bottom"] z0E):Fk P w K mg base 4 f fd ["cell","ahead"] z1q:=by
 refine fnN F z0y rfl rfl (λcdv A outer s H E hr =>?_);have hu:=hr.units;exact(z05 (z09 (ag 2 z0y.nd z0i (z0k q4 (hr.mono (by decide)) z0a (z00 (qx_v (vg 0 z32)) (z00 z02 z04)) (glg rfl) z3O)))
   (z05 (z09 (ag 3 z0y.nd z1G (z03 z0S lk2 (qx_v (vg 2 z0i)) z02)))
   (z05 (z09 (ag 2 z0y.nd z0i (z03 z0z lk2 (qx_v (vg 2 z0i)) z02)))
   (z05 (z09 (ag 4 z0y.nd z31 (z03 z0L lk2 (z03 z0S lk2 (z03 z0z lk2 (qx_v (vg 2 z0i)) z02) z02) z02)))
   (z05 (z09 (ag 5 z0y.nd z1F (z03 z0L lk2 (z03 z0S lk2 (z03 z0z lk2 (qx_v (vg 2 z0i)) z02) z02) z02)))
   (z05 (z25 (QW.pt (z4M (z0K (z6r hu) lk2 (qx_v (vg 3 z1G)) z02 (z0C _)) (z3B (z0K (z6W hu) lk2 (z2A z2a lkN (glg rfl) T.n_len z49 (z00 (qx_v (vg 1 z0I)) z04) z3V z47) z02 (z0C _))))) (z08 (z0g (z07 (qx_v (vg 1 z0I)) (z03 z0S lk2 (qx_v (vg 2 z0i)) (z2A z2a lkN (glg rfl) T.n_len z49 (z00 (qx_v (vg 1 z0I)) z04) z3V z47)) (λ_ _=>rfl)))) z10)
   (z05 (z25 (QW.pt (z4M (z0K (z6r hu) lk2 (qx_v (vg 3 z1G)) z02 (z0C _)) (z3B (z0K (z6W hu) lk2 (z2A z2a lkN (glg rfl) T.n_len z49 (z00 (qx_v (vg 1 z0I)) z04) z3V z47) z02 (z0C _))))) (z05 (z09 (ag 6 z0y.nd z30 (z07 (qx_v (vg 1 z0I)) (z03 z0S lk2 (qx_v (vg 2 z0i)) (z2A z2a lkN (glg rfl) T.n_len z49 (z00 (qx_v (vg 1 z0I)) z04) z3V z47)) (λ_ _=>rfl))))
   (z05 (z09 (ag 7 z0y.nd z2Z (z07 (qx_v (vg 1 z0I)) (z03 z0S lk2 (z03 z0z lk2 (qx_v (vg 2 z0i)) z02) (z2A z2a lkN (glg rfl) T.n_len z49 (z00 (qx_v (vg 1 z0I)) z04) z3V z47)) (λ_ _=>rfl))))
   (z08 (z25 (z0K (z7Y hu) lk2 (z03 z0e lk2 (z07 (qx_v (vg 6 z30)) z02 (λ_ _=>rfl)) (z07 (qx_v (vg 7 z2Z)) z02 (λ_ _=>rfl))) (z03 z7i lk2 z02 z02) (z0C _)) (z08 (z0g (z0k q5 (hr.mono (by decide)) z0a (z00 (qx_v (vg 6 z30)) (z00 (qx_v (vg 7 z2Z)) (z00 (z03 z19 lk2 z02 (z03 z0S lk2 (qx_v (vg 2 z0i)) z02)) (z00 z02 z04)))) (glg rfl) z5r))) z10)))) z10)
   (z05 (z25 (z0K (z6r hu) lk2 (qx_v (vg 3 z1G)) z02 (z0C _)) (z08 (z09 (ag 5 z0y.nd z1F (z03 z19 lk2 (z03 z0e lk2 z02 (qx_v (vg 4 z31))) z02)))) z10)
   (z05 (z25 (z0K (z6r hu) lk2 (qx_v (vg 3 z1G)) z02 (z0C _)) (z05 (z09 (ag 5 z0y.nd z1F (z03 z0L lk2 (z0k q4 (hr.mono (by decide)) z0a (z00 (qx_v (vg 0 z32)) (z00 z02 z04)) (glg rfl) z3O) (z03 z7i lk2 z02 z02))))
   (z08 (z0g (z0k q1 (hr.mono (by decide)) z0a (z00 (z03 z0L lk2 (z03 z0S lk2 (qx_v (vg 0 z32)) (z03 z19 lk2 (z03 z0e lk2 z02 (z03 z7i lk2 z02 z02)) z02)) (z03 z7i lk2 z02 z02)) (z00 (qx_v (vg 5 z1F)) (z00 (z03 z19 lk2 z02 (z03 z0S lk2 (qx_v (vg 2 z0i)) (z03 z7i lk2 z02 z02))) z04))) (glg rfl) z1m)))) z10)
   (z08 (z0g (z0k q1 (hr.mono (by decide)) z0a (z00 (qx_v (vg 4 z31)) (z00 (qx_v (vg 5 z1F)) (z00 (z07 (QF.qx (z8m (z00 z02 (z00 z02 (z00 z02 (z00 z02 (z00 z02 z04))))))) (z03 z0S lk2 (qx_v (vg 2 z0i)) z02) (λ_ _=>rfl)) z04))) (glg rfl) z1m))))))))))))
theorem z92 (F:Fun K "_law_places" "_law_places" z1h f fd)(q6:Cl P w K mg base 4 "_law_place_by" ["cell","ahead"] z1q)(q7:Cl P w K mg base 3 "_law_place_free" ["cell","most"] z0w):Fk P w K mg base 5 f fd ["cells","free"] z1P:=by
 refine fnN F z4k rfl rfl (λcdv A outer s H E hr =>?_);have hu:=hr.units;exact(z05 (z25 (z0K (z6W hu) lk2 (qx_v (vg 1 z80)) z02 (z0C _)) (z08 (z0g (QF.qx (z8Q (tg:=(.nm 0)) (ct:=none) rfl (qi_x (qx_v (vg 0 z5n))) rfl (z9v.ok (N':=["cell","free"]) (xn:=["cells","free","places","cell"]) (nt:=1) (js:=[1]) (osc:=z01 z1h) rfl rfl (by decide +kernel)) rfl (λC s2 H2 fp=>(z9S (i:=0) (show Nd ["cell","free"] from by decide) rfl rfl)) trivial (λC s2 H2 fp=>(z0k q7 (hr.mono (by decide)) z0a (z00 (qx_v (qv 0)) (z00 (qx_v (qv 1)) z04)) (by rfl) z4c)))))) z10)
   (z05 (zbw (ag 2 z4k.nd z2P (z8m z04)))
   (z05 (z7b (js:=[]) (g:=(.nm 3)) PassesOwn.never rfl (qi_x (qx_v (vg 0 z5n))) (ng 3 z4k.nd z5m) (z08 (z8k (vg 2 z2P) (z00 (z0k q6 (hr.mono (by decide)) z0a (z00 (qx_v (vg 3 z5m)) (z00 (qx_v (vg 2 z2P)) z04)) (glg rfl) z7F) z04))))
   (z08 (z0g (qx_v (vg 2 z2P)))))))
theorem z8Y (F:Fun K "turn_among" "turn_among" z1g f fd):Fk P w K mg base 1 f fd ["start","middle","end"] z3M:=by
 refine fnN F z4h rfl rfl (λcdv A outer s H E hr =>?_);have hu:=hr.units;exact(z05 (z09 (ag 3 z4h.nd z5h (z03 z0L lk2 (z03 z0e lk2 (z07 (qx_v (vg 1 z1K)) z02 (λ_ _=>rfl)) (z07 (qx_v (vg 2 z1J)) z02 (λ_ _=>rfl))) (z03 z0e lk2 (z07 (qx_v (vg 2 z1J)) z02 (λ_ _=>rfl)) (z07 (qx_v (vg 1 z1K)) z02 (λ_ _=>rfl))))))
   (z05 (z09 (ag 4 z4h.nd z5g (z03 z0L lk2 (z03 z0e lk2 (z07 (qx_v (vg 1 z1K)) z02 (λ_ _=>rfl)) (z07 (qx_v (vg 2 z1J)) z02 (λ_ _=>rfl))) (z03 z0e lk2 (z07 (qx_v (vg 2 z1J)) z02 (λ_ _=>rfl)) (z07 (qx_v (vg 1 z1K)) z02 (λ_ _=>rfl))))))
   (z08 (z0g (z03 z19 lk2 (z03 z0L lk2 (z03 z0e lk2 (z07 (qx_v (vg 0 z3X)) z02 (λ_ _=>rfl)) (qx_v (vg 4 z5g))) (z03 z0e lk2 (z07 (qx_v (vg 0 z3X)) z02 (λ_ _=>rfl)) (qx_v (vg 3 z5h)))) (z03 z0e lk2 (z07 (qx_v (vg 0 z3X)) z02 (λ_ _=>rfl)) (z03 z0L lk2 (z03 z0e lk2 (z07 (qx_v (vg 1 z1K)) z02 (λ_ _=>rfl)) (z07 (qx_v (vg 2 z1J)) z02 (λ_ _=>rfl))) (z03 z0e lk2 (z07 (qx_v (vg 1 z1K)) z02 (λ_ _=>rfl)) (z07 (qx_v (vg 2 z1J)) z02 (λ_ _=>rfl))))))))))
theorem zb4 (F:Fun K "chain_of" "chain_of" z2g f fd)(tb:FTab P w K mg base (CXe P w) 1 zhb):Fk P w K mg base 2 f fd ["spots","turn"] z4b:=by
 refine fnN F z5x rfl rfl (λcdv A outer s H E hr =>?_);have hu:=hr.units;exact(z05 (zbw (ag 2 z5x.nd z1V (z8m z04)))
   (z05 (z7b (js:=[]) (g:=(.nm 3)) PassesOwn.never rfl (qi_x (qx_v (vg 0 zae))) (ng 3 z5x.nd z52) (z05 (z8P PassesOwn.never (QW.pt (z4M (z0K (z6W hu) lk2 (z2A z2a lkN (glg rfl) T.n_len z49 (z00 (qx_v (vg 2 z1V)) z04) z3V z47) z02 (z0C _)) (z3B (z0K (zgU hu) lk2 (zeC tb (hr.mono (by decide)) z0a (vg 1 zad) (z00 (z07 (qx_v (vg 2 z1V)) (zeB zbC lk1 z02) (λ_ _=>rfl)) (z00 (z07 (qx_v (vg 2 z1V)) (zeB zbC lk1 z02) (λ_ _=>rfl)) (z00 (qx_v (vg 3 z52)) z04)))) z02 (z0C _))))) (z08 (zhX (vg 2 z1V))))
   (z08 (z8k (vg 2 z1V) (z00 (qx_v (vg 3 z52)) z04)))))
   (z08 (z0g (qx_v (vg 2 z1V))))))
theorem z7R (F:Fun K "least_round" "least_round" z1n f fd)(q8:Cl P w K mg base 2 "chain_of" ["spots","turn"] z4b):Fk P w K mg base 3 f fd ["rising","turn"] z39:=by
 refine fnN F z3R rfl rfl (λcdv A outer s H E hr =>?_);have hu:=hr.units;exact(z05 (z25 (z0K (z7Y hu) lk2 (z2A z2a lkN (glg rfl) T.n_len z49 (z00 (qx_v (vg 0 z2t)) z04) z3V z47) z02 (z0C _)) (z08 (z0g (zd8 z9u lkN (glg rfl) T.n_tuple z7J (z00 (qx_v (vg 0 z2t)) z04) z7j z7z))) z10)
   (z05 (z09 (ag 2 z3R.nd z4P (z0k q8 (hr.mono (by decide)) z0a (z00 (qx_v (vg 0 z2t)) (z00 (qx_v (vg 1 z4Q)) z04)) (glg rfl) z8x)))
   (z05 (z09 (ag 3 z3R.nd z4O (z0k q8 (hr.mono (by decide)) z0a (z00 (QF.qx (z6l rfl (glg rfl) T.n_list (glg rfl) T.n_reversed (z00 (qx_v (vg 0 z2t)) z04))) (z00 (qx_v (vg 1 z4Q)) z04)) (glg rfl) z8x)))
   (z08 (z0g (zd8 z9u lkN (glg rfl) T.n_tuple z7J (z00 (z03 z19 lk2 (zd7 (qx_v (vg 2 z4P)) zaX (z5y (zeB zbC lk1 z02))) (zd7 (qx_v (vg 3 z4O)) zaX (z5y (zeB zbC lk1 z02)))) z04) z7j z7z))))))
theorem z6V (F:Fun K "rising_places" "rising_places" z0A f fd):Fk P w K mg base 1 f fd ["places"] z2y:=by
 exact fnL F z2c T.lam rfl λcdv A outer s H E hr hu hlam=>(z05 (z09 (ag 1 z2c.nd z2G (QF.qx (zch hu rfl (glg rfl) T.n_sorted (glg rfl) T.n_set (z00 (qx_v (vg 0 z6u)) z04)))))
   (z05 (z09 (ag 2 z2c.nd z2F (zgp rfl (glg rfl) T.n_max (QF.qx (z8Q (tg:=(.nm 0)) (ct:=none) rfl (qi_x (qx_v (vg 1 z2G))) rfl (z9v.ok (N':=["place"]) (xn:=["places","apart","great","times"]) (nt:=1) (js:=[]) (osc:=z01 z0A) rfl rfl (by decide +kernel)) rfl (λC s2 H2 fp=>(z9S (i:=0) (show Nd ["place"] from by decide) rfl rfl)) trivial (λC s2 H2 fp=>(z07 (qx_v (qv 0)) z02 (λ_ _=>rfl))))) z02)))
   (z05 (z09 (ag 3 z2c.nd z6t (z03 z0e lk2 (qx_v (vg 2 z2F)) (qx_v (vg 2 z2F)))))
   (z08 (z0g (QF.qx (zeF rfl hr (glg rfl) T.n_sorted hlam (qx_v (vg 1 z2G)) rfl rfl rfl (z9v.ok (N':=["place","times"]) (xn:=["places","apart","great","times"]) (nt:=1) (js:=[3]) (osc:=z01 z0A) rfl rfl (by decide +kernel)) rfl rfl (λ_ _ _ _ _ _ _ _=>rfl) (λ_ _ _ _ _=>(z2m (z00 (z03 z0z lk2 (z03 z0e lk2 (z07 (qx_v (qv 0)) z02 (λ_ _=>rfl)) (qx_v (qv 1))) (z07 (qx_v (qv 0)) z02 (λ_ _=>rfl))) (z00 (z03 z0z lk2 (z03 z0e lk2 (z07 (qx_v (qv 0)) z02 (λ_ _=>rfl)) (qx_v (qv 1))) (z07 (qx_v (qv 0)) z02 (λ_ _=>rfl))) z04)))))))))))
theorem zcl (F:Fun K "area_of" "area_of" z56 f fd)(q9:Cl P w K mg base 3 "least_round" ["rising","turn"] z39)(qa:Cl P w K mg base 1 "turn_among" ["start","middle","end"] z3M)(qb:Cl P w K mg base 1 "rising_places" ["places"] z2y):Fk P w K mg base 4 f fd ["places"] z2W:=by
 refine fnN F zcd rfl rfl (λcdv A outer s H E hr =>?_);have hu:=hr.units;exact(z08 (z0g (z0k q9 (hr.mono (by decide)) z0a (z00 (z0k qb (hr.mono (by decide)) z0a (z00 (qx_v (vg 0 zba)) z04) (glg rfl) z7A) (z00 (zhZ (n:=1) rfl (glg rfl) qa zan) z04)) (glg rfl) z9p)))
theorem z6p (F:Fun K "_law_bearing_by" "_law_bearing_by" z12 f fd)(q4:Cl P w K mg base 1 "_law_mixed" ["cell","k"] z0o):Fk P w K mg base 2 f fd ["cell"] z18:=by
 refine fnN F z1Y rfl rfl (λcdv A outer s H E hr =>?_);have hu:=hr.units;exact(z05 (z09 (ag 1 z1Y.nd z1k (z0k q4 (hr.mono (by decide)) z0a (z00 (qx_v (vg 0 z3K)) (z00 z02 z04)) (glg rfl) z3O)))
   (z05 (z09 (ag 2 z1Y.nd z1M (z2m (z00 (z03 z0L lk2 (z03 z0S lk2 (qx_v (vg 1 z1k)) z02) z02) (z00 (z03 z0L lk2 (z03 z0S lk2 (z03 z0z lk2 (qx_v (vg 1 z1k)) z02) z02) z02) z04)))))
   (z05 (z25 (z0K (z6r hu) lk2 (z03 z0S lk2 (z03 z0z lk2 (qx_v (vg 1 z1k)) z02) z02) z02 (z0C _)) (z08 (z09 (ag 2 z1Y.nd z1M (z2m (z00 (z03 z0L lk2 (z03 z0S lk2 (qx_v (vg 0 z3K)) (z03 z19 lk2 (z03 z0e lk2 z02 (z03 z7i lk2 z02 z02)) z02)) (z03 z7i lk2 z02 z02)) (z00 (z03 z0L lk2 (z03 z0S lk2 (z03 z0z lk2 (qx_v (vg 1 z1k)) z02) z02) z02) z04)))))) z10)
   (z05 (z25 (z0K (z6r hu) lk2 (qx_v (vg 2 z1M)) (z2m (z00 z02 (z00 z02 z04))) (z0C _)) (z08 (z0g (z2m (z00 z02 (z00 z02 z04))))) z10)
   (z08 (z0g (qx_v (vg 2 z1M))))))))
theorem za4 (F:Fun K "_law_along" "_law_along" z1R f fd)(q0:Cl P w K mg base 1 "_law_measure" ["one","other"] z0D):Fk P w K mg base 2 f fd ["bearing","place"] z0b:=by
 refine fnN F z4K rfl rfl (λcdv A outer s H E hr =>?_);have hu:=hr.units;exact(z05 (z09 (ag 2 z4K.nd z4t (z03 z19 lk2 (z03 z0e lk2 (z07 (qx_v (vg 0 z65)) z02 (λ_ _=>rfl)) (z07 (qx_v (vg 1 z38)) z02 (λ_ _=>rfl))) (z03 z0e lk2 (z07 (qx_v (vg 0 z65)) z02 (λ_ _=>rfl)) (z07 (qx_v (vg 1 z38)) z02 (λ_ _=>rfl))))))
   (z05 (z09 (ag 3 z4K.nd z4s (z0k q0 (hr.mono (by decide)) z0a (z00 (qx_v (vg 2 z4t)) (z00 (z07 (qx_v (vg 1 z38)) z02 (λ_ _=>rfl)) z04)) (glg rfl) z48)))
   (z08 (z0g (z2m (z00 (z03 z0z lk2 (qx_v (vg 2 z4t)) (qx_v (vg 3 z4s))) (z00 (z03 z0z lk2 (z07 (qx_v (vg 1 z38)) z02 (λ_ _=>rfl)) (qx_v (vg 3 z4s))) z04)))))))
theorem z7T (F:Fun K "_law_mark_by" "_law_mark_by" z0x f fd)(q1:Cl P w K mg base 2 "_law_lowest" ["x","y","bottom"] z06)(q4:Cl P w K mg base 1 "_law_mixed" ["cell","k"] z0o)(q7:Cl P w K mg base 3 "_law_place_free" ["cell","most"] z0w)(qc:Cl P w K mg base 2 "_law_along" ["bearing","place"] z0b):Fk P w K mg base 4 f fd ["cell","places","bearing","free"] z16:=by
 refine fnN F z0Z rfl rfl (λcdv A outer s H E hr =>?_);have hu:=hr.units;exact(z05 (z25 (QW.pt (z4M (z0K (z6W hu) lk2 (qx_v (vg 3 z4S)) z02 (z0C _)) (z3B (z0K (z6r hu) lk2 (z03 z0S lk2 (qx_v (vg 0 z3o)) z02) z02 (z0C _))))) (z05 (z09 (ag 4 z0Z.nd z0m (z0k q7 (hr.mono (by decide)) z0a (z00 (z03 z0z lk2 (qx_v (vg 0 z3o)) z02) (z00 (qx_v (vg 3 z4S)) z04)) (glg rfl) z4c)))
   (z05 (z09 (ag 4 z0Z.nd z0m (z0k q1 (hr.mono (by decide)) z0a (z00 (z07 (qx_v (vg 4 z0m)) z02 (λ_ _=>rfl)) (z00 z02 (z00 (z07 (qx_v (vg 4 z0m)) z02 (λ_ _=>rfl)) z04))) (glg rfl) z1m)))
   (z08 (z0g (z2m (z00 (z07 (qx_v (vg 4 z0m)) z02 (λ_ _=>rfl)) (z00 (z07 (qx_v (vg 4 z0m)) z02 (λ_ _=>rfl)) z04))))))) z10)
   (z05 (z09 (ag 5 z0Z.nd z0Q (z0k q4 (hr.mono (by decide)) z0a (z00 (qx_v (vg 0 z3o)) (z00 z02 z04)) (glg rfl) z3O)))
   (z05 (z25 (z0K (z6r hu) lk2 (z03 z0S lk2 (qx_v (vg 5 z0Q)) z02) z02 (z0C _)) (z08 (z0g (z0k qc (hr.mono (by decide)) z0a (z00 (qx_v (vg 2 z3n)) (z00 (z07 (qx_v (vg 1 z1u)) (z03 z0S lk2 (z03 z0z lk2 (qx_v (vg 5 z0Q)) z02) (z2A z2a lkN (glg rfl) T.n_len z49 (z00 (qx_v (vg 1 z1u)) z04) z3V z47)) (λ_ _=>rfl)) z04)) (glg rfl) z1x))) z10)
   (z05 (z25 (z0K (z6r hu) lk2 (z03 z0S lk2 (qx_v (vg 5 z0Q)) z02) z02 (z0C _)) (z05 (z09 (ag 6 z0Z.nd z2w (z0k qc (hr.mono (by decide)) z0a (z00 (qx_v (vg 2 z3n)) (z00 (z07 (qx_v (vg 1 z1u)) (z03 z0S lk2 (z03 z0z lk2 (qx_v (vg 5 z0Q)) z02) (z2A z2a lkN (glg rfl) T.n_len z49 (z00 (qx_v (vg 1 z1u)) z04) z3V z47)) (λ_ _=>rfl)) z04)) (glg rfl) z1x)))
   (z05 (z09 (ag 7 z0Z.nd z2v (z0k qc (hr.mono (by decide)) z0a (z00 (qx_v (vg 2 z3n)) (z00 (z07 (qx_v (vg 1 z1u)) (z03 z0S lk2 (z03 z0z lk2 (qx_v (vg 5 z0Q)) z02) (z2A z2a lkN (glg rfl) T.n_len z49 (z00 (qx_v (vg 1 z1u)) z04) z3V z47)) (λ_ _=>rfl)) z04)) (glg rfl) z1x)))
   (z05 (z09 (ag 4 z0Z.nd z0m (z0k q1 (hr.mono (by decide)) z0a (z00 (z03 z19 lk2 (z03 z0e lk2 (z07 (qx_v (vg 6 z2w)) z02 (λ_ _=>rfl)) (z07 (qx_v (vg 7 z2v)) z02 (λ_ _=>rfl))) (z03 z0e lk2 (z07 (qx_v (vg 7 z2v)) z02 (λ_ _=>rfl)) (z07 (qx_v (vg 6 z2w)) z02 (λ_ _=>rfl)))) (z00 z02 (z00 (z03 z0e lk2 (z03 z0e lk2 z02 (z07 (qx_v (vg 6 z2w)) z02 (λ_ _=>rfl))) (z07 (qx_v (vg 7 z2v)) z02 (λ_ _=>rfl))) z04))) (glg rfl) z1m)))
   (z08 (z0g (z2m (z00 (z07 (qx_v (vg 4 z0m)) z02 (λ_ _=>rfl)) (z00 (z07 (qx_v (vg 4 z0m)) z02 (λ_ _=>rfl)) z04)))))))) z10)
   (z05 (z09 (ag 4 z0Z.nd z0m (z0k q1 (hr.mono (by decide)) z0a (z00 (z03 z0L lk2 (z03 z0S lk2 (z03 z0z lk2 (qx_v (vg 5 z0Q)) z02) z02) z02) (z00 z02 (z00 (z03 z19 lk2 z02 (z03 z0S lk2 (z03 z0z lk2 (qx_v (vg 5 z0Q)) z02) z02)) z04))) (glg rfl) z1m)))
   (z08 (z0g (z2m (z00 (z07 (qx_v (vg 4 z0m)) z02 (λ_ _=>rfl)) (z00 (z07 (qx_v (vg 4 z0m)) z02 (λ_ _=>rfl)) z04))))))))))
theorem z5z (F:Fun K "_law_bearing_free" "_law_bearing_free" z0q f fd)(q2:Cl P w K mg base 1 "_law_size" ["many"] z1d)(q3:Cl P w K mg base 1 "_law_digit" ["rest","size"] z0G):Fk P w K mg base 2 f fd ["cell","most"] z0W:=by
 refine fnN F z1B rfl rfl (λcdv A outer s H E hr =>?_);have hu:=hr.units;exact(z05 (z09 (ag 2 z1B.nd z1p (z0k q2 (hr.mono (by decide)) z0a (z00 (z03 z19 lk2 z02 (z03 z0S lk2 (qx_v (vg 0 z35)) (qx_v (vg 1 z34)))) z04) (glg rfl) z7E)))
   (z05 (z09 (ag 3 z1B.nd z23 (z03 z0z lk2 (qx_v (vg 0 z35)) (qx_v (vg 1 z34)))))
   (z05 (z09 (ag 4 z1B.nd z22 (z2m (z00 (z0k q3 (hr.mono (by decide)) z0a (z00 (qx_v (vg 3 z23)) (z00 (qx_v (vg 2 z1p)) z04)) (glg rfl) z3P) (z00 (z0k q3 (hr.mono (by decide)) z0a (z00 (z03 z0z lk2 (qx_v (vg 3 z23)) (z03 z19 lk2 (z03 z0e lk2 z02 (qx_v (vg 2 z1p))) z02)) (z00 (qx_v (vg 2 z1p)) z04)) (glg rfl) z3P) z04)))))
   (z05 (z25 (z0K (z6r hu) lk2 (qx_v (vg 4 z22)) (z2m (z00 z02 (z00 z02 z04))) (z0C _)) (z08 (z0g (z2m (z00 z02 (z00 z02 z04))))) z10)
   (z08 (z0g (qx_v (vg 4 z22))))))))
theorem zdw (F:Fun K "dot_of" "dot_of" z4H f fd):Fk P w K mg base 1 f fd ["one","other"] z71:=by
 refine fnN F zcV rfl rfl (λcdv A outer s H E hr =>?_);have hu:=hr.units;exact(z08 (z0g (z03 z19 lk2 (z03 z0e lk2 (z07 (qx_v (vg 0 z8v)) z02 (λ_ _=>rfl)) (z07 (qx_v (vg 1 z8u)) z02 (λ_ _=>rfl))) (z03 z0e lk2 (z07 (qx_v (vg 0 z8v)) z02 (λ_ _=>rfl)) (z07 (qx_v (vg 1 z8u)) z02 (λ_ _=>rfl))))))
theorem za5 (F:Fun K "beyond_by" "beyond_by" z2k f fd)(qd:Cl P w K mg base 1 "dot_of" ["one","other"] z71):Fk P w K mg base 2 f fd ["place","bearing","most"] z2H:=by
 refine fnN F z9P rfl rfl (λcdv A outer s H E hr =>?_);have hu:=hr.units;exact(z08 (z0g (z03 z0L lk2 (z03 z0e lk2 (z0k qd (hr.mono (by decide)) z0a (z00 (qx_v (vg 1 z9l)) (z00 (qx_v (vg 0 z69)) z04)) (glg rfl) zfp) (z07 (qx_v (vg 2 z68)) z02 (λ_ _=>rfl))) (z03 z0e lk2 (z07 (qx_v (vg 2 z68)) z02 (λ_ _=>rfl)) (z07 (qx_v (vg 0 z69)) z02 (λ_ _=>rfl))))))
theorem z6q (F:Fun K "common_divisor" "common_divisor" z0F f fd):Fk P w K mg base 1 f fd ["one","other"] z1f:=by
 refine fnN F z14 rfl rfl (λcdv A outer s H E hr =>?_);have hu:=hr.units;exact(z05 (z09 (ag 2 z14.nd z1N (z2A zc2 lkN (glg rfl) T.n_abs zfz (z00 (qx_v (vg 0 z67)) z04) zf6 zfq)))
   (z05 (z09 (ag 3 z14.nd z1l (z2A zc2 lkN (glg rfl) T.n_abs zfz (z00 (qx_v (vg 1 z66)) z04) zf6 zfq)))
   (z05 (z8P PassesOwn.never (z0K (zeZ hu) lk2 (qx_v (vg 3 z1l)) z02 (z0C _)) (z05 (z09 (ag 4 z14.nd z3L (z03 z0S lk2 (qx_v (vg 2 z1N)) (qx_v (vg 3 z1l)))))
   (z05 (z09 (ag 2 z14.nd z1N (qx_v (vg 3 z1l))))
   (z08 (z09 (ag 3 z14.nd z1l (qx_v (vg 4 z3L))))))))
   (z08 (z0g (qx_v (vg 2 z1N)))))))
theorem z7g (F:Fun K "lowest_place" "lowest_place" z15 f fd)(qe:Cl P w K mg base 1 "common_divisor" ["one","other"] z1f):Fk P w K mg base 2 f fd ["x","y","bottom"] z2S:=by
 refine fnN F z4J rfl rfl (λcdv A outer s H E hr =>?_);have hu:=hr.units;exact(z05 (z09 (ag 3 z4J.nd z2d (z0k qe (hr.mono (by decide)) z0a (z00 (z0k qe (hr.mono (by decide)) z0a (z00 (qx_v (vg 2 z4z)) (z00 (qx_v (vg 0 z4B)) z04)) (glg rfl) z4D) (z00 (qx_v (vg 1 z4A)) z04)) (glg rfl) z4D)))
   (z08 (z0g (z2m (z00 (z03 z0z lk2 (qx_v (vg 0 z4B)) (qx_v (vg 3 z2d))) (z00 (z03 z0z lk2 (qx_v (vg 1 z4A)) (qx_v (vg 3 z2d))) (z00 (z03 z0z lk2 (qx_v (vg 2 z4z)) (qx_v (vg 3 z2d))) z04)))))))
theorem z7X (F:Fun K "crossing_of" "crossing_of" z0O f fd)(qf:Cl P w K mg base 2 "lowest_place" ["x","y","bottom"] z2S):Fk P w K mg base 3 f fd ["one","one_beyond","other","other_beyond"] z21:=by
 refine fnN F z3T rfl rfl (λcdv A outer s H E hr =>?_);have hu:=hr.units;exact(z05 (z09 (ag 4 z3T.nd z51 (z03 z0L lk2 (z03 z0e lk2 (z07 (qx_v (vg 0 z3t)) z02 (λ_ _=>rfl)) (qx_v (vg 3 z3q))) (z03 z0e lk2 (z07 (qx_v (vg 2 z3r)) z02 (λ_ _=>rfl)) (qx_v (vg 1 z3s))))))
   (z05 (z09 (ag 5 z3T.nd z50 (z03 z0L lk2 (z03 z0e lk2 (z07 (qx_v (vg 0 z3t)) z02 (λ_ _=>rfl)) (qx_v (vg 3 z3q))) (z03 z0e lk2 (z07 (qx_v (vg 2 z3r)) z02 (λ_ _=>rfl)) (qx_v (vg 1 z3s))))))
   (z08 (z0g (z0k qf (hr.mono (by decide)) z0a (z00 (qx_v (vg 4 z51)) (z00 (qx_v (vg 5 z50)) (z00 (z03 z0L lk2 (z03 z0e lk2 (z07 (qx_v (vg 0 z3t)) z02 (λ_ _=>rfl)) (qx_v (vg 3 z3q))) (z03 z0e lk2 (z07 (qx_v (vg 2 z3r)) z02 (λ_ _=>rfl)) (qx_v (vg 1 z3s)))) z04))) (glg rfl) z84)))))
theorem z8Z (F:Fun K "places_cut" "places_cut" z0B f fd)(qg:Cl P w K mg base 2 "beyond_by" ["place","bearing","most"] z2H)(qh:Cl P w K mg base 3 "crossing_of" ["one","one_beyond","other","other_beyond"] z21):Fk P w K mg base 4 f fd ["corners","bearing","most"] z3N:=by
 refine fnN F z1A rfl rfl (λcdv A outer s H E hr =>?_);have hu:=hr.units;exact(z05 (zbw (ag 3 z1A.nd z28 (z8m z04)))
   (z05 (z6X (g:=(.nm 4)) PassesOwn.never rfl (glg rfl) T.n_range (z00 (z2A z2a lkN (glg rfl) T.n_len z49 (z00 (qx_v (vg 0 z3Z)) z04) z3V z47) z04) (ng 4 z1A.nd z3Y) (z05 (z09 (ag 5 z1A.nd z2O (z07 (qx_v (vg 0 z3Z)) (z03 z0L lk2 (qx_v (vg 4 z3Y)) z02) (λ_ _=>rfl))))
   (z05 (z09 (ag 6 z1A.nd z27 (z07 (qx_v (vg 0 z3Z)) (qx_v (vg 4 z3Y)) (λ_ _=>rfl))))
   (z05 (z09 (ag 7 z1A.nd z26 (z0k qg (hr.mono (by decide)) z0a (z00 (qx_v (vg 5 z2O)) (z00 (qx_v (vg 1 z5j)) (z00 (qx_v (vg 2 z5i)) z04))) (glg rfl) z7B)))
   (z05 (z09 (ag 8 z1A.nd z1L (z0k qg (hr.mono (by decide)) z0a (z00 (qx_v (vg 6 z27)) (z00 (qx_v (vg 1 z5j)) (z00 (qx_v (vg 2 z5i)) z04))) (glg rfl) z7B)))
   (z05 (z25 (QW.pt (z4M (z0K (z7Y hu) lk2 (qx_v (vg 7 z26)) z02 (z0C _)) (z3B (z0K (z6W hu) lk2 (qx_v (vg 8 z1L)) z02 (z0C _))))) (z08 (z8k (vg 3 z28) (z00 (z0k qh (hr.mono (by decide)) z0a (z00 (qx_v (vg 5 z2O)) (z00 (qx_v (vg 7 z26)) (z00 (qx_v (vg 6 z27)) (z00 (qx_v (vg 8 z1L)) z04)))) (glg rfl) z6b) z04))) z10)
   (z05 (z25 (QW.pt (z4M (z0K (z6W hu) lk2 (qx_v (vg 7 z26)) z02 (z0C _)) (z3B (z0K (z7Y hu) lk2 (qx_v (vg 8 z1L)) z02 (z0C _))))) (z08 (z8k (vg 3 z28) (z00 (z0k qh (hr.mono (by decide)) z0a (z00 (qx_v (vg 6 z27)) (z00 (qx_v (vg 8 z1L)) (z00 (qx_v (vg 5 z2O)) (z00 (qx_v (vg 7 z26)) z04)))) (glg rfl) z6b) z04))) z10)
   (z08 (z25 (z0K (zgU hu) lk2 (qx_v (vg 8 z1L)) z02 (z0C _)) (z08 (z8k (vg 3 z28) (z00 (qx_v (vg 6 z27)) z04))) z10)))))))))
   (z08 (z0g (qx_v (vg 3 z28))))))
theorem zb5 (F:Fun K "area_cut" "area_cut" z2C f fd)(qi:Cl P w K mg base 4 "area_of" ["places"] z2W)(qj:Cl P w K mg base 4 "places_cut" ["corners","bearing","most"] z3N):Fk P w K mg base 5 f fd ["area","bearing","most"] z1w:=by
 refine fnN F zaT rfl rfl (λcdv A outer s H E hr =>?_);have hu:=hr.units;exact(z08 (z0g (z0k qi (hr.mono (by decide)) z0a (z00 (z0k qj (hr.mono (by decide)) z0a (z00 (qx_v (vg 0 zah)) (z00 (qx_v (vg 1 zag)) (z00 (qx_v (vg 2 zaf)) z04))) (glg rfl) zao) z04) (glg rfl) z7C)))
theorem zb3 (F:Fun K "_law_less" "_law_less" z3i f fd):Fk P w K mg base 1 f fd ["one","other"] z1e:=by
 refine fnN F zaS rfl rfl (λcdv A outer s H E hr =>?_);have hu:=hr.units;exact(z08 (z0g (z7c (z7Y hu) lk2 (z03 z0e lk2 (z07 (qx_v (vg 0 z6L)) z02 (λ_ _=>rfl)) (z07 (qx_v (vg 1 z6K)) z02 (λ_ _=>rfl))) (z03 z0e lk2 (z07 (qx_v (vg 1 z6K)) z02 (λ_ _=>rfl)) (z07 (qx_v (vg 0 z6L)) z02 (λ_ _=>rfl))) (z0C _))))
theorem za2 (F:Fun K "_law_meets" "_law_meets" z0P f fd)(q5:Cl P w K mg base 3 "_law_between" ["one","other","top","bottom"] z0E)(qc:Cl P w K mg base 2 "_law_along" ["bearing","place"] z0b):Fk P w K mg base 4 f fd ["one","other","bearing","most"] z20:=by
 refine fnN F z2V rfl rfl (λcdv A outer s H E hr =>?_);have hu:=hr.units;exact(z05 (z09 (ag 4 z2V.nd z2u (z0k qc (hr.mono (by decide)) z0a (z00 (qx_v (vg 2 z62)) (z00 (qx_v (vg 0 z64)) z04)) (glg rfl) z1x)))
   (z05 (z09 (ag 5 z2V.nd z37 (z0k qc (hr.mono (by decide)) z0a (z00 (qx_v (vg 2 z62)) (z00 (qx_v (vg 1 z63)) z04)) (glg rfl) z1x)))
   (z05 (z09 (ag 6 z2V.nd z61 (z03 z0e lk2 (z03 z0L lk2 (z03 z0e lk2 (z07 (qx_v (vg 3 z4q)) z02 (λ_ _=>rfl)) (z07 (qx_v (vg 4 z2u)) z02 (λ_ _=>rfl))) (z03 z0e lk2 (z07 (qx_v (vg 4 z2u)) z02 (λ_ _=>rfl)) (z07 (qx_v (vg 3 z4q)) z02 (λ_ _=>rfl)))) (z07 (qx_v (vg 5 z37)) z02 (λ_ _=>rfl)))))
   (z05 (z09 (ag 7 z2V.nd z60 (z03 z0e lk2 (z03 z0L lk2 (z03 z0e lk2 (z07 (qx_v (vg 5 z37)) z02 (λ_ _=>rfl)) (z07 (qx_v (vg 4 z2u)) z02 (λ_ _=>rfl))) (z03 z0e lk2 (z07 (qx_v (vg 4 z2u)) z02 (λ_ _=>rfl)) (z07 (qx_v (vg 5 z37)) z02 (λ_ _=>rfl)))) (z07 (qx_v (vg 3 z4q)) z02 (λ_ _=>rfl)))))
   (z08 (z0g (z0k q5 (hr.mono (by decide)) z0a (z00 (qx_v (vg 0 z64)) (z00 (qx_v (vg 1 z63)) (z00 (qx_v (vg 6 z61)) (z00 (qx_v (vg 7 z60)) z04)))) (glg rfl) z5r)))))))
theorem z91 (F:Fun K "_law_points" "_law_points" z0H f fd)(qc:Cl P w K mg base 2 "_law_along" ["bearing","place"] z0b)(qk:Cl P w K mg base 1 "_law_less" ["one","other"] z1e)(ql:Cl P w K mg base 4 "_law_meets" ["one","other","bearing","most"] z20):Fk P w K mg base 5 f fd ["area","bearing","most"] z1O:=by
 refine fnN F z2q rfl rfl (λcdv A outer s H E hr =>?_);have hu:=hr.units;exact(z05 (zbw (zgu (iy:=3) (tg:=(.nm 0)) (ct:=(some _)) z2q.nd rfl rfl rfl (qi_x (qx_v (vg 0 z46))) rfl (z9v.ok (N':=["place","most","bearing"]) (xn:=["area","bearing","most","points","one","other","begins"]) (nt:=1) (js:=[2,1]) (osc:=z01 z0H) rfl rfl (by decide +kernel)) rfl (λC s2 H2 fp=>(z9S (i:=0) (show Nd ["place","most","bearing"] from by decide) rfl rfl)) (λC s2 H2 fp=>(z3l (z2D (z0k qk (hr.mono (by decide)) z0a (z00 (qx_v (qv 1)) (z00 (z0k qc (hr.mono (by decide)) z0a (z00 (qx_v (qv 2)) (z00 (qx_v (qv 0)) z04)) (by rfl) z1x) z04)) (by rfl) z5B)))) (λC s2 H2 fp=>(qx_v (qv 0)))))
   (z05 (z7b (js:=[]) (g:=(.nm 4)) PassesOwn.never rfl (qi_x (qx_v (vg 0 z46))) (ng 4 z2q.nd z43) (z08 (z7b (js:=[]) (g:=(.nm 5)) PassesOwn.never rfl (qi_x (qx_v (vg 0 z46))) (ng 5 z2q.nd z42) (z05 (z09 (ag 6 z2q.nd z5k (z0k qk (hr.mono (by decide)) z0a (z00 (z0k qc (hr.mono (by decide)) z0a (z00 (qx_v (vg 1 z45)) (z00 (qx_v (vg 4 z43)) z04)) (glg rfl) z1x) (z00 (qx_v (vg 2 z44)) z04)) (glg rfl) z5B)))
   (z08 (z25 (QW.pt (z4M (z2D (qx_v (vg 6 z5k))) (z3B (z2D (z0k qk (hr.mono (by decide)) z0a (z00 (qx_v (vg 2 z44)) (z00 (z0k qc (hr.mono (by decide)) z0a (z00 (qx_v (vg 1 z45)) (z00 (qx_v (vg 5 z42)) z04)) (glg rfl) z1x) z04)) (glg rfl) z5B))))) (z08 (z8k (vg 3 z5l) (z00 (z0k ql (hr.mono (by decide)) z0a (z00 (qx_v (vg 4 z43)) (z00 (qx_v (vg 5 z42)) (z00 (qx_v (vg 1 z45)) (z00 (qx_v (vg 2 z44)) z04)))) (glg rfl) zar) z04))) z10))))))
   (z08 (z0g (qx_v (vg 3 z5l))))))
theorem zb1 (F:Fun K "_law_step" "_law_step" z3h f fd):Fk P w K mg base 1 f fd ["one","other"] z0n:=by
 refine fnN F zaR rfl rfl (λcdv A outer s H E hr =>?_);have hu:=hr.units;exact(z08 (z0g (z2m (z00 (z03 z0L lk2 (z03 z0e lk2 (z07 (qx_v (vg 1 z3D)) z02 (λ_ _=>rfl)) (z07 (qx_v (vg 0 z3E)) z02 (λ_ _=>rfl))) (z03 z0e lk2 (z07 (qx_v (vg 0 z3E)) z02 (λ_ _=>rfl)) (z07 (qx_v (vg 1 z3D)) z02 (λ_ _=>rfl)))) (z00 (z03 z0L lk2 (z03 z0e lk2 (z07 (qx_v (vg 1 z3D)) z02 (λ_ _=>rfl)) (z07 (qx_v (vg 0 z3E)) z02 (λ_ _=>rfl))) (z03 z0e lk2 (z07 (qx_v (vg 0 z3E)) z02 (λ_ _=>rfl)) (z07 (qx_v (vg 1 z3D)) z02 (λ_ _=>rfl)))) z04)))))
theorem z94 (F:Fun K "_law_before" "_law_before" z1X f fd)(qm:Cl P w K mg base 1 "_law_step" ["one","other"] z0n):Fk P w K mg base 2 f fd ["one","other"] z1Q:=by
 refine fnN F z5H rfl rfl (λcdv A outer s H E hr =>?_);have hu:=hr.units;exact(z05 (z09 (ag 2 z5H.nd z2R (z0k qm (hr.mono (by decide)) z0a (z00 (qx_v (vg 0 z82)) (z00 (qx_v (vg 1 z81)) z04)) (glg rfl) z2I)))
   (z08 (z0g (zjX (z7c (z6W hu) lk2 (z07 (qx_v (vg 2 z2R)) z02 (λ_ _=>rfl)) z02 (z0C _)) (zbx (zd9 (z7c (z6r hu) lk2 (z07 (qx_v (vg 2 z2R)) z02 (λ_ _=>rfl)) z02 (z0C _)) (zbx (z7c (z6W hu) lk2 (z07 (qx_v (vg 2 z2R)) z02 (λ_ _=>rfl)) z02 (z0C _)))))))))
theorem zb0 (F:Fun K "_law_turn" "_law_turn" z3g f fd):Fk P w K mg base 1 f fd ["one","other"] z1c:=by
 refine fnN F zaQ rfl rfl (λcdv A outer s H E hr =>?_);have hu:=hr.units;exact(z08 (z0g (z03 z0L lk2 (z03 z0e lk2 (z07 (qx_v (vg 0 z6J)) z02 (λ_ _=>rfl)) (z07 (qx_v (vg 1 z6I)) z02 (λ_ _=>rfl))) (z03 z0e lk2 (z07 (qx_v (vg 0 z6J)) z02 (λ_ _=>rfl)) (z07 (qx_v (vg 1 z6I)) z02 (λ_ _=>rfl))))))
theorem zck (F:Fun K "_law_dot" "_law_dot" z4a f fd):Fk P w K mg base 1 f fd ["one","other"] z2z:=by
 refine fnN F zcc rfl rfl (λcdv A outer s H E hr =>?_);have hu:=hr.units;exact(z08 (z0g (z03 z19 lk2 (z03 z0e lk2 (z07 (qx_v (vg 0 z7o)) z02 (λ_ _=>rfl)) (z07 (qx_v (vg 1 z7n)) z02 (λ_ _=>rfl))) (z03 z0e lk2 (z07 (qx_v (vg 0 z7o)) z02 (λ_ _=>rfl)) (z07 (qx_v (vg 1 z7n)) z02 (λ_ _=>rfl))))))
theorem z90 (F:Fun K "_law_within" "_law_within" z1y f fd)(qm:Cl P w K mg base 1 "_law_step" ["one","other"] z0n)(qn:Cl P w K mg base 1 "_law_turn" ["one","other"] z1c)(qo:Cl P w K mg base 1 "_law_dot" ["one","other"] z2z):Fk P w K mg base 2 f fd ["corners","place"] z0V:=by
 refine fnN F z4i rfl rfl (λcdv A outer s H E hr =>?_);have hu:=hr.units;exact(z05 (z25 (z0K (z7Y hu) lk2 (z2A z2a lkN (glg rfl) T.n_len z49 (z00 (qx_v (vg 0 z11)) z04) z3V z47) z02 (z0C _)) (z08 (z0g (z7c (zko hu) lk2 (qx_v (vg 1 z41)) (qx_v (vg 0 z11)) (by with_unfolding_all rfl)))) z10)
   (z05 (z6X (g:=(.nm 2)) PassesOwn.never rfl (glg rfl) T.n_range (z00 (z2A z2a lkN (glg rfl) T.n_len z49 (z00 (qx_v (vg 0 z11)) z04) z3V z47) z04) (ng 2 z4i.nd z29) (z05 (z09 (ag 3 z4i.nd z40 (z0k qm (hr.mono (by decide)) z0a (z00 (z07 (qx_v (vg 0 z11)) (z03 z0L lk2 (qx_v (vg 2 z29)) z02) (λ_ _=>rfl)) (z00 (z07 (qx_v (vg 0 z11)) (qx_v (vg 2 z29)) (λ_ _=>rfl)) z04)) (glg rfl) z2I)))
   (z05 (z25 (z0K (z7Y hu) lk2 (z0k qn (hr.mono (by decide)) z0a (z00 (qx_v (vg 3 z40)) (z00 (z0k qm (hr.mono (by decide)) z0a (z00 (z07 (qx_v (vg 0 z11)) (z03 z0L lk2 (qx_v (vg 2 z29)) z02) (λ_ _=>rfl)) (z00 (qx_v (vg 1 z41)) z04)) (glg rfl) z2I) z04)) (glg rfl) z7D) z02 (z0C _)) (z08 (z0g z5d)) z10)
   (z08 (z25 (QW.pt (z4M (z0K (z6r hu) lk2 (z2A z2a lkN (glg rfl) T.n_len z49 (z00 (qx_v (vg 0 z11)) z04) z3V z47) z02 (z0C _)) (z3B (z0K (z7Y hu) lk2 (z0k qo (hr.mono (by decide)) z0a (z00 (qx_v (vg 3 z40)) (z00 (z0k qm (hr.mono (by decide)) z0a (z00 (z07 (qx_v (vg 0 z11)) (z03 z0L lk2 (qx_v (vg 2 z29)) z02) (λ_ _=>rfl)) (z00 (qx_v (vg 1 z41)) z04)) (glg rfl) z2I) z04)) (glg rfl) zcv) z02 (z0C _))))) (z08 (z0g z5d)) z10)))))
   (z08 (z0g z5d))))
theorem z9Y (F:Fun K "_law_whole" "_law_whole" z3y f fd):Fk P w K mg base 1 f fd ["found"] z1Z:=by
 refine fnN F z9N rfl rfl (λcdv A outer s H E hr =>?_);have hu:=hr.units;exact(z08 (z0g (zd9 (zby (T:="int") (by decide) (glg rfl) T.n_isinstance (qx_v (vg 0 z5U)) (z8S (v :=.ty "int") (glg rfl) T.n_int zkW rfl zkz zkR)) (zbx (zhY (zby (T:="bool") (by decide) (glg rfl) T.n_isinstance (qx_v (vg 0 z5U)) (z8S (v :=.ty "bool") (glg rfl) T.n_bool zjD rfl zj8 zju)))))))
theorem za0 (F:Fun K "_law_place" "_law_place" z2T f fd)(qp:Cl P w K mg base 1 "_law_whole" ["found"] z1Z)(q1:Cl P w K mg base 2 "_law_lowest" ["x","y","bottom"] z06):Fk P w K mg base 3 f fd ["found"] z1v:=by
 refine fnN F z9O rfl rfl (λcdv A outer s H E hr =>?_);have hu:=hr.units;exact(z05 (z25 (QW.pt (z8l (z3l (z2D (zby (T:="tuple") (by decide) (glg rfl) T.n_isinstance (qx_v (vg 0 z1j)) (z8S (v :=.ty "tuple") (glg rfl) T.n_tuple z7J rfl z7j z7z)))) (z8l (z0K (zeZ hu) lk2 (z2A z2a lkN (glg rfl) T.n_len z49 (z00 (qx_v (vg 0 z1j)) z04) z3V z47) z02 (z0C _)) (z7d (z3l (z2D (z2A (zg3 rfl) lkN (glg rfl) T.n_all zjE (z00 (QF.qx (z8Q (tg:=(.nm 0)) (ct:=none) rfl (qi_x (qx_v (vg 0 z1j))) rfl (z9v.ok (N':=["number"]) (xn:=["found"]) (nt:=1) (js:=[]) (osc:=z01 z2T) rfl rfl (by decide +kernel)) rfl (λC s2 H2 fp=>(z9S (i:=0) (show Nd ["number"] from by decide) rfl rfl)) trivial (λC s2 H2 fp=>(z0k qp (hr.mono (by decide)) z0a (z00 (qx_v (qv 0)) z04) (by rfl) zap)))) z04) zj9 zjv))))))) (z08 (z0g z5d)) z10)
   (z08 (z0g (zd9 (z7c (z6W hu) lk2 (z07 (qx_v (vg 0 z1j)) z02 (λ_ _=>rfl)) z02 (z0C _)) (zbx (z7c (z6r hu) lk2 (z0k q1 (hr.mono (by decide)) z0a (z00 (z07 (qx_v (vg 0 z1j)) z02 (λ_ _=>rfl)) (z00 (z07 (qx_v (vg 0 z1j)) z02 (λ_ _=>rfl)) (z00 (z07 (qx_v (vg 0 z1j)) z02 (λ_ _=>rfl)) z04))) (glg rfl) z1m) (qx_v (vg 0 z1j)) (z0C _)))))))
theorem z7U (F:Fun K "_law_corners" "_law_corners" z1o f fd)(qm:Cl P w K mg base 1 "_law_step" ["one","other"] z0n)(qn:Cl P w K mg base 1 "_law_turn" ["one","other"] z1c)(qq:Cl P w K mg base 2 "_law_within" ["corners","place"] z0V)(qr:Cl P w K mg base 3 "_law_place" ["found"] z1v)(qs:Cl P w K mg base 2 "_law_before" ["one","other"] z1Q):Fk P w K mg base 4 f fd ["found"] z1D:=by
 refine fnN F z2K rfl rfl (λcdv A outer s H E hr =>?_);have hu:=hr.units;exact(z05 (z25 (QW.pt (z8l (z3l (z2D (zby (T:="tuple") (by decide) (glg rfl) T.n_isinstance (qx_v (vg 0 z0j)) (z8S (v :=.ty "tuple") (glg rfl) T.n_tuple z7J rfl z7j z7z)))) (z7d (z3l (z2D (z2A (zg3 rfl) lkN (glg rfl) T.n_all zjE (z00 (QF.qx (z8Q (tg:=(.nm 0)) (ct:=none) rfl (qi_x (qx_v (vg 0 z0j))) rfl (z9v.ok (N':=["place"]) (xn:=["found","k","side"]) (nt:=1) (js:=[]) (osc:=z01 z1o) rfl rfl (by decide +kernel)) rfl (λC s2 H2 fp=>(z9S (i:=0) (show Nd ["place"] from by decide) rfl rfl)) trivial (λC s2 H2 fp=>(z0k qr (hr.mono (by decide)) z0a (z00 (qx_v (qv 0)) z04) (by rfl) zaq)))) z04) zj9 zjv)))))) (z08 (z0g z5d)) z10)
   (z05 (zeA (g:=(.nm 1)) PassesOwn.never rfl (glg rfl) T.n_range (z00 z02 (z00 (z2A z2a lkN (glg rfl) T.n_len z49 (z00 (qx_v (vg 0 z0j)) z04) z3V z47) z04)) (ng 1 z2K.nd z0R) (z08 (z25 (z3l (z2D (z0k qs (hr.mono (by decide)) z0a (z00 (z07 (qx_v (vg 0 z0j)) z02 (λ_ _=>rfl)) (z00 (z07 (qx_v (vg 0 z0j)) (qx_v (vg 1 z0R)) (λ_ _=>rfl)) z04)) (glg rfl) z9s))) (z08 (z0g z5d)) z10)))
   (z05 (z25 (z0K (z7Y hu) lk2 (z2A z2a lkN (glg rfl) T.n_len z49 (z00 (qx_v (vg 0 z0j)) z04) z3V z47) z02 (z0C _)) (z08 (z0g z5d)) z10)
   (z05 (z6X (g:=(.nm 1)) PassesOwn.never rfl (glg rfl) T.n_range (z00 (z2A z2a lkN (glg rfl) T.n_len z49 (z00 (qx_v (vg 0 z0j)) z04) z3V z47) z04) (ng 1 z2K.nd z0R) (z05 (z09 (ag 2 z2K.nd z4T (z0k qm (hr.mono (by decide)) z0a (z00 (z07 (qx_v (vg 0 z0j)) (z03 z0L lk2 (qx_v (vg 1 z0R)) z02) (λ_ _=>rfl)) (z00 (z07 (qx_v (vg 0 z0j)) (z03 z0L lk2 (qx_v (vg 1 z0R)) z02) (λ_ _=>rfl)) z04)) (glg rfl) z2I)))
   (z08 (z25 (QW.pt (z8l (z0K (zgU hu) lk2 (z0k qn (hr.mono (by decide)) z0a (z00 (qx_v (vg 2 z4T)) (z00 (z0k qm (hr.mono (by decide)) z0a (z00 (z07 (qx_v (vg 0 z0j)) (z03 z0L lk2 (qx_v (vg 1 z0R)) z02) (λ_ _=>rfl)) (z00 (z07 (qx_v (vg 0 z0j)) (qx_v (vg 1 z0R)) (λ_ _=>rfl)) z04)) (glg rfl) z2I) z04)) (glg rfl) z7D) z02 (z0C _)) (z7d (z3l (z2D (z0k qq (hr.mono (by decide)) z0a (z00 (qx_v (vg 0 z0j)) (z00 (z07 (qx_v (vg 0 z0j)) (qx_v (vg 1 z0R)) (λ_ _=>rfl)) z04)) (glg rfl) z6c)))))) (z08 (z0g z5d)) z10))))
   (z08 (z0g z5d))))))
theorem z9Z (F:Fun K "_law_right" "_law_right" z0Y f fd)(qt:Cl P w K mg base 5 "area_cut" ["area","bearing","most"] z1w)(qq:Cl P w K mg base 2 "_law_within" ["corners","place"] z0V)(qu:Cl P w K mg base 4 "_law_corners" ["found"] z1D)(qw:Cl P w K mg base 5 "_law_points" ["area","bearing","most"] z1O):Fk P w K mg base 6 f fd ["area","bearing","most"] z0M:=by
 refine fnN F z2U rfl rfl (λcdv A outer s H E hr =>?_);have hu:=hr.units;exact(z05 (z09 (ag 3 z2U.nd z36 (z0k qt (hr.mono (by decide)) z0a (z00 (qx_v (vg 0 z5Z)) (z00 (qx_v (vg 1 z5Y)) (z00 (qx_v (vg 2 z5X)) z04))) (glg rfl) z59)))
   (z05 (z09 (ag 4 z2U.nd z4o (z0k qw (hr.mono (by decide)) z0a (z00 (qx_v (vg 0 z5Z)) (z00 (qx_v (vg 1 z5Y)) (z00 (qx_v (vg 2 z5X)) z04))) (glg rfl) z9q)))
   (z05 (z25 (z3l (z2D (z0k qu (hr.mono (by decide)) z0a (z00 (qx_v (vg 3 z36)) z04) (glg rfl) z86))) (z08 (z0g z5d)) z10)
   (z05 (z7b (js:=[]) (g:=(.nm 5)) PassesOwn.never rfl (qi_x (qx_v (vg 3 z36))) (ng 5 z2U.nd z5W) (z08 (z25 (z0K (zeY hu) lk2 (qx_v (vg 5 z5W)) (qx_v (vg 4 z4o)) (by with_unfolding_all rfl)) (z08 (z0g z5d)) z10)))
   (z05 (z7b (js:=[]) (g:=(.nm 6)) PassesOwn.never rfl (qi_x (qx_v (vg 4 z4o))) (ng 6 z2U.nd z5V) (z08 (z25 (z3l (z2D (z0k qq (hr.mono (by decide)) z0a (z00 (qx_v (vg 3 z36)) (z00 (qx_v (vg 6 z5V)) z04)) (glg rfl) z6c))) (z08 (z0g z5d)) z10)))
   (z08 (z0g z5d)))))))
theorem ziG (F:Fun K "law" "law" z3j f fd)(qi:Cl P w K mg base 4 "area_of" ["places"] z2W)(qt:Cl P w K mg base 5 "area_cut" ["area","bearing","most"] z1w)(qy:Cl P w K mg base 1 "_law_cell_at" ["script","k"] z1E)(qz:Cl P w K mg base 5 "_law_places" ["cells","free"] z1P)(q0:Cl P w K mg base 2 "_law_bearing_by" ["cell"] z18)(q1:Cl P w K mg base 2 "_law_bearing_free" ["cell","most"] z0W)(q2:Cl P w K mg base 4 "_law_mark_by" ["cell","places","bearing","free"] z16)(q3:Cl P w K mg base 6 "_law_right" ["area","bearing","most"] z0M):Fk P w K mg base 7 f fd ["script"] z7w:=by
 refine fnN F z3z rfl rfl (λcdv A outer s H E hr =>?_);have hu:=hr.units;exact(z05 (z09 (ag 1 z3z.nd z7q (z0k qy (hr.mono (by decide)) z0a (z00 (qx_v (vg 0 zdQ)) (z00 z02 z04)) (glg rfl) z87)))
   (z05 (z09 (ag 2 z3z.nd z7p (z03 z0e lk2 z02 (z03 z0S lk2 (qx_v (vg 1 z7q)) z02))))
   (z05 (z09 (ag 3 z3z.nd z4u (z03 z19 lk2 (QF.qx (z8m (z00 (z03 z0z lk2 (qx_v (vg 1 z7q)) z02) z04))) (zd7 (qx_v (vg 0 zdQ)) (z5y z02) (z5y z02)))))
   (z05 (z09 (ag 4 z3z.nd z9j (z2A (zhh rfl) lkN (glg rfl) T.n_min zkV (z00 z02 (z00 (z03 z0z lk2 (z03 z19 lk2 (z2A z2a lkN (glg rfl) T.n_len z49 (z00 (qx_v (vg 3 z4u)) z04) z3V z47) z02) z02) z04)) zky zkQ)))
   (z05 (z09 (ag 5 z3z.nd zb9 (z0k qz (hr.mono (by decide)) z0a (z00 (zd7 (qx_v (vg 3 z4u)) zaX (z5y (qx_v (vg 4 z9j)))) (z00 (qx_v (vg 2 z7p)) z04)) (glg rfl) z9r)))
   (z05 (z09 (ag 6 z3z.nd z6v (z0k qi (hr.mono (by decide)) z0a (z00 (zd8 z9u lkN (glg rfl) T.n_tuple z7J (z00 (qx_v (vg 5 zb9)) z04) z7j z7z) z04) (glg rfl) z7C)))
   (z05 (z09 (ag 3 z3z.nd z4u (z03 z19 lk2 (zd7 (qx_v (vg 3 z4u)) (z5y (qx_v (vg 4 z9j))) (z5y (z03 z19 lk2 (qx_v (vg 4 z9j)) z02))) (QF.qx (z8m (z00 (qx_v (vg 1 z7q)) (z00 (qx_v (vg 1 z7q)) z04)))))))
   (z05 (z7b (js:=[]) (g:=(.nm 7)) PassesOwn.never rfl (zcg (glg rfl) T.n_range (z00 z02 (z00 (z03 z0L lk2 (z2A z2a lkN (glg rfl) T.n_len z49 (z00 (qx_v (vg 3 z4u)) z04) z3V z47) z02) (z00 z02 z04)))) (ng 7 z3z.nd z9i) (z05 (z09 (ag 8 z3z.nd z4Z (z0k q0 (hr.mono (by decide)) z0a (z00 (z07 (qx_v (vg 3 z4u)) (qx_v (vg 7 z9i)) (λ_ _=>rfl)) z04) (glg rfl) z6z)))
   (z05 (z25 (z0K (z6W hu) lk2 (qx_v (vg 2 z7p)) z02 (z0C _)) (z08 (z09 (ag 8 z3z.nd z4Z (z0k q1 (hr.mono (by decide)) z0a (z00 (z07 (qx_v (vg 3 z4u)) (qx_v (vg 7 z9i)) (λ_ _=>rfl)) (z00 (qx_v (vg 2 z7p)) z04)) (glg rfl) z5C)))) z10)
   (z05 (z09 (ag 9 z3z.nd z4Y (z0k q2 (hr.mono (by decide)) z0a (z00 (z07 (qx_v (vg 3 z4u)) (z03 z19 lk2 (qx_v (vg 7 z9i)) z02) (λ_ _=>rfl)) (z00 (qx_v (vg 5 zb9)) (z00 (qx_v (vg 8 z4Z)) (z00 (qx_v (vg 2 z7p)) z04)))) (glg rfl) z85)))
   (z05 (z09 (ag 10 z3z.nd z9k (z2m (z00 (z03 z0L lk2 z02 (z07 (qx_v (vg 8 z4Z)) z02 (λ_ _=>rfl))) (z00 (z03 z0L lk2 z02 (z07 (qx_v (vg 8 z4Z)) z02 (λ_ _=>rfl))) z04)))))
   (z05 (z25 (QW.pt (z8l (z3l (z2D (z0k q3 (hr.mono (by decide)) z0a (z00 (qx_v (vg 6 z6v)) (z00 (qx_v (vg 8 z4Z)) (z00 (qx_v (vg 9 z4Y)) z04))) (glg rfl) z6N))) (z7d (z3l (z2D (z0k q3 (hr.mono (by decide)) z0a (z00 (qx_v (vg 6 z6v)) (z00 (qx_v (vg 10 z9k)) (z00 (z2m (z00 (z03 z0L lk2 z02 (z07 (qx_v (vg 9 z4Y)) z02 (λ_ _=>rfl))) (z00 (z07 (qx_v (vg 9 z4Y)) z02 (λ_ _=>rfl)) z04))) z04))) (glg rfl) z6N)))))) (z08 (z0g z5d)) z10)
   (z05 (z09 (ag 11 z3z.nd zbO (z03 z19 lk2 (z0k qt (hr.mono (by decide)) z0a (z00 (qx_v (vg 6 z6v)) (z00 (qx_v (vg 8 z4Z)) (z00 (qx_v (vg 9 z4Y)) z04))) (glg rfl) z59) (z0k qt (hr.mono (by decide)) z0a (z00 (qx_v (vg 6 z6v)) (z00 (qx_v (vg 10 z9k)) (z00 (z2m (z00 (z03 z0L lk2 z02 (z07 (qx_v (vg 9 z4Y)) z02 (λ_ _=>rfl))) (z00 (z07 (qx_v (vg 9 z4Y)) z02 (λ_ _=>rfl)) z04))) z04))) (glg rfl) z59))))
   (z08 (z25 (QW.pt (z8l (z0K (zeZ hu) lk2 (z0k qi (hr.mono (by decide)) z0a (z00 (qx_v (vg 11 zbO)) z04) (glg rfl) z7C) (qx_v (vg 6 z6v)) (z0C _)) (z7d (z0K (zeZ hu) lk2 (z0k qt (hr.mono (by decide)) z0a (z00 (z2m z04) (z00 (qx_v (vg 8 z4Z)) (z00 (qx_v (vg 9 z4Y)) z04))) (glg rfl) z59) (z2m z04) (z0C _))))) (z08 (z0g z5d)) z10)))))))))
   (z08 (z0g z5d))))))))))
end
def zjH {l:PySem.W.OpenLaw}{w:World}{K:W.Frag}{h:Heap}{mg:Str->Option Value}{fa f0 f1 f2 f3 f4 f5 f6 f7 f8 f9 f10 f11 f12 f13 f14 f15 f16 f17 f18 f19 f20 f21 f22 f23 f24 f25 f26 f27 f28 f29 f30 f31 f32 f33 f34 f35 f36 f37 f38:Addr}(X:K.In h)(G:h.Ns mainGlobals mg)(hfa:mg "law"=some (.ref fa))
  (d0:Std K "_law_cell_at" z24 f0)
  (d1:Std K "_law_size" z2B f1)
  (d2:Std K "_law_digit" z2j f2)
  (d3:Std K "_law_measure" z1H f3)
  (d4:Std K "_law_lowest" z1z f4)
  (d5:Std K "_law_place_free" z0u f5)
  (d6:Std K "_law_mixed" z2i f6)
  (d7:Std K "_law_between" z0N f7)
  (d8:Std K "_law_place_by" z0p f8)
  (d9:Std K "_law_places" z1h f9)
  (d10:Std K "turn_among" z1g f10)
  (d11:Std K "chain_of" z2g f11)
  (d12:Std K "least_round" z1n f12)
  (d13:Std K "rising_places" z0A f13)
  (d14:Std K "area_of" z56 f14)
  (d15:Std K "_law_bearing_by" z12 f15)
  (d16:Std K "_law_along" z1R f16)
  (d17:Std K "_law_mark_by" z0x f17)
  (d18:Std K "_law_bearing_free" z0q f18)
  (d19:Std K "dot_of" z4H f19)
  (d20:Std K "beyond_by" z2k f20)
  (d21:Std K "common_divisor" z0F f21)
  (d22:Std K "lowest_place" z15 f22)
  (d23:Std K "crossing_of" z0O f23)
  (d24:Std K "places_cut" z0B f24)
  (d25:Std K "area_cut" z2C f25)
  (d26:Std K "_law_less" z3i f26)
  (d27:Std K "_law_meets" z0P f27)
  (d28:Std K "_law_points" z0H f28)
  (d29:Std K "_law_step" z3h f29)
  (d30:Std K "_law_before" z1X f30)
  (d31:Std K "_law_turn" z3g f31)
  (d32:Std K "_law_dot" z4a f32)
  (d33:Std K "_law_within" z1y f33)
  (d34:Std K "_law_whole" z3y f34)
  (d35:Std K "_law_place" z2T f35)
  (d36:Std K "_law_corners" z1o f36)
  (d37:Std K "_law_right" z0Y f37)
  (d38:Std K "law" z3j f38)
  (z_abs:PySem.W.nsIn K mainGlobals "abs"=some none)
  (z_all:PySem.W.nsIn K mainGlobals "all"=some none)
  (z_bool:PySem.W.nsIn K mainGlobals "bool"=some none)
  (z_int:PySem.W.nsIn K mainGlobals "int"=some none)
  (z_isinstance:PySem.W.nsIn K mainGlobals "isinstance"=some none)
  (z_len:PySem.W.nsIn K mainGlobals "len"=some none)
  (z_list:PySem.W.nsIn K mainGlobals "list"=some none)
  (z_max:PySem.W.nsIn K mainGlobals "max"=some none)
  (z_min:PySem.W.nsIn K mainGlobals "min"=some none)
  (z_range:PySem.W.nsIn K mainGlobals "range"=some none)
  (z_reversed:PySem.W.nsIn K mainGlobals "reversed"=some none)
  (z_set:PySem.W.nsIn K mainGlobals "set"=some none)
  (z_sorted:PySem.W.nsIn K mainGlobals "sorted"=some none)
  (z_tuple:PySem.W.nsIn K mainGlobals "tuple"=some none)
  (z_fnturn_by:PySem.W.nsIn K mainGlobals "turn_by"=some none)
  (z_fnstep_of:PySem.W.nsIn K mainGlobals "step_of"=some none)
  (z_fnstep_among:PySem.W.nsIn K mainGlobals "step_among"=some none)
  (z_fn:PySem.W.nsIn K mainGlobals ""=some none)
  (ff_lam:zbL K=true)
  : ∃fd:FuncData,(∀(s:Shared) (v:Value),BindsTo s fd ⟨[v],[]⟩ [("script",v)])/\∀base:Heap,K.In base->base.Ns mainGlobals mg->FnOk l.prog w K mg base (CXe l.prog w) 7 fa fd ["script"] (spL K):=by
 have T:Txt K mg:=⟨trivial,PySem.W.mg_none_of X G z_abs,PySem.W.mg_none_of X G z_all,PySem.W.mg_none_of X G z_bool,PySem.W.mg_none_of X G z_int,PySem.W.mg_none_of X G z_isinstance,PySem.W.mg_none_of X G z_len,PySem.W.mg_none_of X G z_list,PySem.W.mg_none_of X G z_max,PySem.W.mg_none_of X G z_min,PySem.W.mg_none_of X G z_range,PySem.W.mg_none_of X G z_reversed,PySem.W.mg_none_of X G z_set,PySem.W.mg_none_of X G z_sorted,PySem.W.mg_none_of X G z_tuple,ff_lam⟩
 refine zht X G d38 hfa (λ_ _ _ _ _ _ s v =>.of_eq rfl) λbase kb nb fd F =>?_;have q4:Cl l.prog w K mg base _ _ _ _:=z0J X G d0 (by walk_at "c2") λ_ F=>z7V T F;have q5:Cl l.prog w K mg base _ _ _ _:=z0J X G d1 (by walk_at "c1") λ_ F=>zb2 T F;have q6:Cl l.prog w K mg base _ _ _ _:=z0J X G d2 (by walk_at "c2") λ_ F=>za3 T F;have q7:Cl l.prog w K mg base _ _ _ _:=z0J X G d3 (by walk_at "c2") λ_ F=>z7S T F;have q8:Cl l.prog w K mg base _ _ _ _:=z0J X G d4 (by walk_at "c3") λ_ F=>z93 T F q7;have q9:Cl l.prog w K mg base _ _ _ _:=z0J X G d5 (by walk_at "c2") λ_ F=>z6o T F q8 q5 q6;have qA:Cl l.prog w K mg base _ _ _ _:=z0J X G d6 (by walk_at "c2") λ_ F=>za1 T F;have qB:Cl l.prog w K mg base _ _ _ _:=z0J X G d7 (by walk_at "c4") λ_ F=>z7W T F q8;have qC:Cl l.prog w K mg base _ _ _ _:=z0J X G d8 (by walk_at "c2") λ_ F=>z7h T F q8 qA qB;have qD:Cl l.prog w K mg base _ _ _ _:=z0J X G d9 (by walk_at "c2") λ_ F=>z92 T F qC q9;have qE:Cl l.prog w K mg base _ _ _ _:=z0J X G d10 (by walk_at "c3") λ_ F=>z8Y T F;have FT:FTab l.prog w K mg base (CXe l.prog w) 1 zhb:=FTab.mk (PySem.W.mg_none_of X G z_fn) λn hn f e=>by
  match n,hn with
  | 0,_=>rw[show z6M 0="turn_by" from rfl,PySem.W.mg_none_of X G z_fnturn_by] at e; cases e
  | 1,_=>exact qE.tab (by decide) f e
  | 2,_=>rw[show z6M 2="step_of" from rfl,PySem.W.mg_none_of X G z_fnstep_of] at e; cases e
  | 3,_=>rw[show z6M 3="step_among" from rfl,PySem.W.mg_none_of X G z_fnstep_among] at e; cases e
 have qF:Cl l.prog w K mg base _ _ _ _:=z0J X G d11 (by walk_at "c2") λ_ F=>zb4 T F FT;have qG:Cl l.prog w K mg base _ _ _ _:=z0J X G d12 (by walk_at "c2") λ_ F=>z7R T F qF;have qH:Cl l.prog w K mg base _ _ _ _:=z0J X G d13 (by walk_at "c1") λ_ F=>z6V T F;have qI:Cl l.prog w K mg base _ _ _ _:=z0J X G d14 (by walk_at "c1") λ_ F=>zcl T F qG qE qH;have qJ:Cl l.prog w K mg base _ _ _ _:=z0J X G d15 (by walk_at "c1") λ_ F=>z6p T F qA;have qK:Cl l.prog w K mg base _ _ _ _:=z0J X G d16 (by walk_at "c2") λ_ F=>za4 T F q7;have qL:Cl l.prog w K mg base _ _ _ _:=z0J X G d17 (by walk_at "c4") λ_ F=>z7T T F q8 qA q9 qK;have qM:Cl l.prog w K mg base _ _ _ _:=z0J X G d18 (by walk_at "c2") λ_ F=>z5z T F q5 q6;have qN:Cl l.prog w K mg base _ _ _ _:=z0J X G d19 (by walk_at "c2") λ_ F=>zdw T F;have qO:Cl l.prog w K mg base _ _ _ _:=z0J X G d20 (by walk_at "c3") λ_ F=>za5 T F qN;have qP:Cl l.prog w K mg base _ _ _ _:=z0J X G d21 (by walk_at "c2") λ_ F=>z6q T F;have qQ:Cl l.prog w K mg base _ _ _ _:=z0J X G d22 (by walk_at "c3") λ_ F=>z7g T F qP;have qR:Cl l.prog w K mg base _ _ _ _:=z0J X G d23 (by walk_at "c4") λ_ F=>z7X T F qQ;have qS:Cl l.prog w K mg base _ _ _ _:=z0J X G d24 (by walk_at "c3") λ_ F=>z8Z T F qO qR;have qT:Cl l.prog w K mg base _ _ _ _:=z0J X G d25 (by walk_at "c3") λ_ F=>zb5 T F qI qS;have qU:Cl l.prog w K mg base _ _ _ _:=z0J X G d26 (by walk_at "c2") λ_ F=>zb3 T F;have qV:Cl l.prog w K mg base _ _ _ _:=z0J X G d27 (by walk_at "c4") λ_ F=>za2 T F qB qK;have qW:Cl l.prog w K mg base _ _ _ _:=z0J X G d28 (by walk_at "c3") λ_ F=>z91 T F qK qU qV;have qX:Cl l.prog w K mg base _ _ _ _:=z0J X G d29 (by walk_at "c2") λ_ F=>zb1 T F;have qY:Cl l.prog w K mg base _ _ _ _:=z0J X G d30 (by walk_at "c2") λ_ F=>z94 T F qX;have qZ:Cl l.prog w K mg base _ _ _ _:=z0J X G d31 (by walk_at "c2") λ_ F=>zb0 T F;have y0:Cl l.prog w K mg base _ _ _ _:=z0J X G d32 (by walk_at "c2") λ_ F=>zck T F;have y1:Cl l.prog w K mg base _ _ _ _:=z0J X G d33 (by walk_at "c2") λ_ F=>z90 T F qX qZ y0;have y2:Cl l.prog w K mg base _ _ _ _:=z0J X G d34 (by walk_at "c1") λ_ F=>z9Y T F;have y3:Cl l.prog w K mg base _ _ _ _:=z0J X G d35 (by walk_at "c1") λ_ F=>za0 T F y2 q8;have y4:Cl l.prog w K mg base _ _ _ _:=z0J X G d36 (by walk_at "c1") λ_ F=>z7U T F qX qZ y1 y3 qY;have y5:Cl l.prog w K mg base _ _ _ _:=z0J X G d37 (by walk_at "c3") λ_ F=>z9Z T F qT y1 y4 qW;exact zjd zh1 (ziG T F qI qT q4 qD qJ qM qL y5)
def walk {l:PySem.W.OpenLaw}{q:Program}{loose:List Str}{XP:(Str->Option Value)->Heap->Prop}{YP:World->Heap->Prop}{d:DefRec}{K:Params->W.Frag}(hn:l.most=some 63)(hdf:d.params.defaults=[])
  (hY:∀(w:World) (h:Heap),YP w h->(K w.params).In h) (hT:∀(w:World) (h:Heap),YP w h->∀P t,(tsOf (K w.params)).lookup P=some t->h.get? P=some { cls :=.none,data :=.fields #[] })
  (F:∀(w:World) (mg:Str->Option Value) (fa:Addr) (h:Heap),(K w.params).In h->h.Ns mainGlobals mg->mg d.name=some (.ref fa)->
   ∃fd:FuncData,(∀(s:Shared) (u:Value),BindsTo s fd ⟨[u],[]⟩ [("script",u)])/\∀base:Heap,(K w.params).In base->base.Ns mainGlobals mg->FnOk l.prog w (K w.params) mg base (CXe l.prog w) 7 fa fd ["script"] (spL (K w.params))):
  PySem.W.WalkO q loose XP YP l.row.toRowW d [] (λf vs=>PySem.call f vs):=
 L2.zg5 (n:=63) (k:=7) (x:="script") (CX:=λw=>(CXe l.prog w)) (sp:=λw=>spL (K w.params)) hn (by decide) hdf ⟨rfl,by decide,by decide⟩ hY hT F (λ_ _ a ns hl hS=>⟨a,ns,rfl,hS,hl,λ_=>rfl⟩) λ_ _ _ _ _ ⟨_,_,_,_,_,_,_,_,_,z⟩=>z
end My
open PySem PySem.W PyProof.Rows
local macro_rules | `(tactic| walk_at "ks") => `(tactic| (refine' Pu.Std.mk ?a ?l ?c ?k; (case a=>k_is); (case l=>k_is); (case c=>k_is); (case k=>k_is)))
set_option maxRecDepth 100000 in
set_option maxHeartbeats 0 in
theorem PySem.Challenge.cw_closehaul_k38_whole_areas_cut_holds : PySem.Challenge.rw_closehaul_k38_whole_areas_cut.Holds := by
 w_on; o_law; k_head; (case hw=>w_witness2)
 k_fill
 refine My.walk (l:=PySem.Challenge.rw_closehaul_k38_whole_areas_cut) rfl rfl (λw h Y=>PySem.W.km_in_of Y) (λw h Y=>Pu.zgc Y (by kernel_rfl)) ?F
 case F=>
  intro w mg fa h KX G hmg;refine' My.zjH KX G hmg ?d0 ?d1 ?d2 ?d3 ?d4 ?d5 ?d6 ?d7 ?d8 ?d9 ?d10 ?d11 ?d12 ?d13 ?d14 ?d15 ?d16 ?d17 ?d18 ?d19 ?d20 ?d21 ?d22 ?d23 ?d24 ?d25 ?d26 ?d27 ?d28 ?d29 ?d30 ?d31 ?d32 ?d33 ?d34 ?d35 ?d36 ?d37 ?d38 ?z_abs ?z_all ?z_bool ?z_int ?z_isinstance ?z_len ?z_list ?z_max ?z_min ?z_range ?z_reversed ?z_set ?z_sorted ?z_tuple ?z_fnturn_by ?z_fnstep_of ?z_fnstep_among ?z_fn ?ff_lam
  (case d0=>walk_at "ks")
  (case d1=>walk_at "ks")
  (case d2=>walk_at "ks")
  (case d3=>walk_at "ks")
  (case d4=>walk_at "ks")
  (case d5=>walk_at "ks")
  (case d6=>walk_at "ks")
  (case d7=>walk_at "ks")
  (case d8=>walk_at "ks")
  (case d9=>walk_at "ks")
  (case d10=>walk_at "ks")
  (case d11=>walk_at "ks")
  (case d12=>walk_at "ks")
  (case d13=>walk_at "ks")
  (case d14=>walk_at "ks")
  (case d15=>walk_at "ks")
  (case d16=>walk_at "ks")
  (case d17=>walk_at "ks")
  (case d18=>walk_at "ks")
  (case d19=>walk_at "ks")
  (case d20=>walk_at "ks")
  (case d21=>walk_at "ks")
  (case d22=>walk_at "ks")
  (case d23=>walk_at "ks")
  (case d24=>walk_at "ks")
  (case d25=>walk_at "ks")
  (case d26=>walk_at "ks")
  (case d27=>walk_at "ks")
  (case d28=>walk_at "ks")
  (case d29=>walk_at "ks")
  (case d30=>walk_at "ks")
  (case d31=>walk_at "ks")
  (case d32=>walk_at "ks")
  (case d33=>walk_at "ks")
  (case d34=>walk_at "ks")
  (case d35=>walk_at "ks")
  (case d36=>walk_at "ks")
  (case d37=>walk_at "ks")
  (case d38=>walk_at "ks")
  (case z_abs=>k_is)
  (case z_all=>k_is)
  (case z_bool=>k_is)
  (case z_int=>k_is)
  (case z_isinstance=>k_is)
  (case z_len=>k_is)
  (case z_list=>k_is)
  (case z_max=>k_is)
  (case z_min=>k_is)
  (case z_range=>k_is)
  (case z_reversed=>k_is)
  (case z_set=>k_is)
  (case z_sorted=>k_is)
  (case z_tuple=>k_is)
  (case z_fnturn_by=>k_is)
  (case z_fnstep_of=>k_is)
  (case z_fnstep_among=>k_is)
  (case z_fn=>k_is)
  (case ff_lam=>kernel_rfl)
