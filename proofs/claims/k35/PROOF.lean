import PyProof.Rows.All
import Wide.All
import OpenK.AllK
import Wide.FinOn
import Lean
import PyProof.EqAt
import PyProof.EqKinds
import PyProof.TupleCall
import PyProof.Rows.SortRuns
import KE.KRevIter
import PyProof.SetRoads
import PyProof.ListNew
import PyProof.Rows.ListMulPlace
import PyProof.ZipIter
import PyProof.Rows.ZipGen
import PyProof.Rows.SumGenD
import PySem.Challenge.RW_closehaul_k35_least_corners
namespace PySem.W.Fast
def tw3641260454957496869:=0
def tw14111436737647868612:=0
def tw11439583866546366592:=0
def tw11943819940716792032:=0
def tw9008664198792363607:=0
def tw734625227895326979:=0
def tw7088010304454311152:=0
def tw6892289601597044708:=0
def tw422253067870917403:=0
def tw16314989283341371906:=0
def tw13583398706106173310:=0
def tw6916709362147724472:=0
def tw14828574572401307651:=0
def tw16708558709140371342:=0
def tw13033808054079697877:=0
def tw9155785243256308250:=0
def tw6653126566450214070:=0
def tw8185305310215070128:=0
def tw8258120186883555777:=0
def tw10405053195011164841:=0
def tw11381872782917740431:=0
def tw14365454380086693012:=0
def tw2012592436426563144:=0
def tw10910256564242611062:=0
def tw1184596564863310627:=0
def tw13529848117086298300:=0
def tw3089265452084576099:=0
def tw12909895034774355869:=0
def tw13896412904252379902:=0
def tw8280118939257847277:=0
def tw12954420955212851576:=0
def tw4750222317358806680:=0
def tw16961486558659542638:=0
def tw7483207062872647511:=0
def tw3450196354998243283:=0
def tw4948935278143568272:=0
def tw14055509932505551144:=0
def tw6340468033784753805:=0
def tw9081779214665046715:=0
def tw5334659485091286723:=0
def tw13678992756170289735:=0
def tw12280386543020895172:=0
def tw12128609911763367442:=0
def tw13388326046293679222:=0
def tw12838818119432436877:=0
def tw8422425721056044200:=0
def tw13582950944071248449:=0
def tw4837244386944375146:=0
def tw6509794279668763089:=0
def tw11367232759620475238:=0
def tw2311193512118305185:=0
def tw11237487471640325427:=0
def tw8585831144554387467:=0
def tw14941817320358981802:=0
def tw5668642286390919358:=0
def tw880288763799873367:=0
def tw7508285296122897906:=0
def tw12787758637009713311:=0
def tw3226614216664707068:=0
def tw978296293494621549:=0
def tw3848008271535990352:=0
def tw8387804617679893616:=0
def tw18301284183704574596:=0
def tw8900060852291150155:=0
def tw385106425214409008:=0
def tw6128087351572940000:=0
def tw12938902874529152345:=0
def tw1811172171332653887:=0
def tw14670917491919342381:=0
def tw518437728314680247:=0
def tw9382304169809505000:=0
def tw18315803781845869414:=0
def tw8903022538365453611:=0
def tw1970855638244432396:=0
def tw17778284763819124555:=0
def tw10084424314976663650:=0
def tw16656216102304023678:=0
def tw17493265780028478628:=0
def tw17080463807517630270:=0
def tw6412853287313546641:=0
def tw14121940294949102360:=0
def tw73529763578966173:=0
def tw1493941841383936197:=0
def tw13666150780657833760:=0
def tw1245026928740626350:=0
def tw4609416108227438950:=0
def tw1717361635394900817:=0
def tw8703389119742831239:=0
def tw2329456324726363186:=0
def tw3792157953112116424:=0
def tw14861778888763201942:=0
def tw1142683606615958478:=0
def tw12936525236804889315:=0
def tw15256049237296676708:=0
def tw16623636118722002994:=0
def tw17487207634759676409:=0
def tw13836207585399504928:=0
def tw232739183104980721:=0
def tw7001335626031738542:=0
def tw16507323869733266034:=0
def tw3210122089408997987:=0
def tw1944310405485005769:=0
def tw17167816942630067652:=0
def tw2332808468885948989:=0
def tw17944446471064946617:=0
def tw7236399965843985735:=0
def tw16596749561983845011:=0
def tw13602677045539654645:=0
def tw17376079757526327978:=0
def tw8110304557106650149:=0
def tw14849507271918758191:=0
def tw1572305254212155774:=0
def tw10307749893427928025:=0
def tw7166633279511690731:=0
def tw9991601708034952743:=0
def tw944941511735762797:=0
def tw873973509079716977:=0
def tw8157170211683751987:=0
def tw7987486312271837117:=0
def tw7695863925702631925:=0
def tw6854960262844022760:=0
def tw6574317021805486894:=0
def tw5763542010173873286:=0
def tw5698933660141920834:=0
def tw5556085092635328609:=0
def tw515658085335317757:=0
def tw480530600233595341:=0
def tw3988422822993850562:=0
def tw3970655614493803879:=0
def tw3910308752600872873:=0
def tw3789367785270007038:=0
def tw252079905056849113:=0
def tw2311784460092735630:=0
def tw1950184434361486028:=0
def tw18432263229771305461:=0
def tw17559297872444458556:=0
def tw16746169669684915102:=0
def tw16244148141320774206:=0
def tw15885262654085280609:=0
def tw15221465911213791333:=0
def tw14771123305332653409:=0
def tw14740353679338668299:=0
def tw14392659907943807245:=0
def tw13988136425128816727:=0
def tw13551166927385964760:=0
def tw13468370482089603013:=0
def tw12499601746042168328:=0
def tw12403896823378707376:=0
def tw12315355860598410440:=0
def tw12047598290617036999:=0
def tw11634471007857689862:=0
def tw11411421655776019595:=0
def tw11380463439789185141:=0
def tw11155422072790304459:=0
def tw10856028217225808764:=0
def tw10593492456319635901:=0
def tw10513038719634599560:=0
def tw10421364968230985125:=0
def tw10108567609631090872:=0
def tw10068853522304687862:=0
end PySem.W.Fast
noncomputable section
set_option Elab.async false
set_option linter.all false
set_option maxRecDepth 100000
namespace L2
open PySem PySem.Spec PyProof.Rows
abbrev Key:=Sum Int Str
def zgX:Key->Value->Bool
 | .inl k,v=>Value.isInt k v
 | .inr x,v=>Value.isStrOf x v
def keyH (w:World):Key->Int
 | .inl k=>hashInt k
 | .inr x=>hashStr w x
def z13:∀ {k:Key}{v:Value},zgX k v=true->(∃ i t,k=Sum.inl i/\v=Value.int i t)\/(∃ x t,k=Sum.inr x/\v=Value.str x t)
 | .inl i,v,h=>by
  obtain⟨t,e⟩:=Value.isInt_shape (k:=i) (v:=v) h
  exact .inl ⟨i,t,rfl,e⟩
 | .inr x,v,h=>by
  obtain⟨t,e⟩:=Value.isStrOf_shape (x:=x) (v:=v) h
  exact .inr ⟨x,t,rfl,e⟩
def zgW (a b:Int):decide ((Sum.inl a:Key)=Sum.inl b)=(a == b):=by
 by_cases e:a=b
 ·subst e; simp
 ·have h:¬ (Sum.inl a:Key)=Sum.inl b:=fun q=>e (Sum.inl.inj q)
  rw[decide_eq_false h]
  exact(beq_eq_false_iff_ne.mpr e).symm
def zgT (a b:Str):decide ((Sum.inr a:Key)=Sum.inr b)=decide (a=b):=by
 by_cases e:a=b
 ·subst e; simp
 ·have h:¬ (Sum.inr a:Key)=Sum.inr b:=fun q=>e (Sum.inr.inj q)
  rw[decide_eq_false h,decide_eq_false e]
def zgV (a:Int)(b:Str):decide ((Sum.inl a:Key)=Sum.inr b)=false:=decide_eq_false (fun q=>nomatch q)
def zgU (a:Str)(b:Int):decide ((Sum.inr a:Key)=Sum.inl b)=false:=decide_eq_false (fun q=>nomatch q)
def zbj (prog:Program)(w:World):PySem.KeyKind prog w Key where
 is:=zgX
 hash:=keyH w
 inj:=fun v a b ha hb=>by
  rcases z13 ha with ⟨i,t,rfl,rfl⟩ | ⟨x,t,rfl,rfl⟩
  ·rcases z13 hb with ⟨j,u,rfl,e⟩ | ⟨y,u,rfl,e⟩
   ·injection e with e1 _; rw[e1]
   ·exact nomatch e
  ·rcases z13 hb with ⟨j,u,rfl,e⟩ | ⟨y,u,rfl,e⟩
   ·exact nomatch e
   ·injection e with e1 _; rw[e1]
 byValue:=fun k v h=>by
  rcases z13 h with ⟨i,t,rfl,rfl⟩ | ⟨x,t,rfl,rfl⟩ <;> rfl
 pyHash:=fun hv h=>by
  rcases z13 hv with ⟨i,t,rfl,rfl⟩ | ⟨x,t,rfl,rfl⟩
  ·exact wpAny_pyHash_int h
  ·exact wpAny_pyHash_str h
 eqBool:=fun hu hv h=>by
  rcases z13 hu with ⟨i,t,rfl,rfl⟩ | ⟨x,t,rfl,rfl⟩
  ·rcases z13 hv with ⟨j,u,rfl,rfl⟩ | ⟨y,u,rfl,rfl⟩
   ·rw[zgW] at h; exact wpAny_eqBool_int h
   ·rw[zgV] at h; exact SeqAt.EqAt.int_str i t y u _ _ _ _ h
  ·rcases z13 hv with ⟨j,u,rfl,rfl⟩ | ⟨y,u,rfl,rfl⟩
   ·rw[zgU] at h; exact SeqAt.EqAt.str_int x t j u _ _ _ _ h
   ·rw[zgT] at h; exact wpAny_eqBool_str h
 «strs»:=fun k x t v h=>by
  rcases z13 h with ⟨i,u,rfl,e⟩ | ⟨y,u,rfl,e⟩
  ·exact nomatch e
  ·injection e with e1 _
   subst e1
   cases v <;> rfl
inductive V where
 | non | bl (b:Bool) | int (i:Int) | str (x:Str) | byt (b:Array UInt8) | flt (b:UInt64) | ref (a:Addr) | ty (n:String)
 deriving DecidableEq
def RelV:V->Value->Prop
 | .non,u=>u=Value.none
 | .bl b,u=>u=Value.bool b
 | .int i,u=>∃ t,u=Value.int i t
 | .str x,u=>∃ t,u=Value.str x t
 | .byt b,u=>∃ t,u=Value.bytes b t
 | .flt b,u=>∃ t,u=Value.float b t
 | .ref a,u=>u=Value.ref a
 | .ty n,u=>u=Value.type n
abbrev Vals:List V->List Value->Prop:=Paired RelV
def Vals.length {xs:List V}{us:List Value}(r:Vals xs us):xs.length=us.length:=Paired.length r
def Vals.get:∀ {xs:List V}{us:List Value}{i:Nat}{x:V},Vals xs us->xs[i]? = some x->∃ u,us[i]? = some u/\RelV x u
 | _,_,_,_,.nil,e=>by simp at e
 | _,_,0,_,.cons r _,e=>by simp at e; subst e; exact⟨_,rfl,r⟩
 | _,_,i+1,x,.cons _ t,e=>by
  obtain⟨u,h1,h2⟩:=Vals.get (i:=i) (x:=x) t (by simpa using e)
  exact⟨u,by simpa using h1,h2⟩
def Vals.append:∀ {xs ys:List V}{us ws:List Value},Vals xs us->Vals ys ws->Vals (xs++ys) (us++ws)
 | _,_,_,_,.nil,s=>s
 | _,_,_,_,.cons r t,s =>.cons r (Vals.append t s)
def Vals.take:∀ {xs:List V}{us:List Value}(n:Nat),Vals xs us->Vals (xs.take n) (us.take n)
 | _,_,0,_ =>.nil
 | _,_,_+1,.nil =>.nil
 | _,_,n+1,.cons r t =>.cons r (Vals.take n t)
def Vals.drop:∀ {xs:List V}{us:List Value}(n:Nat),Vals xs us->Vals (xs.drop n) (us.drop n)
 | _,_,0,r=>r
 | _,_,_+1,.nil =>.nil
 | _,_,n+1,.cons _ t=>Vals.drop n t
def Vals.none_of:∀ {xs:List V}{us:List Value}{i:Nat},Vals xs us->xs[i]? = none->us[i]? = none:=fun {xs us i} r e=>by
 have h1:=r.length
 have h2:xs.length<=i:=List.getElem?_eq_none_iff.mp e
 exact List.getElem?_eq_none_iff.mpr (by omega)
def RelO:Option V->Option Value->Prop
 | some v,some u=>RelV v u
 | none,none=>True
 | _,_=>False
def KV {κ:Type}:List (κ × V)->List (κ × Value)->Prop:=Paired fun(p:κ × V) (q:κ × Value)=>p.1=q.1/\RelV p.2 q.2
def kV:Key->V
 | .inl i =>.int i
 | .inr x =>.str x
inductive HO where
 | lst (xs:List V)
 | tup (xs:List V)
 | dK (kvs:List (Key × V)) | dT (kvs:List (List Key × V))
 | set (S:Int->Bool) (n:Nat)
 | ins (C dx:Addr) (fs:List (Str × V))
 | own (x:Addr)
 | xd (fs:List (Str × V))
 | met (f x:Addr)
 | rng (lo hi:Int)
 | frz (o:Obj) (u:HO)
 | tbl (ps:Array Value)
 | ext (φ:Heap->Prop)
abbrev Hp:=Addr->Option HO
def upd (H:Hp)(a:Addr)(o:HO):Hp:=fun b=>if b=a then some o else H b
def z0i {H:Hp}{a:Addr}{o:HO}:upd H a o a=some o:=by unfold upd; rw[if_pos rfl]
def z09 {H:Hp}{a b:Addr}{o:HO}(h:b≠a):upd H a o b=H b:=by unfold upd; rw[if_neg h]
def z0t {H:Hp}{a b:Addr}{o:HO}(h:H a=some o)(h':H b=none):a≠b:=by
 intro e; subst e; rw[h] at h'; cases h'
def NoD (h:Heap)(a:Addr):Prop:=∃ o,h.get? a=some o/\o.dict=none
def ziD (H:Hp)(h:Heap)(a:Addr)(ps:Array Value):Prop:=h.get? a=some { cls :=.none,data :=.fields #[] }\/
 ∃ (l c:Value) (q:Str) (t:Tok) (c':Addr) (o:Obj) (vs:Array Value) (u:Tok),ps[0]? = some l/\ps[1]? = some c/\ps[2]? = some (.str q t)/\h.get? a=some { cls :=.none,data :=.fields #[l,c,.ref c'] }/\H c'=some (.frz o (.own c'))/\o.data = .fields vs/\vs[1]? = some (.str q u)
section
variable (P:Program)(w:World)
def z1K (H:Hp)(h:Heap)(a:Addr):HO->Prop
 | .lst xs=>xs.length<=sizeLine/\∃ (its:List Value) (n:Nat),Vals xs its/\h.get? a=some { cls :=.type "list",data :=.seq its.toArray n }
 | .tup xs=>xs.length<=sizeLine/\∃ its:List Value,Vals xs its/\IsTup h a its.toArray/\NoD h a
 | .dK kvs=>kvs.length<=sizeLine/\(a == sysModules)=false/\∃ vs,KV kvs vs/\h.DictOf (zbj P w) a vs
 | .dT kvs=>kvs.length<=sizeLine/\(a == sysModules)=false/\∃ xs:List (List Key × Addr × Value),
   Paired (fun(p:List Key × V) (q:List Key × Addr × Value)=>p.1=q.1/\H q.2.1=some (.tup (p.1.map kV))/\RelV p.2 q.2.2) kvs xs/\
   ∃ o es ep,h.get? a=some o/\o.ExactDict/\o.data = .dict es ep/\es.toList=xs.map (entryOfKey (tupleKind (zbj P w)))/\(xs.map (·.1)).Nodup
 | .set S n=>h.SetOf (intKind P w) a S n
 | .ins C dx fs=>H dx=some (.own a)/\fs.length<=1000/\dx≠a/\h.get? a=some (PySem.W.instObj C dx)/\
   ∃ mA,h.Ns1 dx mA/\(∀ f,RelO (fs.lookup f) (mA f))/\PySem.Within mA (fs.map (·.1))
 | .own _=>∃ o,h.get? a=some o
 | .xd fs=>∃ mA,h.Ns1 a mA/\∀ f,RelO (fs.lookup f) (mA f)
 | .rng lo hi=>∃ t u v,h.get? a=some { cls :=.type "range",data :=.fields #[.int lo t,.int hi u,.int 1 v] }
 | .frz o u=>h.get? a=some o/\z1K H h a u
 | .tbl ps=>ziD H h a ps
 | .met f x=>h.get? a=some (PySem.W.methodObj (.ref f) (.ref x))
 | .ext φ=>φ h/\(∃ o,h.get? a=some o)/\∀ h1 h2:Heap,φ h1->(∀ o,h1.get? a=some o->h2.get? a=some o)->φ h2
def HOk (H:Hp)(h:Heap):Prop:=∀ a o,H a=some o->z1K P w H h a o
end
section
variable {P:Program}{w:World}{H H':Hp}{h h':Heap}{a:Addr}{o:HO}
def z1K.lt (x:z1K P w H h a o):a < h.objs.size:=by
 cases o with
 | lst xs=>obtain⟨_,_,_,_,e⟩:=x; exact Heap.lt_size e
 | tup xs=>obtain⟨_,_,_,p,_⟩:=x; exact p.lt
 | dK kvs=>obtain⟨_,_,_,_,o,_,_,e,_⟩:=x; exact Heap.lt_size e
 | dT kvs=>obtain⟨_,_,_,_,o,_,_,e,_⟩:=x; exact Heap.lt_size e
 | set S n=>obtain⟨o,_,_,_,e,_⟩:=x; exact Heap.lt_size e
 | ins C dx fs=>obtain⟨_,_,_,e,_⟩:=x; exact Heap.lt_size e
 | own y=>obtain⟨_,e⟩:=x; exact Heap.lt_size e
 | xd fs=>obtain⟨_,⟨_,_,_,e,_⟩,_⟩:=x; exact Heap.lt_size e
 | rng lo hi=>obtain⟨_,_,_,e⟩:=x; exact Heap.lt_size e
 | frz ob u=>obtain⟨e,_⟩:=x; exact Heap.lt_size e
 | tbl ps=>rcases x with e | ⟨_,_,_,_,_,_,_,_,_,_,_,e,_⟩ <;> exact Heap.lt_size e
 | met f y=>exact Heap.lt_size (show h.get? a=some _ from x)
 | ext φ=>obtain⟨_,⟨_,e⟩,_⟩:=x; exact Heap.lt_size e
def Paired.mapP {α β:Type}{F G:α->β->Prop}:∀ {l₁:List α} {l₂:List β},Paired F l₁ l₂->(∀ a b,F a b->G a b)->Paired G l₁ l₂
 | _,_,.nil,_ =>.nil
 | _,_,.cons r t,f =>.cons (f _ _ r) (Paired.mapP t f)
def z1K.stay (x:z1K P w H h a o)(k:∀ b u,(b=a\/H b=some (.own a))->h.get? b=some u->h'.get? b=some u)
  (ho:∀ b,H b=some (.own a)->H' b=some (.own a)) (ht:∀ b xs,H b=some (.tup xs)->H' b=some (.tup xs)) (hf:∀ b o u,H b=some (.frz o u)->H' b=some (.frz o u):=by first | exact fun _ _ _ q=>q | exact fun c _ _ q=>by rw[z09 (z0t q (by assumption))]; exact q):z1K P w H' h' a o:=by
 induction o with
 | lst xs=>obtain⟨z,its,n,r,e⟩:=x; exact⟨z,its,n,r,k _ _ (.inl rfl) e⟩
 | tup xs=>obtain⟨z,its,r,⟨ob,e,c⟩,od,ed,cd⟩:=x; exact⟨z,its,r,⟨ob,k _ _ (.inl rfl) e,c⟩,od,k _ _ (.inl rfl) ed,cd⟩
 | dK kvs=>obtain⟨z,y,vs,r,ob,es,ep,e,c⟩:=x; exact⟨z,y,vs,r,ob,es,ep,k _ _ (.inl rfl) e,c⟩
 | dT kvs=>
  obtain⟨z,y,xs,r,ob,es,ep,e,c⟩:=x
  exact⟨z,y,xs,Paired.mapP r fun p q z=>⟨z.1,ht _ _ z.2.1,z.2.2⟩,ob,es,ep,k _ _ (.inl rfl) e,c⟩
 | set S n=>obtain⟨ob,es,ep,t,e,c⟩:=x; exact⟨ob,es,ep,t,k _ _ (.inl rfl) e,c⟩
 | ins C dx fs=>
  obtain⟨d,z,ne,e,mA,⟨od,es,ep,e2,c⟩,r⟩:=x
  exact⟨ho _ d,z,ne,k _ _ (.inl rfl) e,mA,⟨od,es,ep,k _ _ (.inr d) e2,c⟩,r⟩
 | own y=>obtain⟨ob,e⟩:=x; exact⟨ob,k _ _ (.inl rfl) e⟩
 | xd fs=>obtain⟨mA,⟨od,es,ep,e,c⟩,r⟩:=x; exact⟨mA,⟨od,es,ep,k _ _ (.inl rfl) e,c⟩,r⟩
 | rng lo hi=>obtain⟨t,u,v,e⟩:=x; exact⟨t,u,v,k _ _ (.inl rfl) e⟩
 | frz ob u ih=>obtain⟨e,q⟩:=x; exact⟨k _ _ (.inl rfl) e,ih q⟩
 | tbl ps=>
  rcases x with e | ⟨l,c,q,t,c',ob,vs,u,e1,e2,e3,e,ec,r⟩
  ·exact .inl (k a _ (.inl rfl) e)
  ·exact .inr ⟨l,c,q,t,c',ob,vs,u,e1,e2,e3,k a _ (.inl rfl) e,hf _ _ _ ec,r⟩
 | met f y=>
  have e:h.get? a=some (PySem.W.methodObj (.ref f) (.ref y)):=x
  show h'.get? a=some (PySem.W.methodObj (.ref f) (.ref y))
  exact k a _ (.inl rfl) e
 | ext φ=>obtain⟨p,⟨o,e⟩,st⟩:=x; exact⟨st _ _ p fun o q=>k _ _ (.inl rfl) q,⟨o,k _ _ (.inl rfl) e⟩,st⟩
def HOk.lt (x:HOk P w H h)(e:H a=some o):a < h.objs.size:=(x a o e).lt
def HOk.fresh (x:HOk P w H h)(e:h.objs.size<=a):H a=none:=by
 cases q:H a with
 | none=>rfl
 | some u=>exact absurd (Nat.lt_of_lt_of_le (x.lt q) e) (Nat.lt_irrefl _)
def HOk.kept (x:HOk P w H h)(k:∀ b u,h.get? b=some u->h'.get? b=some u):HOk P w H h':=fun a o e=>
 (x a o e).stay (fun b u _ q=>k b u q) (fun _ q=>q) fun _ _ q=>q
def HOk.laid (x:HOk P w H h)(k:∀ b u,h.get? b=some u->h'.get? b=some u)(hp:h.objs.size<=a)(new:z1K P w (upd H a o) h' a o):HOk P w (upd H a o) h':=fun b u e=>by
 have hn:=x.fresh hp
 by_cases hb:b=a
 ·subst hb; rw[z0i] at e; cases e; exact new
 ·rw[z09 hb] at e
  exact(x b u e).stay (fun c v _ q=>k c v q) (fun c q=>by rw[z09 (z0t q hn)]; exact q) fun c xs q=>by rw[z09 (z0t q hn)]; exact q
end
def Rd (H:Hp)(a:Addr)(u:HO):Prop:=H a=some u\/∃ o,H a=some (.frz o u)
def Rd.ok {P:Program}{w:World}{H:Hp}{h:Heap}{a:Addr}{u:HO}(r:Rd H a u)(x:HOk P w H h):z1K P w H h a u:=by
 rcases r with r | ⟨o,r⟩
 ·exact x a u r
 ·obtain⟨_,q⟩:=x a _ r
  exact q
def Mut:Option HO->Prop
 | some (.lst _)=>True
 | some (.dK _)=>True
 | some (.dT _)=>True
 | some (.set _ _)=>True
 | some (.ins _ _ _)=>True
 | some (.ext _)=>True
 | _=>False
section
variable {P:Program}{w:World}{H:Hp}{h h':Heap}{x e:Addr}{o':HO}
def HOk.write (ok:HOk P w H h)(mu:Mut (H x))(he:e=x\/H e=some (.own x))(k:∀ b u,b≠e->h.get? b=some u->h'.get? b=some u)(heo:∃ u,h'.get? e=some u)
  (new:z1K P w (upd H x o') h' x o'):HOk P w (upd H x o') h':=fun b u q=>by
 have nown:∀ c y,H c=some (.own y)->c≠x:=fun c y r z=>by subst z; rw[r] at mu; exact mu
 have ntup:∀ c xs,H c=some (.tup xs)->c≠x:=fun c xs r z=>by subst z; rw[r] at mu; exact mu
 by_cases hb:b=x
 ·subst hb; rw[z0i] at q; cases q; exact new
 ·rw[z09 hb] at q
  by_cases hbe:b=e
  ·have q':H b=some (.own x):=by
    rcases he with z | z
    ·exact absurd (hbe.trans z) hb
    ·rw[hbe]; exact z
   rw[q] at q'; cases q'
   obtain⟨v,hv⟩:=heo
   exact⟨v,by rw[hbe]; exact hv⟩
  ·refine(ok b u q).stay (fun c v hc r=>k c v ?_ r) (fun c r=>by rw[z09 (nown c b r)]; exact r) (fun c xs r=>by rw[z09 (ntup c xs r)]; exact r) fun c o u r=>by rw[z09 (fun z=>by subst z; rw[r] at mu; exact mu)]; exact r
   rcases hc with rfl | hc
   ·exact hbe
   ·rintro rfl
    rcases he with z | z
    ·exact nown c b hc z
    ·rw[hc] at z; cases z; exact hb rfl
end
structure Un (fs ex:List Addr)(H H':Hp)(h h':Heap):Prop where
 keep:∀ b o,h.get? b=some o->H b=none->b ∉ fs->b ∉ ex->h'.get? b=some o
 slot:∀ b o,h.get? b=some o->H b=none->b∈fs->b ∉ ex->∃ sl,h'.get? b=some { o with slots:=sl }
 free:∀ b o,h.get? b=some o->H b=none->b ∉ ex->H' b=none
 there:∀ b o,h.get? b=some o->b ∉ ex->∃ o',h'.get? b=some o'
 tups:∀ b xs,H b=some (.tup xs)->H' b=some (.tup xs)
 frzs:∀ b o u,H b=some (.frz o u)->H' b=some (.frz o u)
 tbls:∀ b ps,H b=some (.tbl ps)->∃ more,H' b=some (.tbl (ps++more))
section
variable {fs fs' ex ex':List Addr}{H H1 H2:Hp}{h h1 h2 h':Heap}{a x e:Addr}{o:HO}
def Un.any (u:Un fs ex H H1 h h1){b:Addr}{ob:Obj}(q:h.get? b=some ob)(n:H b=none)(hx:b ∉ ex):∃ sl,h1.get? b=some { ob with slots:=sl }:=by
 by_cases hb:b∈fs
 ·exact u.slot b ob q n hb hx
 ·exact⟨ob.slots,u.keep b ob q n hb hx⟩
def Un.kept (k:∀ b u,h.get? b=some u->h'.get? b=some u):Un fs ex H H h h':=
 ⟨fun b ob q _ _ _=>k b ob q,fun b ob q _ _ _=>⟨ob.slots,k b ob q⟩,fun _ _ _ n _=>n,fun b ob q _=>⟨ob,k b ob q⟩,fun _ _ q=>q,fun _ _ _ q=>q,fun _ ps q=>⟨#[],by rw[q]; simp⟩⟩
def Un.refl:Un fs ex H H h h:=Un.kept fun _ _ q=>q
def Un.laid (k:∀ b u,h.get? b=some u->h'.get? b=some u)(hp:h.objs.size<=a)(hn:H a=none):Un fs ex H (upd H a o) h h' where
 keep:=fun b u q _ _ _=>k b u q
 slot:=fun b u q _ _ _=>⟨u.slots,k b u q⟩
 free:=fun b u q n _=>by rw[z09 (Nat.ne_of_lt (Nat.lt_of_lt_of_le (Heap.lt_size q) hp))]; exact n
 there:=fun b u q _=>⟨u,k b u q⟩
 tups:=fun b xs q=>by rw[z09 (z0t q hn)]; exact q
 frzs:=fun b u xs q=>by rw[z09 (z0t q hn)]; exact q
 tbls:=fun b ps q=>⟨#[],by rw[z09 (z0t q hn),q]; simp⟩
def Un.write (mu:Mut (H x))(he:e=x\/H e=some (.own x))(k:∀ b u,b≠e->h.get? b=some u->h'.get? b=some u)(heo:∃ u,h'.get? e=some u):Un fs ex H (upd H x o) h h':=by
 have hx:∀ b,H b=none->b≠x:=fun b n z=>by subst z; rw[n] at mu; exact mu
 have hb:∀ b,H b=none->b≠e:=fun b n z=>by
  subst z
  rcases he with r | r
  ·exact hx b n r
  ·rw[n] at r; cases r
 have hm:∀ b u,H b=some u->¬ Mut (some u)->b≠x:=fun b u q nm z=>by subst z; rw[q] at mu; exact nm mu
 refine⟨fun b u q n _ _=>k b u (hb b n) q,fun b u q n _ _=>⟨u.slots,k b u (hb b n) q⟩,fun b u q n _=>by rw[z09 (hx b n)]; exact n,fun b u q _ => ?_,
  fun b xs q=>by rw[z09 (hm b _ q fun z=>z)]; exact q,fun b u xs q=>by rw[z09 (hm b _ q fun z=>z)]; exact q,fun b ps q=>⟨#[],by rw[z09 (hm b _ q fun z=>z),q]; simp⟩⟩
 by_cases hbe:b=e
 ·subst hbe; exact heo
 ·exact⟨u,k b u hbe q⟩
end
def trk (h:Heap)(H:Hp):List Addr:=(List.range h.objs.size).filter fun a=>(H a).isSome
def hidT (h:Heap)(H:Hp):Heap:=PySem.W.hideAll h (trk h H)
def zbw (h:Heap)(H:Hp):(hidT h H).objs.size=h.objs.size:=PySem.W.hideAll_size _ _
def z70 {h:Heap}{H:Hp}{b:Addr}{o:Obj}(e:h.get? b=some o)(n:H b=none):(hidT h H).get? b=some o:=
 PySem.W.hideAll_get _ e fun hm=>by
  have q:(H b).isSome=true:=(List.mem_filter.mp hm).2
  rw[n] at q; simp at q
def zev {h:Heap}{H:Hp}{b:Addr}{o:Obj}(e:(hidT h H).get? b=some o):h.get? b=some o/\H b=none:=by
 have e':h.get? b=some o:=PySem.W.of_hideAll (trk h H) e
 refine⟨e',?_⟩
 cases q:H b with
 | none=>rfl
 | some x=>
  have hm:b∈trk h H:=List.mem_filter.mpr ⟨List.mem_range.mpr (Heap.lt_size e'),by simp[q]⟩
  have z:(hidT h H).get? b=none:=PySem.W.hideAll_none (trk h H) hm
  rw[z] at e; cases e
def zeV (g h:Heap)(L:Addr):List (Addr × Obj):=(List.range h.objs.size).filterMap fun a=>if a=L\/(g.get? a).isSome=true then none else (h.get? a).map fun o=>(a,o)
def rest (g h:Heap)(L d:Addr):List (Addr × Obj):=(zeV g h L).filter fun p=>decide (p.1≠d)
def BmAt (mg:Str->Option Value)(h:Heap):Prop:=∃ bm ob,mg "__builtins__"=some (.ref bm)/\bm≠builtinsNs/\h.get? bm=some ob/\ob.cls = .type "module"/\ob.dict=some builtinsNs/\ob.data = .plain
def z9B (fd:FuncData):Option Pos:=match fd.body with
 | .stmts b=>(match b.getLast? with
  | some (.Return (some (.Call _ _ [⟨_,.Lambda _ _ _ pos,_⟩] _)) _)=>some pos
  | _=>none)
 | _=>none
def z8x (K:W.Frag)(c:Addr):Option Addr:=match K.lookup c with
 | some ⟨.type "code",_,.fields vs,_⟩=>(match (vs[11]? : Option Value) with | some (.ref P)=>if (K.lookup P).isNone then some P else none | _=>none)
 | _=>none
def tsOf (K:W.Frag):List (Addr × Nat × Nat × Str):=K.filterMap fun p=>match p.2.data with
 | .func fd=>(match z9B fd,fd.code with
  | some pos,.ref c=>(z8x K c).map fun P=>(P,pos.line,pos.col,fd.qualname++".<locals>."++"<lambda>")
  | _,_=>none)
 | _=>none
def encT (t:Nat × Nat × Str):Array Value := #[rawInt t.1,rawInt t.2.1,.str t.2.2 0]
def Tbs (K:W.Frag)(H:Hp):Prop:=∀ P t,(tsOf K).lookup P=some t->∃ more,H P=some (.tbl (encT t++more))
structure Mod (K:W.Frag)(mg:Str->Option Value)(base:Heap):Prop where
 kin:K.In base
 glob:base.Ns mainGlobals mg
 blt:∃ mb,base.Ns builtinsNs mb/\∀ x:Str,x≠"__name__"->mb x=bootBuiltins x
 nolimit:base.NoLimit
 bm:BmAt mg base
structure Cx where
 prog:Program
 w:World
 K:W.Frag
 mg:Str->Option Value
 base:Heap
 A:Around
 N:List Str
 s₀:Shared
 H₀:Hp
 env:Env
 outer:List Env
 stack:List Env
 ex:List Addr
 fn:Str->Bool
 calm:Bool
 pn:List (Addr × Obj)
 xe:Value->Shared->Prop
def frs (l:List Env):List Addr:=l.filterMap (·.frame)
abbrev Cx.fs (X:Cx):List Addr:=frs X.outer
def Vis (sc:Scope)(x:Str):Prop:=sc.names.lookup x=some .local\/sc.names.lookup x=some .cell\/sc.names.lookup x=some .free
def Loc (sc:Scope)(x:Str):Prop:=sc.names.lookup x=some .local\/sc.names.lookup x=some .cell
def Look (env:Env)(h:Heap)(m:Str->Option Value)(x:Str)(u:Value):Prop:=
 (env.kindOf x=some .local/\m x=some u)\/((env.kindOf x=some .cell\/env.kindOf x=some .free)/\∃ c,env.cells.lookup x=some c/\h.IsCell c (some u))
structure Cx.Ok (X:Cx):Prop where
 mod:Mod X.K X.mg X.base
 kind:X.env.scope.kind = .function
 glob:X.env.globals=mainGlobals
 blt:X.env.builtins=builtinsNs
 above:X.s₀.heap.objs.size<=X.env.locals
 inj:∀ x y c,X.env.cells.lookup x=some c->X.env.cells.lookup y=some c->x=y
 has:∀ x,(X.env.kindOf x=some .cell\/X.env.kindOf x=some .free)->∃ c,X.env.cells.lookup x=some c
 cab:∀ x c,X.fn x=true->X.env.cells.lookup x=some c->X.s₀.heap.objs.size<=c
 hd:X.calm=true->X.A.handled=none
 frames:X.A.frames=some X.stack
 stk:X.stack=X.outer\/(X.stack=X.env::X.outer/\X.env.frame=some X.env.locals)
 exf:∀ b∈X.ex,b≠X.env.locals/\∀ x c,X.env.cells.lookup x=some c->c≠b
 bs:∀ b o,X.base.get? b=some o->X.s₀.heap.get? b=some o/\X.H₀ b=none
 bsz:X.base.objs.size<=X.s₀.heap.objs.size
 noex:∀ b o,X.base.get? b=some o->b ∉ X.ex
 exfs:∀ b∈X.ex,b ∉ X.fs
 funs:X.s₀.heap.FunFrames X.base X.outer
 frf:∀ b∈X.fs,X.H₀ b=none
 tbs:Tbs X.K X.H₀
structure Inv (X:Cx)(pins:List (Addr × Obj))(σ:List (Option V))(H:Hp)(s:Shared):Prop where
 ok:X.Ok
 os:s.os=X.s₀.os
 bare:AllBare s.gens
 base:Un X.fs X.ex X.H₀ H X.s₀.heap s.heap
 loc:∃ m,s.heap.Ns X.env.locals m/\∀ (i:Nat) (x:Str) (v:V),X.N[i]? = some x->σ[i]? = some (some v)->Vis X.env.scope x->∃ u,RelV v u/\Look X.env s.heap m x u
 cell:∀ x c,X.env.cells.lookup x=some c->∃ v,s.heap.IsCell c v
 free:H X.env.locals=none
 freeC:∀ x c,X.env.cells.lookup x=some c->H c=none
 pin:∀ p∈X.pn++pins,s.heap.get? p.1=some p.2/\H p.1=none/\p.1≠X.env.locals/\p.1 ∉ X.fs/\∀ v,p.2.data ≠ .cell v
 hok:HOk X.prog X.w H s.heap
 len:σ.length=X.N.length
section
variable {X:Cx}{pins:List (Addr × Obj)}{σ:List (Option V)}{H H':Hp}{s:Shared}{h':Heap}
def Cx.Ok.nofr (ok:X.Ok){b:Addr}{o:Obj}(e:X.base.get? b=some o):b ∉ X.fs:=fun hb=>by
 have:=(ok.funs.mem hb).1
 rw[e] at this; cases this
def Inv.bs (I:Inv X pins σ H s):∀ b o,X.base.get? b=some o->s.heap.get? b=some o/\H b=none:=fun b o e=>
 ⟨I.base.keep b o (I.ok.bs b o e).1 (I.ok.bs b o e).2 (I.ok.nofr e) (I.ok.noex b o e),I.base.free b o (I.ok.bs b o e).1 (I.ok.bs b o e).2 (I.ok.noex b o e)⟩
def Inv.bk (I:Inv X pins σ H s):∀ b o,X.base.get? b=some o->s.heap.get? b=some o:=fun b o e=>(I.bs b o e).1
def Inv.mod (I:Inv X pins σ H s):Mod X.K X.mg X.base:=I.ok.mod
def Inv.kIn (I:Inv X pins σ H s):X.K.In s.heap:=I.ok.mod.kin.keeps I.bk
def Inv.nolimit (I:Inv X pins σ H s):s.heap.NoLimit:=I.ok.mod.nolimit.keeps I.bk
def Inv.lt (I:Inv X pins σ H s):X.env.locals < s.heap.objs.size:=let ⟨_,hn,_⟩:=I.loc; hn.lt
def Inv.sz (I:Inv X pins σ H s):X.s₀.heap.objs.size<=s.heap.objs.size:=Nat.le_trans I.ok.above (Nat.le_of_lt I.lt)
def Inv.nofs (I:Inv X pins σ H s){a:Addr}(h:s.heap.objs.size<=a):a ∉ X.fs:=fun hb=>by
 obtain⟨_,o,ho,_⟩:=I.ok.funs.mem hb
 exact absurd (Nat.lt_of_lt_of_le (Heap.lt_size ho) (Nat.le_trans I.sz h)) (Nat.lt_irrefl _)
def Inv.cne (I:Inv X pins σ H s):∀ x c,X.env.cells.lookup x=some c->c≠X.env.locals:=fun x c e z=>by
 obtain⟨v,o,ho,hd⟩:=I.cell x c e
 obtain⟨m,⟨o',es,ep,ho',hd',_⟩,_⟩:=I.loc
 rw[z,ho'] at ho; cases ho; rw[hd'] at hd; cases hd
def Inv.funs (I:Inv X pins σ H s):s.heap.FunFrames X.base X.outer:=by
 have all:∀ (l:List Env),(∀ b∈frs l,b∈X.fs)->X.s₀.heap.FunFrames X.base l->s.heap.FunFrames X.base l:=by
  intro l
  induction l with
  | nil=>intro _ _; trivial
  | cons env r ih=>
   intro hs hl
   obtain⟨hk,⟨L,o,hf,hn,ho,hd⟩,hr⟩:=hl
   have hL:L∈X.fs:=hs L (by unfold frs; rw[List.filterMap_cons,hf]; exact List.mem_cons_self)
   obtain⟨sl,e⟩:=I.base.slot L o ho (I.ok.frf L hL) hL fun z=>I.ok.exfs L z hL
   exact⟨hk,⟨L,_,hf,hn,e,hd⟩,ih (fun b hb=>hs b (by unfold frs; rw[List.filterMap_cons,hf]; exact List.mem_cons_of_mem _ hb)) hr⟩
 exact all X.outer (fun _ hb=>hb) I.ok.funs
def Inv.stack (I:Inv X pins σ H s):s.heap.FunFrames X.base X.stack:=by
 rcases I.ok.stk with e | ⟨e,hf⟩
 ·rw[e]; exact I.funs
 ·rw[e]
  obtain⟨m,hn,_⟩:=I.loc
  refine .cons (by rw[I.ok.kind]; decide) hf hn ?_ I.funs
  exact Heap.get?_none_of_le (Nat.le_trans I.ok.bsz I.ok.above)
def Inv.stkSub (I:Inv X pins σ H s):∀ b∈frs X.stack,b∈X.env.locals::X.fs:=fun b hb=>by
 rcases I.ok.stk with e | ⟨e,hf⟩
 ·rw[e] at hb; exact List.mem_cons_of_mem _ hb
 ·rw[e] at hb
  unfold frs at hb
  rw[List.filterMap_cons,hf] at hb
  exact hb
def Inv.stkFree (I:Inv X pins σ H s):∀ b∈frs X.stack,H b=none:=fun b hb=>by
 rcases List.mem_cons.mp (I.stkSub b hb) with e | hb
 ·rw[e]; exact I.free
 ·obtain⟨_,o,ho,_⟩:=I.ok.funs.mem hb
  exact I.base.free b o ho (I.ok.frf b hb) fun z=>I.ok.exfs b z hb
def Inv.tbs (I:Inv X pins σ H s):Tbs X.K H:=fun P t e=>by
 obtain⟨m1,e1⟩:=I.ok.tbs P t e
 obtain⟨m2,e2⟩:=I.base.tbls P _ e1
 exact⟨m1++m2,by rw[e2,Array.append_assoc]⟩
def Inv.step {g':Array GenState}{t':Nat}{d':Drawn}{ch:List Addr}(I:Inv X pins σ H s)
  (hch:∀ b∈ch,(b∈X.ex\/X.s₀.heap.objs.size<=b)/\b≠X.env.locals/\(∀ x c,X.env.cells.lookup x=some c->c≠b)/\∀ p∈X.pn++pins,p.1≠b)
  (keep:∀ b o,b≠X.env.locals->b ∉ X.fs->b ∉ ch->s.heap.get? b=some o->H b=none->h'.get? b=some o)
  (slot:∀ b o,b≠X.env.locals->b∈X.fs->b ∉ ch->s.heap.get? b=some o->H b=none->∃ sl,h'.get? b=some { o with slots:=sl }) (free:∀ b o,b ∉ ch->s.heap.get? b=some o->H b=none->H' b=none)
  (there:∀ b o,b ∉ ch->s.heap.get? b=some o->∃ o',h'.get? b=some o')
  (tups:∀ b xs,H b=some (.tup xs)->H' b=some (.tup xs)) (frzs:∀ b o u,H b=some (.frz o u)->H' b=some (.frz o u)) (tbls:∀ b ps,H b=some (.tbl ps)->∃ more,H' b=some (.tbl (ps++more)))
  (ns:∀ m,s.heap.Ns X.env.locals m->h'.Ns X.env.locals m) (hok:HOk X.prog X.w H' h') (hg:AllBare g'):
  Inv X pins σ H' { s with heap:=h',gens:=g',drawn:=d',toks:=t' }:=by
 have neL:∀ b o,X.s₀.heap.get? b=some o->b≠X.env.locals:=fun b o e=>Nat.ne_of_lt (Nat.lt_of_lt_of_le (Heap.lt_size e) I.ok.above)
 have neC:∀ b o,X.s₀.heap.get? b=some o->b ∉ X.ex->b ∉ ch:=fun b o e hx hb=>by
  rcases(hch b hb).1 with z | z
  ·exact hx z
  ·exact absurd (Nat.lt_of_lt_of_le (Heap.lt_size e) z) (Nat.lt_irrefl _)
 have cellK:∀ x c,X.env.cells.lookup x=some c->∀ v,s.heap.IsCell c v->h'.IsCell c v:=fun x c e v ⟨o,ho,hd⟩=>by
  have nch:c ∉ ch:=fun z=>(hch c z).2.2.1 x c e rfl
  by_cases hc:c∈X.fs
  ·obtain⟨sl,q⟩:=slot c o (I.cne x c e) hc nch ho (I.freeC x c e)
   exact⟨_,q,hd⟩
  ·exact⟨o,keep c o (I.cne x c e) hc nch ho (I.freeC x c e),hd⟩
 refine⟨I.ok,I.os,hg,⟨fun b o e n hb hx => ?_,fun b o e n hb hx => ?_,fun b o e n hx => ?_,fun b o e hx => ?_,fun b xs e=>tups b xs (I.base.tups b xs e),fun b o xs e=>frzs b o xs (I.base.frzs b o xs e),fun b ps e => ?_⟩,?_,fun x c e => ?_,?_,fun x c e => ?_,fun p hp => ?_,hok,I.len⟩
 ·exact keep b o (neL b o e) hb (neC b o e hx) (I.base.keep b o e n hb hx) (I.base.free b o e n hx)
 ·obtain⟨sl,e1⟩:=I.base.slot b o e n hb hx
  obtain⟨sl',e2⟩:=slot b _ (neL b o e) hb (neC b o e hx) e1 (I.base.free b o e n hx)
  exact⟨sl',e2⟩
 ·obtain⟨o',e1⟩:=I.base.there b o e hx
  exact free b o' (neC b o e hx) e1 (I.base.free b o e n hx)
 ·obtain⟨o',e1⟩:=I.base.there b o e hx
  exact there b o' (neC b o e hx) e1
 ·obtain⟨m1,e1⟩:=I.base.tbls b ps e
  obtain⟨m2,e2⟩:=tbls b _ e1
  exact⟨m1++m2,by rw[e2,Array.append_assoc]⟩
 ·obtain⟨m,hn,hl⟩:=I.loc
  refine⟨m,ns m hn,fun i x v e1 e2 e3 => ?_⟩
  obtain⟨u,r,l⟩:=hl i x v e1 e2 e3
  refine⟨u,r,?_⟩
  rcases l with l | ⟨k,c,e,z⟩
  ·exact .inl l
  ·exact .inr ⟨k,c,e,cellK x c e _ z⟩
 ·obtain⟨v,z⟩:=I.cell x c e
  exact⟨v,cellK x c e v z⟩
 ·obtain⟨m,⟨o,_,_,ho,_⟩,_⟩:=I.loc
  exact free _ o (fun z=>(hch _ z).2.1 rfl) ho I.free
 ·obtain⟨v,o,ho,hd⟩:=I.cell x c e
  exact free c o (fun z=>(hch c z).2.2.1 x c e rfl) ho (I.freeC x c e)
 ·obtain⟨e,n,ne,nf,d⟩:=I.pin p hp
  have nch:p.1 ∉ ch:=fun z=>(hch p.1 z).2.2.2 p hp rfl
  exact⟨keep p.1 p.2 ne nf nch e n,free p.1 p.2 nch e n,ne,nf,d⟩
def Inv.un {t':Nat}(I:Inv X pins σ H s)(u:Un X.fs [] H H' s.heap h')(hok:HOk X.prog X.w H' h'):Inv X pins σ H' { s with heap:=h',toks:=t' }:=by
 obtain⟨m,⟨o,es,ep,ho,r⟩,_⟩:=id I.loc
 obtain⟨sl,hL⟩:=u.any ho I.free (by simp)
 exact I.step (g':=s.gens) (d':=s.drawn) (ch:=[]) (fun _ z=>nomatch z) (fun b o _ hb _ e n=>u.keep b o e n hb (by simp)) (fun b o _ hb _ e n=>u.slot b o e n hb (by simp)) (fun b o _ e n=>u.free b o e n (by simp)) (fun b o _ e=>u.there b o e (by simp)) u.tups u.frzs u.tbls (fun m' hm=>by
  obtain⟨o',es',ep',ho',r'⟩:=hm
  rw[ho] at ho'; cases ho'
  exact⟨_,es',ep',hL,r'⟩) hok I.bare
def Inv.call {g':Array GenState}{t':Nat}{d':Drawn}{ch:List Addr}(I:Inv X pins σ H s)(u:Un (frs X.stack) ch H H' s.heap h')(hok:HOk X.prog X.w H' h')(hg:AllBare g')
  (hch:∀ b∈ch,(b∈X.ex\/X.s₀.heap.objs.size<=b)/\b≠X.env.locals/\(∀ x c,X.env.cells.lookup x=some c->c≠b)/\∀ p∈X.pn++pins,p.1≠b):
  Inv X pins σ H' { s with heap:=h',gens:=g',drawn:=d',toks:=t' }:=by
 obtain⟨m,⟨o,es,ep,ho,r⟩,_⟩:=id I.loc
 obtain⟨sl,hL⟩:=u.any ho I.free fun z=>(hch _ z).2.1 rfl
 exact I.step (ch:=ch) hch (fun b o hL hb hc e n=>u.keep b o e n (fun z=>(List.mem_cons.mp (I.stkSub b z)).elim hL hb) hc) (fun b o _ _ hc e n=>u.any e n hc) (fun b o hc e n=>u.free b o e n hc) (fun b o hc e=>u.there b o e hc) u.tups u.frzs u.tbls (fun m' hm=>by
  obtain⟨o',es',ep',ho',r'⟩:=hm
  rw[ho] at ho'; cases ho'
  exact⟨_,es',ep',hL,r'⟩) hok hg
def Inv.turned {t':Nat}{it:Addr}(I:Inv X pins σ H s)(k:∀ b o,b≠it->s.heap.get? b=some o->h'.get? b=some o)(hn:H it=none)(hL:it≠X.env.locals)
  (h1:it∈X.ex\/X.s₀.heap.objs.size<=it) (h2:∀ x c,X.env.cells.lookup x=some c->c≠it) (h3:∀ p∈X.pn++pins,p.1≠it):Inv X pins σ H { s with heap:=h',toks:=t' }:=by
 have nit:∀ b u,H b=some u->b≠it:=fun b u e z=>by rw[z,hn] at e; cases e
 refine I.step (g':=s.gens) (d':=s.drawn) (ch:=[it]) (fun b hb => ?_) (fun b o _ _ hc e _=>k b o (fun z=>hc (by simp[z])) e) (fun b o _ _ hc e _=>⟨o.slots,k b o (fun z=>hc (by simp[z])) e⟩) (fun _ _ _ _ n=>n)
  (fun b o hc e=>⟨o,k b o (fun z=>hc (by simp[z])) e⟩) (fun _ _ e=>e) (fun _ _ _ e=>e) (fun b ps e=>⟨#[],by rw[e]; simp⟩) (fun m hm => ?_) (fun b u e => ?_) I.bare
 ·have e:b=it:=by simpa using hb
  subst e
  exact⟨h1,hL,h2,h3⟩
 ·obtain⟨o,es,ep,ho,r⟩:=hm
  exact⟨o,es,ep,k _ o (Ne.symm hL) ho,r⟩
 ·refine(I.hok b u e).stay (fun c v hc q=>k c v ?_ q) (fun _ q=>q) fun _ _ q=>q
  rcases hc with z | z
  ·rw[z]; exact nit b u e
  ·exact nit c _ z
def Inv.tok (I:Inv X pins σ H s)(t:Nat):Inv X pins σ H { s with toks:=t }:=I.un (h':=s.heap) (t':=t) Un.refl I.hok
def Inv.kept {t':Nat}(I:Inv X pins σ H s)(k:∀ b u,s.heap.get? b=some u->h'.get? b=some u):Inv X pins σ H { s with heap:=h',toks:=t' }:=I.un (Un.kept k) (I.hok.kept k)
def Inv.laid {a:Addr}{o:HO}{t':Nat}(I:Inv X pins σ H s)(k:∀ b u,s.heap.get? b=some u->h'.get? b=some u)(hp:s.heap.objs.size<=a)(new:z1K X.prog X.w (upd H a o) h' a o):
  Inv X pins σ (upd H a o) { s with heap:=h',toks:=t' }:=I.un (Un.laid k hp (I.hok.fresh hp)) (I.hok.laid k hp new)
def Inv.write {x e:Addr}{o:HO}{t':Nat}(I:Inv X pins σ H s)(mu:Mut (H x))(he:e=x\/H e=some (.own x))(k:∀ b u,b≠e->s.heap.get? b=some u->h'.get? b=some u)(heo:∃ u,h'.get? e=some u)
  (new:z1K X.prog X.w (upd H x o) h' x o):Inv X pins σ (upd H x o) { s with heap:=h',toks:=t' }:=I.un (Un.write mu he k heo) (I.hok.write mu he k heo new)
def Inv.pins_of {pins':List (Addr × Obj)}(I:Inv X pins σ H s)(h:∀ p∈pins',s.heap.get? p.1=some p.2/\H p.1=none/\p.1≠X.env.locals/\p.1 ∉ X.fs/\∀ v,p.2.data ≠ .cell v):Inv X pins' σ H s:=
 ⟨I.ok,I.os,I.bare,I.base,I.loc,I.cell,I.free,I.freeC,fun p hp=>(List.mem_append.mp hp).elim (fun z=>I.pin p (List.mem_append_left _ z)) (h p),I.hok,I.len⟩
def z9z {N:List Str}(hN:N.Nodup){i j:Nat}{x:Str}(a:N[i]? = some x)(b:N[j]? = some x):i=j:=by
 obtain⟨h1,e1⟩:=List.getElem?_eq_some_iff.mp a
 obtain⟨h2,e2⟩:=List.getElem?_eq_some_iff.mp b
 exact(List.getElem_inj hN).mp (e1.trans e2.symm)
def zax {M:Model}{A:Around}{E:Value->Shared->Prop}{i:Nat}{x:Str}{v:V}{u:Value}{Q:Unit->Shared->Prop}(I:Inv X pins σ H s)(hN:X.N.Nodup)(hi:X.N[i]? = some x)(hx:Loc X.env.scope x)(r:RelV v u)
  (h:∀ s',Inv X pins (σ.set i (some v)) H s'->(∃ a,Heap.SameBut a s.heap s'.heap/\(a=X.env.locals\/X.env.cells.lookup x=some a))->Q () s') (hf:X.fn x=true\/X.env.scope.names.lookup x=some .local:=by first | exact .inl rfl | exact .inr rfl | assumption):wpAny M A (storeName X.env x u) Q E s:=by
 obtain⟨m,hn,hl⟩:=id I.loc
 have hcls:(X.env.scope.kind == .class || (X.env.scope.kind == .module && X.env.locals != X.env.globals))=false:=by rw[I.ok.kind]; rfl
 have hiσ:i < σ.length:=by rw[I.len]; exact(List.getElem?_eq_some_iff.mp hi).1
 have cne:=I.cne
 have tracked:∀ {a:Addr}{h':Heap},(∃ o,s.heap.get? a=some o/\H a=none)->Heap.SameBut a s.heap h'->HOk X.prog X.w H h':=fun {a h'} ha hs b ob e=>by
  obtain⟨_,_,hfree⟩:=ha
  refine(I.hok b ob e).stay (fun c w' hc q=>(hs.2 c ?_).trans q) (fun _ q=>q) fun _ _ q=>q
  rintro rfl
  rcases hc with rfl | hc
  ·rw[hfree] at e; cases e
  ·rw[hfree] at hc; cases hc
 rcases hx with hk | hk
 ·refine wpAny_storeName_local hk hn (fun h' hn' hs => ?_) hcls
  obtain⟨oL,_,_,hoL,_⟩:=id hn
  refine h _ ⟨I.ok,I.os,I.bare,⟨fun b o e n hb hx => ?_,fun b o e n hb hx => ?_,I.base.free,fun b o e hx => ?_,I.base.tups,I.base.frzs,I.base.tbls⟩,⟨_,hn',fun j y v' e1 e2 e3 => ?_⟩,fun y c e => ?_,I.free,I.freeC,fun p hp => ?_,tracked ⟨oL,hoL,I.free⟩ hs,by simpa using I.len⟩ ⟨_,hs,.inl rfl⟩
  ·exact(hs.2 b (Nat.ne_of_lt (Nat.lt_of_lt_of_le (Heap.lt_size e) I.ok.above))).trans (I.base.keep b o e n hb hx)
  ·obtain⟨sl,e1⟩:=I.base.slot b o e n hb hx
   exact⟨sl,(hs.2 b (Nat.ne_of_lt (Nat.lt_of_lt_of_le (Heap.lt_size e) I.ok.above))).trans e1⟩
  ·obtain⟨o',e1⟩:=I.base.there b o e hx
   exact⟨o',(hs.2 b (Nat.ne_of_lt (Nat.lt_of_lt_of_le (Heap.lt_size e) I.ok.above))).trans e1⟩
  ·by_cases hj:j=i
   ·subst hj
    rw[hi] at e1; cases e1
    rw[List.getElem?_set_self hiσ] at e2
    cases e2
    exact⟨u,r,.inl ⟨hk,by simp⟩⟩
   ·rw[List.getElem?_set_ne (Ne.symm hj)] at e2
    obtain⟨u',r',q⟩:=hl j y v' e1 e2 e3
    refine⟨u',r',?_⟩
    rcases q with ⟨k,e⟩ | ⟨k,c,e,z⟩
    ·refine .inl ⟨k,?_⟩
     have:y≠x:=fun e=>hj (z9z hN e1 (e ▸ hi))
     simp[this,e]
    ·exact .inr ⟨k,c,e,z.sameBut hs (cne y c e)⟩
  ·obtain⟨w',z⟩:=I.cell y c e
   exact⟨w',z.sameBut hs (cne y c e)⟩
  ·obtain⟨e,n,ne,nf,d⟩:=I.pin p hp
   exact⟨(hs.2 p.1 ne).trans e,n,ne,nf,d⟩
 ·have hfn:X.fn x=true:=by
   rcases hf with z | z
   ·exact z
   ·rw[z] at hk; cases hk
  obtain⟨c,hc⟩:=I.ok.has x (.inl hk)
  obtain⟨w',z⟩:=I.cell x c hc
  refine wpAny_storeName_cell I.ok.kind hk hc z (fun h' hc' hs => ?_)
  obtain⟨oc,hoc,hocd⟩:=id z
  refine h { s with heap:=h' } ⟨I.ok,I.os,I.bare,⟨fun b o e n hb hx => ?_,fun b o e n hb hx => ?_,I.base.free,fun b o e hx => ?_,I.base.tups,I.base.frzs,I.base.tbls⟩,⟨m,hn.sameBut hs (Ne.symm (cne x c hc)),fun j y v' e1 e2 e3 => ?_⟩,fun y c' e => ?_,I.free,I.freeC,fun p hp => ?_,tracked ⟨oc,hoc,I.freeC x c hc⟩ hs,by simpa using I.len⟩ ⟨c,hs,.inr hc⟩
  ·exact(hs.2 b (Nat.ne_of_lt (Nat.lt_of_lt_of_le (Heap.lt_size e) (I.ok.cab x c hfn hc)))).trans (I.base.keep b o e n hb hx)
  ·obtain⟨sl,e1⟩:=I.base.slot b o e n hb hx
   exact⟨sl,(hs.2 b (Nat.ne_of_lt (Nat.lt_of_lt_of_le (Heap.lt_size e) (I.ok.cab x c hfn hc)))).trans e1⟩
  ·obtain⟨o',e1⟩:=I.base.there b o e hx
   exact⟨o',(hs.2 b (Nat.ne_of_lt (Nat.lt_of_lt_of_le (Heap.lt_size e) (I.ok.cab x c hfn hc)))).trans e1⟩
  ·by_cases hj:j=i
   ·subst hj
    rw[hi] at e1; cases e1
    rw[List.getElem?_set_self hiσ] at e2
    cases e2
    exact⟨u,r,.inr ⟨.inl hk,c,hc,hc'⟩⟩
   ·rw[List.getElem?_set_ne (Ne.symm hj)] at e2
    obtain⟨u',r',q⟩:=hl j y v' e1 e2 e3
    refine⟨u',r',?_⟩
    rcases q with q | ⟨k,c',e,z'⟩
    ·exact .inl q
    ·refine .inr ⟨k,c',e,z'.sameBut hs ?_⟩
     rintro rfl
     exact hj (z9z hN e1 (I.ok.inj _ _ _ e hc ▸ hi))
  ·by_cases hcc:c'=c
   ·subst hcc; exact⟨_,hc'⟩
   ·obtain⟨w2,z2⟩:=I.cell y c' e
    exact⟨w2,z2.sameBut hs hcc⟩
  ·obtain⟨e,n,ne,nf,d⟩:=I.pin p hp
   refine⟨(hs.2 p.1 ?_).trans e,n,ne,nf,d⟩
   intro q
   rw[q,hoc] at e
   have q':oc=p.2:=Option.some.inj e
   exact d w' (by rw[<- q']; exact hocd)
def z98 {M:Model}{A:Around}{E:Value->Shared->Prop}{i:Nat}{x:Str}{v:V}{u:Value}{Q:Unit->Shared->Prop}(I:Inv X pins σ H s)(hN:X.N.Nodup)(hi:X.N[i]? = some x)(hx:Loc X.env.scope x)(r:RelV v u)
  (h:∀ s',Inv X pins (σ.set i (some v)) H s'->Q () s') (hf:X.fn x=true\/X.env.scope.names.lookup x=some .local:=by first | exact .inl rfl | exact .inr rfl | assumption):wpAny M A (storeName X.env x u) Q E s:=
 zax I hN hi hx r (fun s' I' _=>h s' I') hf
def Inv.call' {s':Shared}{ch:List Addr}(I:Inv X pins σ H s)(ho:s'.os=s.os)(u:Un (frs X.stack) ch H H' s.heap s'.heap)(hok:HOk X.prog X.w H' s'.heap)(hg:AllBare s'.gens)
  (hch:∀ b∈ch,(b∈X.ex\/X.s₀.heap.objs.size<=b)/\b≠X.env.locals/\(∀ x c,X.env.cells.lookup x=some c->c≠b)/\∀ p∈X.pn++pins,p.1≠b):Inv X pins σ H' s':=by
 obtain⟨h',g',d',t',o'⟩:=s'
 have e:o'=s.os:=ho
 subst e
 exact I.call (g':=g') (t':=t') (d':=d') u hok hg hch
end
abbrev XK:=Value->Option Addr->Hp->Prop
abbrev St:=List (Option V)
abbrev VK:=V->Hp->Prop
abbrev TE:=St->Hp->VK->Prop
abbrev TT:=St->Hp->(Bool->Hp->Prop)->Prop
abbrev TA:=St->Hp->(List V->Hp->Prop)->Prop
structure Ends where
 nx:St->Hp->Prop
 rt:VK
 bk:St->Hp->Prop:=fun _ _=>False
 ct:St->Hp->Prop:=fun _ _=>False
abbrev TS:=Ends->St->Hp->Prop
def EP (X:Cx)(pins:List (Addr × Obj))(σ:St)(Q:VK)(u:Value)(s':Shared):Prop:=∃ v H',Inv X pins σ H' s'/\RelV v u/\Q v H'
def TP (X:Cx)(pins:List (Addr × Obj))(σ:St)(Q:Bool->Hp->Prop)(b:Bool)(s':Shared):Prop:=∃ H',Inv X pins σ H' s'/\Q b H'
def AP (X:Cx)(pins:List (Addr × Obj))(σ:St)(Q:List V->Hp->Prop)(us:List Value)(s':Shared):Prop:=∃ vs H',Inv X pins σ H' s'/\Vals vs us/\Q vs H'
def SP (X:Cx)(pins:List (Addr × Obj))(D:Ends)(f:Flow)(s':Shared):Prop:=
 match f with
 | .next=>∃ σ' H',Inv X pins σ' H' s'/\D.nx σ' H'
 | .brk=>∃ σ' H',Inv X pins σ' H' s'/\D.bk σ' H'
 | .cont=>∃ σ' H',Inv X pins σ' H' s'/\D.ct σ' H'
 | .ret u=>∃ v σ' H',Inv X pins σ' H' s'/\RelV v u/\D.rt v H'
def PE (X:Cx)(e:Expr)(t:TE):Prop:=
 ∀ (pins:List (Addr × Obj)) (s:Shared) (σ:St) (H:Hp) (Q:VK),Inv X pins σ H s->t σ H Q->wpAny (model X.prog X.w) X.A (eval e X.env) (EP X pins σ Q) X.xe s
def PT (X:Cx)(e:Expr)(t:TT):Prop:=
 ∀ (pins:List (Addr × Obj)) (s:Shared) (σ:St) (H:Hp) (Q:Bool->Hp->Prop),Inv X pins σ H s->t σ H Q->wpAny (model X.prog X.w) X.A (isTrue e X.env (eval e X.env)) (TP X pins σ Q) X.xe s
def PW (X:Cx)(e:Expr)(t:TT):Prop:=
 ∀ (whole:Sem Value) (pins:List (Addr × Obj)) (s:Shared) (σ:St) (H:Hp) (Q:Bool->Hp->Prop),Inv X pins σ H s->t σ H Q->wpAny (model X.prog X.w) X.A (isTrue e X.env whole) (TP X pins σ Q) X.xe s
def PW.pt {X:Cx}{e:Expr}{t:TT}(h:PW X e t):PT X e t:=h _
def PA (X:Cx)(es:List Expr)(t:TA):Prop:=
 ∀ (pos:Pos) (pins:List (Addr × Obj)) (s:Shared) (σ:St) (H:Hp) (Q:List V->Hp->Prop),Inv X pins σ H s->t σ H Q->wpAny (model X.prog X.w) X.A (spliced (backTo pos (starEach es X.env))) (AP X pins σ Q) X.xe s
def PS (X:Cx)(st:Stmt)(t:TS):Prop:=
 ∀ (pins:List (Addr × Obj)) (s:Shared) (σ:St) (H:Hp) (D:Ends),Inv X pins σ H s->t D σ H->wpAny (model X.prog X.w) X.A (exec st X.env) (SP X pins D) X.xe s
def PSs (X:Cx)(st:List Stmt)(t:TS):Prop:=
 ∀ (pins:List (Addr × Obj)) (s:Shared) (σ:St) (H:Hp) (D:Ends),Inv X pins σ H s->t D σ H->wpAny (model X.prog X.w) X.A (execs st X.env) (SP X pins D) X.xe s
def thn {α:Type}{t:Sem α}{Q Q':α->Shared->Prop}{M:Model}{A:Around}{E:Value->Shared->Prop}{s:Shared}(h:wpAny M A t Q E s)(hQ:∀ a s,Q a s->Q' a s):wpAny M A t Q' E s:=wpAny_mono h hQ fun _ _ x=>x
section
variable {X:Cx}
def tVar (i:Nat):TE:=fun σ H Q=>∃ v,σ[i]? = some (some v)/\Q v H
def tC (v:V):TE:=fun _ H Q=>Q v H
def zdt {i:Nat}{x:Str}{pos:Pos}(hN:X.N[i]? = some x)(hv:Vis X.env.scope x)(hd:(x == ("__debug__":Str))=false:=by decide)(hcd:(x == ("__classdict__":Str))=false:=by decide):PE X (.Name x pos) (tVar i):=by
 intro pins s σ H Q I h
 obtain⟨v,e,h⟩:=h
 obtain⟨m,hn,hl⟩:=I.loc
 obtain⟨u,r,l⟩:=hl i x v hN e hv
 have fin:EP X pins σ Q u s:=⟨v,H,I,r,h⟩
 rcases l with ⟨hk,hm⟩ | ⟨hk,c,hc,hcell⟩
 ·exact wpAny_Name (wpAny_loadName_local I.ok.kind hk hn hm fin) hd
 ·rcases hk with hk | hk
  ·exact wpAny_Name (wpAny_loadName_cell I.ok.kind hk hc hcell fin) hd
  ·exact wpAny_Name (wpAny_loadName_free I.ok.kind hk hc hcell fin hcd) hd
def zg4 {i j pos}:PE X (.Constant (.int i) j pos) (tC (.int i)):=fun _ _ _ H _ I h=>wpAny_Constant_int ⟨.int i,H,I.tok _,⟨_,rfl⟩,h⟩
def zhZ {b j pos}:PE X (.Constant (.bool b) j pos) (tC (.bl b)):=fun _ _ _ H _ I h=>Constant_bool ⟨.bl b,H,I,rfl,h⟩
def Gl (X:Cx)(x:Str):Prop:=X.env.kindOf x=some .globalImplicit
def zbp {E:Value->Shared->Prop}{pins:List (Addr × Obj)}{s:Shared}{σ:St}{H:Hp}{x:Str}{u:Value}{pos:Pos}{Q:Value->Shared->Prop}(I:Inv X pins σ H s)(hg:Gl X x)(hm:X.mg x=some u)(h:Q u s)
  (hd:(x == ("__debug__":Str))=false:=by decide):wpAny (model X.prog X.w) X.A (eval (.Name x pos) X.env) Q E s:=
 Calls.Name_function_global I.ok.kind hg (Calls.loadGlobal_global (by rw[I.ok.glob]; exact I.mod.glob.keeps I.bk) hm h) hd
def z5t {E:Value->Shared->Prop}{pins:List (Addr × Obj)}{s:Shared}{σ:St}{H:Hp}{x:Str}{u:Value}{pos:Pos}{Q:Value->Shared->Prop}(I:Inv X pins σ H s)(hg:Gl X x)(hm:X.mg x=none)(hv:bootBuiltins x=some u)(h:Q u s)
  (hn:x≠"__name__":=by decide) (hd:(x == ("__debug__":Str))=false:=by decide):wpAny (model X.prog X.w) X.A (eval (.Name x pos) X.env) Q E s:=by
 obtain⟨mb,h1,h2⟩:=I.mod.blt
 exact Calls.Name_function_global I.ok.kind hg (Calls.loadGlobal_builtin (by rw[I.ok.glob]; exact I.mod.glob.keeps I.bk) hm (by rw[I.ok.blt]; exact h1.keeps I.bk) ((h2 x hn).trans hv) h) hd
def zel {x:Str}{v:V}{u:Value}{pos:Pos}(hg:Gl X x)(hm:X.mg x=some u)(r:RelV v u)(hd:(x == ("__debug__":Str))=false:=by decide):PE X (.Name x pos) (tC v):=
 fun _ _ _ H _ I h=>zbp I hg hm ⟨v,H,I,r,h⟩ hd
def zeo {x:Str}{v:V}{u:Value}{pos:Pos}(hg:Gl X x)(hm:X.mg x=none)(hv:bootBuiltins x=some u)(r:RelV v u)(hn:x≠"__name__":=by decide)(hd:(x == ("__debug__":Str))=false:=by decide):PE X (.Name x pos) (tC v):=
 fun _ _ _ H _ I h=>z5t I hg hm hv ⟨v,H,I,r,h⟩ hn hd
variable {a b:Expr}{ta tb:TE}{pos:Pos}
def tB (t:TE):TT:=fun σ H Q=>t σ H fun x H1=>∃ c,x = .bl c/\Q c H1
def zfT {e:Expr}{t:TE}(h:PE X e t)(he:∀ whole,isTrue e X.env whole=(do let v <- whole; standAt e.pos; holding [v] (truthy v)):=by intro _; rfl):PT X e (tB t):=by
 intro pins s σ H Q I hw
 refine isTrue_plain (thn (h pins s σ H _ I hw) fun v s1 ⟨x,H1,I1,r1,q1⟩ => ?_) (he _)
 obtain⟨d,rfl,q⟩:=q1
 cases r1
 exact wpAny_truthy_bool ⟨H1,I1,q⟩
variable {tA tB':TT}{rest:List Expr}
def tAnd (t u:TT):TT:=fun σ H Q=>t σ H fun c H1=>if c=true then u σ H1 Q else Q false H1
def tOr (t u:TT):TT:=fun σ H Q=>t σ H fun c H1=>if c=true then Q true H1 else u σ H1 Q
def tNot (t:TT):TT:=fun σ H Q=>t σ H fun c H1=>Q (!c) H1
def zea (ha:PT X a tA):PW X (.BoolOp .And [a] pos) tA:=by
 intro wh pins s σ H Q I h
 refine isTrue_and (thn (ha pins s σ H Q I h) fun c s1 e => ?_)
 cases c with
 | true=>exact isTrue_and_nil e
 | false=>exact e
def zfR (ha:PT X a tA):PW X (.BoolOp .Or [a] pos) tA:=by
 intro wh pins s σ H Q I h
 refine isTrue_or (thn (ha pins s σ H Q I h) fun c s1 e => ?_)
 cases c with
 | false=>exact isTrue_or_nil e
 | true=>exact e
def zfS (ha:PT X a tA)(hb:PW X (.BoolOp .And (b::rest) pos) tB'):PW X (.BoolOp .And (a::b::rest) pos) (tAnd tA tB'):=by
 intro wh pins s σ H Q I h
 refine isTrue_and (thn (ha pins s σ H _ I h) fun c s1 ⟨H1,I1,q1⟩ => ?_)
 cases c with
 | true=>exact hb wh pins s1 σ H1 Q I1 q1
 | false=>exact⟨H1,I1,q1⟩
def zhR (ha:PT X a tA)(hb:PW X (.BoolOp .Or (b::rest) pos) tB'):PW X (.BoolOp .Or (a::b::rest) pos) (tOr tA tB'):=by
 intro wh pins s σ H Q I h
 refine isTrue_or (thn (ha pins s σ H _ I h) fun c s1 ⟨H1,I1,q1⟩ => ?_)
 cases c with
 | true=>exact⟨H1,I1,q1⟩
 | false=>exact hb wh pins s1 σ H1 Q I1 q1
def zfU (ha:PT X a tA):PT X (.UnaryOp .Not a pos) (tNot tA):=by
 intro pins s σ H Q I h
 exact isTrue_not (ha pins s σ H (fun c H1=>Q (!c) H1) I h)
def zfe (ta tb:TE):TE:=fun σ H Q=>ta σ H fun x H1=>∃ c,x = .bl c/\if c=true then tb σ H1 Q else Q (.bl false) H1
def tOrV (ta tb:TE):TE:=fun σ H Q=>ta σ H fun x H1=>∃ c,x = .bl c/\if c=true then Q (.bl true) H1 else tb σ H1 Q
def zfa (ta:TE):TE:=fun σ H Q=>ta σ H fun x H1=>∃ c,x = .bl c/\Q (.bl (!c)) H1
def zg0 {op}{t:TE}(h:PE X a t):PE X (.BoolOp op [a] pos) t:=fun pins s σ H Q I hw=>BoolOp_one (h pins s σ H Q I hw)
def zg6 (ha:PE X a ta)(hb:PE X (.BoolOp .And (b::rest) pos) tb):PE X (.BoolOp .And (a::b::rest) pos) (zfe ta tb):=by
 intro pins s σ H Q I h
 refine BoolOp_and (thn (ha pins s σ H _ I h) fun v s1 ⟨x,H1,I1,r1,q1⟩ => ?_)
 obtain⟨c,rfl,q1⟩:=q1
 cases r1
 refine wpAny_truthy_bool ?_
 cases c with
 | true=>exact hb pins s1 σ H1 Q I1 q1
 | false=>exact⟨.bl false,H1,I1,rfl,q1⟩
def zhU (ha:PE X a ta)(hb:PE X (.BoolOp .Or (b::rest) pos) tb):PE X (.BoolOp .Or (a::b::rest) pos) (tOrV ta tb):=by
 intro pins s σ H Q I h
 refine BoolOp_or (thn (ha pins s σ H _ I h) fun v s1 ⟨x,H1,I1,r1,q1⟩ => ?_)
 obtain⟨c,rfl,q1⟩:=q1
 cases r1
 refine wpAny_truthy_bool ?_
 cases c with
 | false=>exact hb pins s1 σ H1 Q I1 q1
 | true=>exact⟨.bl true,H1,I1,rfl,q1⟩
def zg1 (ha:PE X a ta):PE X (.UnaryOp .Not a pos) (zfa ta):=by
 intro pins s σ H Q I h
 refine UnaryOp_ (thn (ha pins s σ H _ I h) fun v s1 ⟨x,H1,I1,r1,q1⟩ => ?_)
 obtain⟨c,rfl,q1⟩:=q1
 cases r1
 exact not_of (wpAny_truthy_bool ⟨.bl (!c),H1,I1,rfl,q1⟩)
end
def SqL (K:W.Frag)(H:Hp)(a:Addr)(xs:List V):Prop:=
 Rd H a (.lst xs)\/
  ∃ (o:Obj) (its:Array Value) (n:Nat),K.lookup a=some o/\o.cls = .type "list"/\o.dict=none/\o.data = .seq its n/\its.size<=sizeLine/\Vals xs its.toList
def SqT (K:W.Frag)(H:Hp)(a:Addr)(xs:List V):Prop:=
 Rd H a (.tup xs)\/
  ∃ (o:Obj) (its:Array Value) (n:Nat),K.lookup a=some o/\o.cls = .type "tuple"/\o.data = .seq its n/\its.size<=sizeLine/\Vals xs its.toList/\o.dict=none
def absV:Value->Option V
 | .none=>some .non
 | .bool b=>some (.bl b)
 | .int i _=>some (.int i)
 | .str x _=>some (.str x)
 | .bytes b _=>some (.byt b)
 | .float b _=>some (.flt b)
 | .ref a=>some (.ref a)
 | .type n=>some (.ty n)
 | _=>none
def RelV.abs {x:V}{u:Value}(r:RelV x u):absV u=some x:=by
 cases x with
 | non=>cases r; rfl
 | bl _=>cases r; rfl
 | int _=>obtain⟨t,rfl⟩:=r; rfl
 | str _=>obtain⟨t,rfl⟩:=r; rfl
 | byt _=>obtain⟨t,rfl⟩:=r; rfl
 | flt _=>obtain⟨t,rfl⟩:=r; rfl
 | ref _=>cases r; rfl
 | ty _=>cases r; rfl
def RelV.inj {x y:V}{u:Value}(r:RelV x u)(q:RelV y u):x=y:=Option.some.inj (r.abs.symm.trans q.abs)
def Vals.inj:∀ {xs ys:List V}{us:List Value},Vals xs us->Vals ys us->xs=ys
 | _,_,_,.nil,.nil=>rfl
 | _,_,_,.cons r t,.cons r' t'=>by rw[r.inj r',Vals.inj t t']
section
variable {X:Cx}{pins:List (Addr × Obj)}{σ:St}{H:Hp}{s:Shared}{a:Addr}{xs ys:List V}
def SqL.of {K:W.Frag}(h:H a=some (.lst xs)):SqL K H a xs :=.inl (.inl h)
def SqT.of {K:W.Frag}(h:H a=some (.tup xs)):SqT K H a xs :=.inl (.inl h)
def Inv.list (I:Inv X pins σ H s)(h:SqL X.K H a xs):∃ its:List Value,Vals xs its/\PlainL s.heap a its.toArray/\xs.length<=sizeLine:=by
 rcases h with h | ⟨o,its,n,hk,hc,hd,hs,hz,r⟩
 ·obtain⟨z,its,n,r,e⟩:=h.ok I.hok
  exact⟨its,r,⟨_,n,e,rfl,rfl,rfl⟩,z⟩
 ·refine⟨its.toList,r,⟨o,n,I.kIn a o hk,hc,hd,by simpa using hs⟩,?_⟩
  have e:=r.length
  simp only[Array.length_toList] at e
  omega
def Inv.tuple (I:Inv X pins σ H s)(h:SqT X.K H a xs):∃ its:List Value,Vals xs its/\IsTup s.heap a its.toArray/\xs.length<=sizeLine:=by
 rcases h with h | ⟨o,its,n,hk,hc,hs,hz,r,_⟩
 ·obtain⟨z,its,r,p,_⟩:=h.ok I.hok
  exact⟨its,r,p,z⟩
 ·refine⟨its.toList,r,⟨o,I.kIn a o hk,hc,n,by simpa using hs⟩,?_⟩
  have e:=r.length
  simp only[Array.length_toList] at e
  omega
def Inv.list_inj (I:Inv X pins σ H s)(h:SqL X.K H a xs)(h':SqL X.K H a ys):xs=ys:=by
 obtain⟨its,r,⟨o,n,e,_,_,d⟩,_⟩:=I.list h
 obtain⟨its',r',⟨o',n',e',_,_,d'⟩,_⟩:=I.list h'
 rw[e] at e'; cases e'
 rw[d] at d'
 injection d' with d1 _
 have:its=its':=by simpa using congrArg Array.toList d1
 subst this
 exact r.inj r'
def Inv.tuple_inj (I:Inv X pins σ H s)(h:SqT X.K H a xs)(h':SqT X.K H a ys):xs=ys:=by
 obtain⟨its,r,⟨o,e,_,n,d⟩,_⟩:=I.tuple h
 obtain⟨its',r',⟨o',e',_,n',d'⟩,_⟩:=I.tuple h'
 rw[e] at e'; cases e'
 rw[d] at d'
 injection d' with d1 _
 have:its=its':=by simpa using congrArg Array.toList d1
 subst this
 exact r.inj r'
end
abbrev Cx.wish (X:Cx)(E:Value->Shared->Prop):Cx:={ X with xe:=E }
abbrev Cx.nox (X:Cx):Cx:=X.wish fun _ _=>False
def Cx.Ok.wish {X:Cx}(ok:X.Ok)(E:Value->Shared->Prop):(X.wish E).Ok:=
 ⟨ok.mod,ok.kind,ok.glob,ok.blt,ok.above,ok.inj,ok.has,ok.cab,ok.hd,ok.frames,ok.stk,ok.exf,ok.bs,ok.bsz,ok.noex,ok.exfs,ok.funs,ok.frf,ok.tbs⟩
def Cx.Ok.unwish {X:Cx}{E:Value->Shared->Prop}(ok:(X.wish E).Ok):X.Ok:=
 ⟨ok.mod,ok.kind,ok.glob,ok.blt,ok.above,ok.inj,ok.has,ok.cab,ok.hd,ok.frames,ok.stk,ok.exf,ok.bs,ok.bsz,ok.noex,ok.exfs,ok.funs,ok.frf,ok.tbs⟩
section
variable {X:Cx}{pins:List (Addr × Obj)}{σ:St}{H:Hp}{s:Shared}{E:Value->Shared->Prop}
def Inv.wish (I:Inv X pins σ H s)(E:Value->Shared->Prop):Inv (X.wish E) pins σ H s:=⟨I.ok.wish E,I.os,I.bare,I.base,I.loc,I.cell,I.free,I.freeC,I.pin,I.hok,I.len⟩
def Inv.unwish (I:Inv (X.wish E) pins σ H s):Inv X pins σ H s:=⟨I.ok.unwish,I.os,I.bare,I.base,I.loc,I.cell,I.free,I.freeC,I.pin,I.hok,I.len⟩
def SP.unwish {D:Ends}{f:Flow}{s':Shared}(h:SP (X.wish E) pins D f s'):SP X pins D f s':=by
 cases f with
 | next=>obtain⟨σ',H',I,q⟩:=h; exact⟨σ',H',I.unwish,q⟩
 | brk=>obtain⟨σ',H',I,q⟩:=h; exact⟨σ',H',I.unwish,q⟩
 | cont=>obtain⟨σ',H',I,q⟩:=h; exact⟨σ',H',I.unwish,q⟩
 | ret u=>obtain⟨v,σ',H',I,r,q⟩:=h; exact⟨v,σ',H',I.unwish,r,q⟩
def PSs.nox {st:List Stmt}{t:TS}(h:PSs X.nox st t):PSs X st t:=fun pins s σ H D I hw=>
 wpAny_mono (h pins s σ H D (I.wish _) hw) (fun _ _ q=>q.unwish) fun _ _ z=>False.elim z
end
section
variable {X:Cx}{st:Stmt}{rest:List Stmt}{t u:TS}{e:Expr}{te:TE}{pos:Pos}
def zfb:TS:=fun D σ H=>D.nx σ H
def tSeq (t u:TS):TS:=fun D σ H=>t { D with nx:=u D } σ H
def zed:PSs X [] zfb:=fun _ _ σ H _ I h=>wpAny_execs_nil ⟨σ,H,I,h⟩
def zcq (h1:PS X st t)(h2:PSs X rest u):PSs X (st::rest) (tSeq t u):=by
 intro pins s σ H D I h
 refine wpAny_execs_cons (thn (h1 pins s σ H { D with nx:=u D } I h) fun f s1 q => ?_)
 cases f with
 | next=>
  obtain⟨σ',H',I',q⟩:=q
  exact h2 pins s1 σ' H' D I' q
 | ret v=>exact q
 | brk=>exact q
 | cont=>exact q
def zec (h1:PS X st t):PSs X [st] t:=by
 intro pins s σ H D I h
 refine wpAny_execs_cons (thn (h1 pins s σ H D I h) fun f s1 q => ?_)
 cases f with
 | next=>exact wpAny_execs_nil q
 | ret v=>exact q
 | brk=>exact q
 | cont=>exact q
def Inv.quiet {pins:List (Addr × Obj)}{σ:St}{H:Hp}{s:Shared}(I:Inv X pins σ H s):interactive X.env=false:=by simp[interactive,I.ok.kind]
def zfc (te:TE):TS:=fun D σ H=>te σ H fun _ H1=>D.nx σ H1
def zee (he:PE X e te)(hs:swapsWith e none pos.line X.env=pure false:=by rfl):PS X (.Expr e pos) (zfc te):=by
 intro pins s σ H D I h
 exact wpAny_Expr_any (thn (he pins s σ H _ I h) fun v s1 ⟨x,H1,I1,r1,q1⟩=>⟨σ,H1,I1,q1⟩) I.quiet hs
def tRet (te:TE):TS:=fun D σ H=>te σ H D.rt
def zfW (he:PE X e te):PS X (.Return (some e) pos) (tRet te):=by
 intro pins s σ H D I h
 exact wpAny_Return_some (thn (he pins s σ H _ I h) fun v s1 ⟨x,H1,I1,r1,q1⟩=>⟨x,σ,H1,I1,r1,q1⟩)
def tIfS (c:TT)(t u:TS):TS:=fun D σ H=>c σ H fun b H1=>if b=true then t D σ H1 else u D σ H1
def zhS {c:Expr}{a b:List Stmt}{tc:TT}(hc:PT X c tc)(ha:PSs X a t)(hb:PSs X b u):PS X (.If c a b pos) (tIfS tc t u):=by
 intro pins s σ H D I h
 refine wpAny_If (thn (hc pins s σ H _ I h) fun d s1 ⟨H1,I1,q1⟩ => ?_)
 cases d with
 | true=>exact ha pins s1 σ H1 D I1 q1
 | false=>exact hb pins s1 σ H1 D I1 q1
end
abbrev TG:=V->St->Hp->(St->Hp->Prop)->Prop
abbrev TGs:=List V->St->Hp->(St->Hp->Prop)->Prop
def PG (X:Cx)(target:Expr)(t:TG):Prop:=
 ∀ (pins:List (Addr × Obj)) (s:Shared) (σ:St) (H:Hp) (v:V) (u:Value) (Q:St->Hp->Prop),Inv X pins σ H s->RelV v u->t v σ H Q->
  wpAny (model X.prog X.w) X.A (assign target X.env u) (fun _ s'=>∃ σ' H',Inv X pins σ' H' s'/\Q σ' H') X.xe s
section
variable {X:Cx}{pos:Pos}
def z63 (i:Nat):TG:=fun v σ H Q=>Q (σ.set i (some v)) H
def zba {i:Nat}{x:Str}(hN:X.N.Nodup)(hi:X.N[i]? = some x)(hx:Loc X.env.scope x)(hf:X.fn x=true\/X.env.scope.names.lookup x=some .local:=by first | exact .inl rfl | exact .inr rfl | assumption):PG X (.Name x pos) (z63 i):=by
 intro pins s σ H v u Q I r h
 exact wpAny_assign_Name (z98 I hN hi hx r (fun s' I'=>⟨_,H,I',h⟩) hf)
def gNil:TGs:=fun vs σ H Q=>vs=[]/\Q σ H
def zh5 (t:TG)(u:TGs):TGs:=fun vs σ H Q=>∃ v r,vs=v::r/\t v σ H fun σ' H'=>u r σ' H' Q
def gTup (K:W.Frag)(n:Nat)(t:TGs):TG:=fun v σ H Q=>∃ a xs,v = .ref a/\SqT K H a xs/\xs.length=n/\t xs σ H Q
def tAsg (te:TE)(g:TG):TS:=fun D σ H=>te σ H fun x H1=>g x σ H1 D.nx
def zfV {i:Nat}{x:Str}{e:Expr}{te:TE}{pos':Pos}(hN:X.N.Nodup)(hi:X.N[i]? = some x)(hx:Loc X.env.scope x)(he:PE X e te)(hs:swapsWith e (some (.Name x pos')) pos.line X.env=pure false:=by rfl)(hf:X.fn x=true\/X.env.scope.names.lookup x=some .local:=by first | exact .inl rfl | exact .inr rfl | assumption):
  PS X (.Assign [.Name x pos'] e pos) (tAsg te (z63 i)):=by
 intro pins s σ H D I h
 refine wpAny_Assign_Name (thn (he pins s σ H _ I h) fun v s1 ⟨y,H1,I1,r1,q1⟩ => ?_) hs
 exact z98 I1 hN hi hx r1 (fun s2 I2=>⟨_,H1,I2,q1⟩) hf
end
section
variable {X:Cx}{pos:Pos}
def zdl (c:TT)(tb:TS):TS:=fun D σ H=>∃ W:Nat->St->Hp->Prop,(∃ m,W m σ H)/\∀ m σ H,W m σ H->
 c σ H fun b H1=>if b=true then ∃ N:St->Hp->Prop,(∀ σ' H',N σ' H'->∃ m',m' < m/\W m' σ' H')/\tb { D with nx:=N,ct:=N,bk:=D.nx } σ H1 else D.nx σ H1
def zcr {c:Expr}{body:List Stmt}{tc:TT}{tb:TS}(hp:PassesOwn (model X.prog X.w) X.A X.env X.xe)(hc:PT X c tc)(hb:PSs X body tb):PS X (.While c body [] pos) (zdl tc tb):=by
 intro pins s σ H D I h
 obtain⟨W,⟨m0,w0⟩,turn⟩:=h
 refine wpAny_While (codeAny_whileLoop (fun n s'=>∃ σ' H',Inv X pins σ' H' s'/\W n σ' H') ?_ m0 ⟨σ,H,I,w0⟩)
 rintro n s1 ⟨σ1,H1,I1,w1⟩
 refine wpAny_passesOwn hp (thn (hc pins s1 σ1 H1 _ I1 (turn n σ1 H1 w1)) fun b s2 ⟨H2,I2,q2⟩ => ?_)
 cases b with
 | true=>
  obtain⟨N,hN,q2⟩:=q2
  rw[if_pos rfl]
  refine wpAny_passesOwn hp (thn (hb pins s2 σ1 H2 _ I2 q2) fun f s3 q3 => ?_)
  cases f with
  | next=>
   obtain⟨σ3,H3,I3,n3⟩:=q3
   obtain⟨m',hm,w3⟩:=hN σ3 H3 n3
   exact⟨m',hm,σ3,H3,I3,w3⟩
  | cont=>
   obtain⟨σ3,H3,I3,n3⟩:=q3
   obtain⟨m',hm,w3⟩:=hN σ3 H3 n3
   exact⟨m',hm,σ3,H3,I3,w3⟩
  | brk=>exact q3
  | ret v=>exact q3
 | false=>
  rw[if_neg Bool.false_ne_true]
  exact wpAny_execs_nil ⟨σ1,H2,I2,q2⟩
end
structure It where
 go:Nat->Hp->Prop
 yld:Nat->Hp->V->Hp->Prop
 stop:Nat->Hp->Prop
def FpOk (X:Cx)(pins:List (Addr × Obj))(H:Hp)(b:Addr):Prop:=
 H b=none/\b≠X.env.locals/\b ∉ X.fs/\(b∈X.ex\/X.s₀.heap.objs.size<=b)/\(∀ x c,X.env.cells.lookup x=some c->c≠b)/\∀ p∈X.pn++pins,p.1≠b
def Inv.fpOk {X:Cx}{pins:List (Addr × Obj)}{σ:St}{H H':Hp}{s:Shared}{b:Addr}(I:Inv X pins σ H s)(hb:s.heap.objs.size<=b)(hn:H' b=none):FpOk X pins H' b:=by
 refine⟨hn,Nat.ne_of_gt (Nat.lt_of_lt_of_le I.lt hb),I.nofs hb,.inr (Nat.le_trans I.sz hb),fun x c e z => ?_,fun p hp z => ?_⟩
 ·obtain⟨v,q⟩:=I.cell x c e
  exact absurd (Nat.lt_of_lt_of_le q.lt (by rw[z]; exact hb)) (Nat.lt_irrefl _)
 ·exact absurd (Nat.lt_of_lt_of_le (Heap.lt_size (I.pin p hp).1) (by rw[z]; exact hb)) (Nat.lt_irrefl _)
structure Turn (P:Program)(w:World)(K:W.Frag)(tg:Expr)(J:It)(fp:List Addr)(it:Addr)(tn:Nat->Heap->Prop):Prop where
 mem:it∈fp
 obj:∀ i h,tn i h->∀ b∈fp,∃ o,h.get? b=some o/\∀ v,o.data ≠ .cell v
 keep:∀ i h h',tn i h->(∀ b∈fp,∀ o,h.get? b=some o->h'.get? b=some o)->tn i h'
 item:∀ (X:Cx),X.prog=P->X.w=w->X.K=K->X.calm=true->∀ (i:Nat) (pins:List (Addr × Obj)) (s:Shared) (σ:St) (H:Hp) (E:Value->Shared->Prop),Inv X pins σ H s->(∀ b∈fp,FpOk X pins H b)->tn i s.heap->J.go i H->
  wpAny (model P w) X.A (pyNext (.ref it)) (fun r s1=>∃ u,r=some u/\
   wpAny (model P w) X.A (letOwnedTupleGo tg (.ref it) u) (fun _ s2=>∃ x H',Inv X pins σ H' s2/\RelV x u/\J.yld i H x H'/\tn (i+1) s2.heap/\∀ b∈fp,H' b=none) E s1) E s
 done:∀ (X:Cx),X.prog=P->X.w=w->X.K=K->X.calm=true->∀ (i:Nat) (pins:List (Addr × Obj)) (s:Shared) (σ:St) (H:Hp) (E:Value->Shared->Prop),Inv X pins σ H s->(∀ b∈fp,FpOk X pins H b)->tn i s.heap->J.stop i H->
  wpAny (model P w) X.A (pyNext (.ref it)) (fun r s1=>r=none/\Inv X pins σ H s1) E s
 self:∀ (A:Around) (i:Nat) (s:Shared) (Q:Value->Shared->Prop) (E:Value->Shared->Prop),tn i s.heap->Q (.ref it) s->wpAny (model P w) A (pyIter (.ref it)) Q E s
abbrev TI:=St->Hp->(It->Hp->Prop)->Prop
def PIE (X:Cx)(pins:List (Addr × Obj))(σ:St)(tg:Expr)(R:It->Hp->Prop)(itv:Value)(s2:Shared):Prop:=
 ∃ (it:Addr) (fp:List Addr) (tn:Nat->Heap->Prop) (J:It) (H':Hp),itv = .ref it/\Inv X pins σ H' s2/\Turn X.prog X.w X.K tg J fp it tn/\tn 0 s2.heap/\(∀ b∈fp,FpOk X pins H' b)/\R J H'
def PI (X:Cx)(tg iter:Expr)(wi:TI):Prop:=
 ∀ (pins:List (Addr × Obj)) (s:Shared) (σ:St) (H:Hp) (R:It->Hp->Prop),Inv X pins σ H s->wi σ H R->
  wpAny (model X.prog X.w) X.A (eval iter X.env) (fun v s1=>wpAny (model X.prog X.w) X.A (pyIter v) (PIE X pins σ tg R) X.xe s1) X.xe s
def zd2 {M:Model}{A:Around}{E:Value->Shared->Prop}{s:Shared}{tg:Expr}{it:Addr}{u:Value}{o:Obj}{n:String}{vs:Array Value}{Q:Unit->Shared->Prop}(ho:s.heap.get? it=some o)(hc:o.cls = .type n)(hd:o.data = .fields vs)
  (hn:["enumerate","zip","dict_itemiterator","dict_reverseitemiterator","odict_iterator","itertools.zip_longest","itertools.pairwise"].contains n=false) (hQ:Q () s):wpAny M A (letOwnedTupleGo tg (.ref it) u) Q E s:=by
 unfold letOwnedTupleGo
 cases tg <;> first
  | exact wpAny_pure hQ
  | (cases u <;> first
    | exact wpAny_pure hQ
    | (refine wpAny_bind (wpAny_load ho ?_)
       rw[hc,hd]
       show wpAny M A (if (["enumerate","zip","dict_itemiterator","dict_reverseitemiterator","odict_iterator","itertools.zip_longest","itertools.pairwise"].contains n && vs[0]? == some (rawInt _))=true then _ else _) Q E s
       rw[if_neg (by intro h; rw[hn,Bool.false_and] at h; cases h)]
       exact wpAny_pure hQ))
def Itl (K:W.Frag)(a:Addr):It:=
 ⟨fun i H=>∃ xs x,SqL K H a xs/\xs[i]? = some x,fun i H x H'=>H'=H/\∀ xs,SqL K H a xs->xs[i]? = some x,fun i H=>∃ xs,SqL K H a xs/\xs.length<=i⟩
def Itt (K:W.Frag)(a:Addr):It:=
 ⟨fun i H=>∃ xs x,SqT K H a xs/\xs[i]? = some x,fun i H x H'=>H'=H/\∀ xs,SqT K H a xs->xs[i]? = some x,fun i H=>∃ xs,SqT K H a xs/\xs.length<=i⟩
def Itr (lo:Int)(n:Nat):It:=⟨fun i _=>i < n,fun i H x H'=>H'=H/\x = .int (lo+i),fun i _=>n<=i⟩
def zau {P:Program}{w:World}{K:W.Frag}{tg:Expr}(a it:Addr):Turn P w K tg (Itl K a) [it] it (fun i h=>h.IsListIter it a i) where
 mem:=by simp
 obj:=fun i h st b hb=>by
  have e:b=it:=by simpa using hb
  subst e
  obtain⟨o,e,c,d⟩:=st
  exact⟨o,e,fun v z=>by rw[d] at z; cases z⟩
 keep:=fun i h h' st k=>st.at fun o e=>k it (by simp) o e
 item:=by
  intro X hP hw hK hc i pins s σ H E I hf st hg
  subst hP hw hK
  obtain⟨xs,x,hq,hx⟩:=hg
  obtain⟨its,rv,p,hz⟩:=I.list hq
  obtain⟨u,hu,ru⟩:=rv.get hx
  obtain⟨f0,f1,f2,f3,f4,f5⟩:=hf it (by simp)
  refine wpAny_pyNext_list_item st p.isList (x:=u) (by simpa using hu) fun h' st' sb => ?_
  have I1:Inv X pins σ H { s with heap:=h' }:=I.turned (t':=s.toks) (fun b o hb e=>(sb.2 b hb).trans e) f0 f1 f3 f4 f5
  obtain⟨o,e,c,d⟩:=id st'
  exact⟨u,rfl,zd2 (s:={ s with heap:=h' }) e c d (by decide) ⟨x,H,I1,ru,⟨rfl,fun ys hy=>by rw[I.list_inj hy hq]; exact hx⟩,st',fun b hb=>(hf b hb).1⟩⟩
 done:=by
  intro X hP hw hK hc i pins s σ H E I hf st hg
  subst hP hw hK
  obtain⟨xs,hq,hx⟩:=hg
  obtain⟨its,rv,p,hz⟩:=I.list hq
  obtain⟨f0,f1,f2,f3,f4,f5⟩:=hf it (by simp)
  have hl:=rv.length
  exact wpAny_pyNext_list_end (I.ok.hd hc) st p.isList (by simp; omega) fun h' eb=>⟨rfl,I.turned (t':=s.toks) (fun b o hb e=>eb b o hb e) f0 f1 f3 f4 f5⟩
 self:=fun _ _ _ _ _ st h=>wpAny_pyIter_listiter st h
def z9Q {P:Program}{w:World}{K:W.Frag}{tg:Expr}(a it:Addr):Turn P w K tg (Itt K a) [it] it (fun i h=>h.IsTupleIter it a i) where
 mem:=by simp
 obj:=fun i h st b hb=>by
  have e:b=it:=by simpa using hb
  subst e
  obtain⟨o,e,c,d⟩:=st
  exact⟨o,e,fun v z=>by rw[d] at z; cases z⟩
 keep:=fun i h h' st k=>st.at fun o e=>k it (by simp) o e
 item:=by
  intro X hP hw hK hc i pins s σ H E I hf st hg
  subst hP hw hK
  obtain⟨xs,x,hq,hx⟩:=hg
  obtain⟨its,rv,p,hz⟩:=I.tuple hq
  obtain⟨u,hu,ru⟩:=rv.get hx
  obtain⟨f0,f1,f2,f3,f4,f5⟩:=hf it (by simp)
  refine wpAny_pyNext_tuple_item st (show s.heap.IsTuple a its.toArray from p) (x:=u) (by simpa using hu) fun h' st' sb => ?_
  have I1:Inv X pins σ H { s with heap:=h' }:=I.turned (t':=s.toks) (fun b o hb e=>(sb.2 b hb).trans e) f0 f1 f3 f4 f5
  obtain⟨o,e,c,d⟩:=id st'
  exact⟨u,rfl,zd2 (s:={ s with heap:=h' }) e c d (by decide) ⟨x,H,I1,ru,⟨rfl,fun ys hy=>by rw[I.tuple_inj hy hq]; exact hx⟩,st',fun b hb=>(hf b hb).1⟩⟩
 done:=by
  intro X hP hw hK hc i pins s σ H E I hf st hg
  subst hP hw hK
  obtain⟨xs,hq,hx⟩:=hg
  obtain⟨its,rv,p,hz⟩:=I.tuple hq
  obtain⟨f0,f1,f2,f3,f4,f5⟩:=hf it (by simp)
  have hl:=rv.length
  exact wpAny_pyNext_tuple_end (I.ok.hd hc) st (show s.heap.IsTuple a its.toArray from p) (by simp; omega) fun h' eb=>⟨rfl,I.turned (t':=s.toks) (fun b o hb e=>eb b o hb e) f0 f1 f3 f4 f5⟩
 self:=fun _ _ _ _ _ st h=>wpAny_pyIter_tupleiter st h
def z9R {P:Program}{w:World}{K:W.Frag}{tg:Expr}(it:Addr)(lo:Int)(n:Nat):Turn P w K tg (Itr lo n) [it] it (fun i h=>IsRangeIter h it (lo+(i:Nat)*1) ((n:Int) - (i:Nat)) 1) where
 mem:=by simp
 obj:=fun i h st b hb=>by
  have e:b=it:=by simpa using hb
  subst e
  exact⟨_,st,fun v z=>by
   have z':Data.fields _=Data.cell v:=z
   cases z'⟩
 keep:=fun i h h' st k=>k it (by simp) _ st
 item:=by
  intro X hP hw hK hc i pins s σ H E I hf st hg
  subst hP hw hK
  obtain⟨f0,f1,f2,f3,f4,f5⟩:=hf it (by simp)
  have W:=Walks.range (prog:=X.prog) (w:=X.w) (I.ok.hd hc) it lo 1 n
  refine W.item i s _ _ hg st fun v h' tk hv st' kk => ?_
  obtain⟨t,rfl⟩:=hv
  have I1:Inv X pins σ H { s with heap:=h',toks:=tk }:=I.turned (fun b o hb e=>kk b o (by simpa using hb) e) f0 f1 f3 f4 f5
  refine⟨_,rfl,zd2 (s:={ s with heap:=h',toks:=tk }) (n:="range_iterator") st' rfl rfl (by decide) ⟨.int (lo+i),H,I1,⟨t,?_⟩,⟨rfl,rfl⟩,st',fun b hb=>(hf b hb).1⟩⟩
  rw[Int.mul_one]
 done:=by
  intro X hP hw hK hc i pins s σ H E I hf st hg
  subst hP hw hK
  obtain⟨f0,f1,f2,f3,f4,f5⟩:=hf it (by simp)
  exact wpAny_pyNext_range_end (I.ok.hd hc) st (by have:n<=i:=hg; omega) fun h' eb=>⟨rfl,I.turned (t':=s.toks) (fun b o hb e=>eb b o hb e) f0 f1 f3 f4 f5⟩
 self:=fun _ _ _ _ _ st h=>wpAny_pyIter_rangeiter st h
section
variable {X:Cx}{tg:Expr}
def z9h {pins:List (Addr × Obj)}{σ:St}{H:Hp}{s:Shared}{R:It->Hp->Prop}{E:Value->Shared->Prop}{lo hi:Int}{t u v:Tok}{tk:Nat}(I:Inv X pins σ H s)(h1 : -(2 ^ 62)<=lo)(h2:lo < 2 ^ 62)(h3 : -(2 ^ 62)<=hi)(h4:hi < 2 ^ 62)
  (q:R (Itr lo (hi - lo).toNat) H):wpAny (model X.prog X.w) X.A (pyIter (.ref s.heap.objs.size)) (PIE X pins σ tg R) E { s with heap:=s.heap.push { cls :=.type "range",data :=.fields #[.int lo t,.int hi u,.int 1 v] },toks:=tk }:=by
 refine wpAny_pyIter_range (IsRange.new ..) (small_one h1 h2 h3 h4) ?_
 have I1:Inv X pins σ H { s with heap:=s.heap.push { cls :=.type "range",data :=.fields #[.int lo t,.int hi u,.int 1 v] },toks:=tk }:=I.kept fun b o e=>Heap.get?_push_of_some _ e
 refine⟨(s.heap.push { cls :=.type "range",data :=.fields #[.int lo t,.int hi u,.int 1 v] }).objs.size,[(s.heap.push { cls :=.type "range",data :=.fields #[.int lo t,.int hi u,.int 1 v] }).objs.size],_,_,H,rfl,
  I1.kept (t':=tk) fun b o e=>Heap.get?_push_of_some _ e,z9R _ lo (hi - lo).toNat,?_,fun b hb => ?_,q⟩
 ·have e1:lo+((0:Nat):Int)*1=lo:=by simp
  have e2:(((hi - lo).toNat:Nat):Int) - ((0:Nat):Int)=Builtin.Range.rangeSize lo hi 1:=by rw[rangeSize_one]; split <;> omega
  show IsRangeIter _ _ (lo+((0:Nat):Int)*1) ((((hi - lo).toNat:Nat):Int) - ((0:Nat):Int)) 1
  rw[e1,e2]
  exact Heap.get?_push_size _ rfl
 ·have e:b=(s.heap.push { cls :=.type "range",data :=.fields #[.int lo t,.int hi u,.int 1 v] }).objs.size:=by simpa using hb
  subst e
  exact I1.fpOk (Nat.le_refl _) (I1.hok.fresh (Nat.le_refl _))
def zh4 (ta:TA):TI:=fun σ H R=>ta σ H fun vs H1=>∃ j:Int,vs=[.int j] /\ -(2 ^ 62)<=j/\j < 2 ^ 62/\R (Itr 0 j.toNat) H1
def zh3 (ta:TA):TI:=fun σ H R=>ta σ H fun vs H1=>∃ i j:Int,vs=[.int i,.int j]/\(-(2 ^ 62)<=i/\i < 2 ^ 62 /\ -(2 ^ 62)<=j/\j < 2 ^ 62)/\R (Itr i (j - i).toNat) H1
def zb9 {a:Expr}{ta:TA}{p pos:Pos}(hg:Gl X "range")(hm:X.mg "range"=none)(ha:PA X [a] ta)(hs:starEach [a] X.env=[(false,eval a X.env)]:=by rfl):PI X tg (.Call (.Name "range" p) [a] [] pos) (zh4 ta):=by
 intro pins s σ H R I h
 refine Call_ (z5t I hg hm boot_range (PyProof.Rows.callWith_type1 (thn (ha pos pins s σ H _ I h) fun us s1 ⟨vs,H1,I1,r1,q1⟩ => ?_) hs rfl))
 obtain⟨j,e,q1,q2,q⟩:=q1
 subst e
 cases r1 with
 | cons r rr=>
  cases rr
  obtain⟨t,rfl⟩:=r
  exact call_range_1 (z9h I1 (by omega) (by omega) q1 q2 (by simpa using q))
def zb8 {a b:Expr}{ta:TA}{p pos:Pos}(hg:Gl X "range")(hm:X.mg "range"=none)(ha:PA X [a,b] ta)(hs:starEach [a,b] X.env=[(false,eval a X.env),(false,eval b X.env)]:=by rfl)(hs2:starEach [b] X.env=[(false,eval b X.env)]:=by rfl):
  PI X tg (.Call (.Name "range" p) [a,b] [] pos) (zh3 ta):=by
 intro pins s σ H R I h
 refine Call_ (z5t I hg hm boot_range (PyProof.Rows.callWith_type1 (thn (ha pos pins s σ H _ I h) fun us s1 ⟨vs,H1,I1,r1,q1⟩ => ?_) (by rw[hs,hs2]) (by rw[hs2]; rfl)))
 obtain⟨i,j,e,⟨q1,q2,q3,q4⟩,q⟩:=q1
 subst e
 cases r1 with
 | cons r rr=>
  cases rr with
  | cons r' rr=>
   cases rr
   obtain⟨t,rfl⟩:=r
   obtain⟨t',rfl⟩:=r'
   exact call_range_2 (z9h I1 q1 q2 q3 q4 q)
def tFor (wi:TI)(g:TG)(tb:TS):TS:=fun D σ H=>wi σ H fun J H1=>∃ W:Nat->Nat->St->Hp->Prop,(∃ m,W 0 m σ H1)/\∀ i m σ H,W i m σ H->
 (J.stop i H/\D.nx σ H)\/(J.go i H/\∃ N:St->Hp->Prop,(∀ σ' H',N σ' H'->∃ m',m' < m/\W (i+1) m' σ' H')/\∀ x H',J.yld i H x H'->g x σ H' fun σ2 H2=>tb { D with nx:=N,ct:=N,bk:=D.nx } σ2 H2)
def z6j (fp:List Addr)(h:Heap):List (Addr × Obj):=fp.filterMap fun b=>(h.get? b).map fun o=>(b,o)
def z3H {fp:List Addr}{h:Heap}{b:Addr}{o:Obj}(hb:b∈fp)(e:h.get? b=some o):(b,o)∈z6j fp h:=List.mem_filterMap.mpr ⟨b,hb,by rw[e]; rfl⟩
def zbf {fp:List Addr}{h:Heap}{p:Addr × Obj}(hp:p∈z6j fp h):p.1∈fp/\h.get? p.1=some p.2:=by
 obtain⟨b,hb,e⟩:=List.mem_filterMap.mp hp
 cases q:h.get? b with
 | none=>rw[q] at e; cases e
 | some o=>
  rw[q] at e
  have e':(b,o)=p:=Option.some.inj e
  subst e'
  exact⟨hb,q⟩
def Inv.pinned {pins:List (Addr × Obj)}{σ:St}{H:Hp}{s:Shared}{fp:List Addr}(I:Inv X pins σ H s)(hf:∀ b∈fp,FpOk X pins H b)(ho:∀ b∈fp,∃ o,s.heap.get? b=some o/\∀ v,o.data ≠ .cell v):Inv X (pins++z6j fp s.heap) σ H s:=
 I.pins_of fun p hp=>(List.mem_append.mp hp).elim (fun z=>I.pin p (List.mem_append_right _ z)) fun z=>by
  obtain⟨hb,e⟩:=zbf z
  obtain⟨f0,f1,f2,_⟩:=hf p.1 hb
  obtain⟨o,e',d⟩:=ho p.1 hb
  rw[e] at e'; cases e'
  exact⟨e,f0,f1,f2,d⟩
def Inv.unpinned {pins pl:List (Addr × Obj)}{σ:St}{H:Hp}{s:Shared}(I:Inv X (pins++pl) σ H s):Inv X pins σ H s:=I.pins_of fun p hp=>I.pin p (List.mem_append_right _ (List.mem_append_left _ hp))
def zfX {iter:Expr}{body:List Stmt}{wi:TI}{g:TG}{tb:TS}{pos:Pos}(hp:PassesOwn (model X.prog X.w) X.A X.env X.xe)(hc:X.calm=true)(hi:PI X tg iter wi)(hg:PG X tg g)(hb:PSs X body tb)
  (hs:∀ x,foldedSetIterable iter X.env x=pure x:=by intro _; rfl):PS X (.For tg iter body [] pos) (tFor wi g tb):=by
 intro pins s σ H D I h
 refine wpAny_For (thn (hi pins s σ H _ I h) fun v s1 h1=>thn h1 fun itv s2 h2 => ?_) hs
 obtain⟨it,fp,tn,J,H2,e,I2,T,st2,f2,W,⟨m0,w0⟩,turn⟩:=h2
 subst e
 have stat:∀ {H':Hp},(∀ b∈fp,H' b=none)->∀ b∈fp,FpOk X pins H' b:=fun hn b hb=>⟨hn b hb,(f2 b hb).2⟩
 refine codeAny_forLoop_any (fun n s'=>∃ i σ' H',Inv X pins σ' H' s'/\tn i s'.heap/\(∀ b∈fp,H' b=none)/\W i n σ' H') ?_ m0 ⟨0,σ,H2,I2,st2,fun b hb=>(f2 b hb).1,w0⟩
 rintro n s3 ⟨i,σ3,H3,I3,st3,fr3,w3⟩
 rcases turn i n σ3 H3 w3 with ⟨stop,qn⟩ | ⟨go,N,hN,step⟩
 ·refine wpAny_passesOwn hp (thn (T.done X rfl rfl rfl hc i pins s3 σ3 H3 X.xe I3 (stat fr3) st3 stop) fun r s4 ⟨hr,I4⟩ => ?_)
  subst hr
  exact wpAny_execs_nil ⟨σ3,H3,I4,qn⟩
 ·refine wpAny_passesOwn hp (thn (T.item X rfl rfl rfl hc i pins s3 σ3 H3 X.xe I3 (stat fr3) st3 go) fun r s4 ⟨u,hr,h4⟩ => ?_)
  subst hr
  refine wpAny_passesOwn hp (thn h4 fun _ s5 ⟨x,H5,I5,r5,y5,st5,fr5⟩ => ?_)
  have I5':=I5.pinned (stat fr5) (T.obj _ _ st5)
  refine wpAny_passesOwn hp (thn (hg _ s5 σ3 H5 x u _ I5' r5 (step x H5 y5)) fun _ s6 ⟨σ6,H6,I6,q6⟩ => ?_)
  refine wpAny_passesOwn hp (thn (hb _ s6 σ6 H6 _ I6 q6) fun f s7 q7 => ?_)
  have again:∀ {σ7:St}{H7:Hp},Inv X (pins++z6j fp s5.heap) σ7 H7 s7->N σ7 H7->∃ m,m < n/\∃ i σ' H',Inv X pins σ' H' s7/\tn i s7.heap/\(∀ b∈fp,H' b=none)/\W i m σ' H':=fun {σ7 H7} I7 n7=>by
   obtain⟨m',hm,w7⟩:=hN σ7 H7 n7
   refine⟨m',hm,i+1,σ7,H7,I7.unpinned,T.keep _ _ _ st5 fun b hb o e=>(I7.pin (b,o) (List.mem_append_right _ (List.mem_append_right _ (z3H hb e)))).1,fun b hb => ?_,w7⟩
   obtain⟨o,e,d⟩:=T.obj _ _ st5 b hb
   exact(I7.pin (b,o) (List.mem_append_right _ (List.mem_append_right _ (z3H hb e)))).2.1
  cases f with
  | next=>obtain⟨σ7,H7,I7,n7⟩:=q7; exact again I7 n7
  | cont=>obtain⟨σ7,H7,I7,n7⟩:=q7; exact again I7 n7
  | brk=>obtain⟨σ7,H7,I7,q7⟩:=q7; exact⟨σ7,H7,I7.unpinned,q7⟩
  | ret v=>obtain⟨x7,σ7,H7,I7,r7,q7⟩:=q7; exact⟨x7,σ7,H7,I7.unpinned,r7,q7⟩
end
abbrev R2:=V->V->Hp->VK->Prop
def OpR (X:Cx)(f:Value->Value->Sem Value)(r:R2):Prop:=
 ∀ (pins:List (Addr × Obj)) (s:Shared) (σ:St) (H:Hp) (x y:V) (v u:Value) (Q:VK),Inv X pins σ H s->RelV x v->RelV y u->r x y H Q->
  wpAny (model X.prog X.w) X.A (f v u) (EP X pins σ Q) X.xe s
def UnR (X:Cx)(f:Value->Sem Value)(r:V->Hp->VK->Prop):Prop:=
 ∀ (pins:List (Addr × Obj)) (s:Shared) (σ:St) (H:Hp) (x:V) (v:Value) (Q:VK),Inv X pins σ H s->RelV x v->r x H Q->
  wpAny (model X.prog X.w) X.A (f v) (EP X pins σ Q) X.xe s
def z1T (X:Cx)(f:Value)(r:List V->Hp->VK->Prop):Prop:=
 ∀ (pins:List (Addr × Obj)) (s:Shared) (σ:St) (H:Hp) (xs:List V) (us:List Value) (Q:VK),Inv X pins σ H s->Vals xs us->r xs H Q->
  wpAny (model X.prog X.w) X.A (call f us) (EP X pins σ Q) X.xe s
def tOp (r:R2)(ta tb:TE):TE:=fun σ H Q=>ta σ H fun x H1=>tb σ H1 fun y H2=>r x y H2 Q
def tUn (r:V->Hp->VK->Prop)(ta:TE):TE:=fun σ H Q=>ta σ H fun x H1=>r x H1 Q
def rI (C:Int->Int->Prop)(g:Int->Int->V):R2:=fun x y H Q=>∃ i j,x = .int i/\y = .int j/\C i j/\Q (g i j) H
def rI0 (g:Int->Int->V):R2:=fun x y H Q=>∃ i j,x = .int i/\y = .int j/\Q (g i j) H
def rU (g:Int->V):V->Hp->VK->Prop:=fun x H Q=>∃ i,x = .int i/\Q (g i) H
section
variable {X:Cx}{a b c:Expr}{ta tb tc:TE}{pos:Pos}
def binT (ha:PE X a ta)(hb:PE X b tb){pins:List (Addr × Obj)}{s:Shared}{σ:St}{H:Hp}{R:V->V->Hp->Prop}(I:Inv X pins σ H s)
  (h:ta σ H fun x H1=>tb σ H1 fun y H2=>R x y H2) {Q:Value->Shared->Prop}{f:Value->Value->Sem Value}
  (hf:∀ v u s2 x y H2,Inv X pins σ H2 s2->RelV x v->RelV y u->R x y H2->wpAny (model X.prog X.w) X.A (f v u) Q X.xe s2):
  wpAny (model X.prog X.w) X.A (eval a X.env) (fun v s₁=>wpAny (model X.prog X.w) X.A (eval b X.env) (fun u s₂=>wpAny (model X.prog X.w) X.A (f v u) Q X.xe s₂) X.xe s₁) X.xe s:=by
 refine thn (ha pins s σ H _ I h) fun v s1 ⟨x,H1,I1,r1,q1⟩ => ?_
 refine thn (hb pins s1 σ H1 _ I1 q1) fun u s2 ⟨y,H2,I2,r2,q2⟩ => ?_
 exact hf v u s2 x y H2 I2 r1 r2 q2
def zhV {op:Operator}{r:R2}(ho:OpR X (binaryOp op) r)(ha:PE X a ta)(hb:PE X b tb):PE X (.BinOp a op b pos) (tOp r ta tb):=by
 intro pins s σ H Q I h
 exact wpAny_BinOp (binT ha hb I h fun v u s2 x y H2 I2 rx ry q=>ho pins s2 σ H2 x y v u Q I2 rx ry q)
def zhT {op:UnaryOp}{r:V->Hp->VK->Prop}(ho:UnR X (unaryOp op) r)(ha:PE X a ta):PE X (.UnaryOp op a pos) (tUn r ta):=by
 intro pins s σ H Q I h
 exact UnaryOp_ (thn (ha pins s σ H _ I h) fun v s1 ⟨x,H1,I1,r1,q1⟩=>ho pins s1 σ H1 x v Q I1 r1 q1)
def opI {f:Value->Value->Sem Value}{C:Int->Int->Prop}{g:Int->Int->Int}
  (rule:∀ (i j:Int) (t u:Tok) (s:Shared) (Q:Value->Shared->Prop) (E:Value->Shared->Prop),C i j->Q (.int (g i j) s.toks) { s with toks:=s.toks+1 }->wpAny (model X.prog X.w) X.A (f (.int i t) (.int j u)) Q E s):
  OpR X f (rI C fun i j =>.int (g i j)):=by
 intro pins s σ H x y v u Q I rx ry h
 obtain⟨i,j,rfl,rfl,hc,q⟩:=h
 obtain⟨t,rfl⟩:=rx
 obtain⟨t',rfl⟩:=ry
 exact rule i j t t' s _ _ hc ⟨.int (g i j),H,I.tok _,⟨_,rfl⟩,q⟩
def opI0 {f:Value->Value->Sem Value}{g:Int->Int->Int}
  (rule:∀ (i j:Int) (t u:Tok) (s:Shared) (Q:Value->Shared->Prop) (E:Value->Shared->Prop),Q (.int (g i j) s.toks) { s with toks:=s.toks+1 }->wpAny (model X.prog X.w) X.A (f (.int i t) (.int j u)) Q E s):
  OpR X f (rI0 fun i j =>.int (g i j)):=by
 intro pins s σ H x y v u Q I rx ry h
 obtain⟨i,j,rfl,rfl,q⟩:=h
 obtain⟨t,rfl⟩:=rx
 obtain⟨t',rfl⟩:=ry
 exact rule i j t t' s _ _ ⟨.int (g i j),H,I.tok _,⟨_,rfl⟩,q⟩
def opB0 {f:Value->Value->Sem Value}{g:Int->Int->Bool}
  (rule:∀ (i j:Int) (t u:Tok) (s:Shared) (Q:Value->Shared->Prop) (E:Value->Shared->Prop),Q (.bool (g i j)) s->wpAny (model X.prog X.w) X.A (f (.int i t) (.int j u)) Q E s):
  OpR X f (rI0 fun i j =>.bl (g i j)):=by
 intro pins s σ H x y v u Q I rx ry h
 obtain⟨i,j,rfl,rfl,q⟩:=h
 obtain⟨t,rfl⟩:=rx
 obtain⟨t',rfl⟩:=ry
 exact rule i j t t' s _ _ ⟨.bl (g i j),H,I,rfl,q⟩
def CPow (i j:Int):Prop:=0<=j/\j<=1000000/\i.natAbs < 2 ^ 64
def zgi:OpR X (binaryOp .Add) (rI0 fun i j =>.int (i+j)):=opI0 fun _ _ _ _ _ _ _ q=>add_int q
def zgb:OpR X (binaryOp .Sub) (rI0 fun i j =>.int (i - j)):=opI0 fun _ _ _ _ _ _ _ q=>sub_int q
def zes:OpR X (binaryOp .Mod) (rI (fun _ j=>j≠0) fun i j =>.int (i.fmod j)):=opI fun _ _ _ _ _ _ _ hc q=>mod_int' hc q
def zgc:OpR X (binaryOp .Pow) (rI CPow fun i j =>.int (i ^ j.toNat)):=opI fun _ _ _ _ _ _ _ hc q=>pow_int_small hc.1 hc.2.1 hc.2.2 q
def unI {f:Value->Sem Value}{g:Int->Int}
  (rule:∀ (i:Int) (t:Tok) (s:Shared) (Q:Value->Shared->Prop) (E:Value->Shared->Prop),Q (.int (g i) s.toks) { s with toks:=s.toks+1 }->wpAny (model X.prog X.w) X.A (f (.int i t)) Q E s):
  UnR X f (rU fun i =>.int (g i)):=by
 intro pins s σ H x v Q I rx h
 obtain⟨i,rfl,q⟩:=h
 obtain⟨t,rfl⟩:=rx
 exact rule i t s _ _ ⟨.int (g i),H,I.tok _,⟨_,rfl⟩,q⟩
def zf0:UnR X (unaryOp .USub) (rU fun i =>.int (-i)):=unI fun _ _ _ _ _ q=>neg_int q
end
def scal:V->V->Bool
 | .non,.non=>true | .non,.int _=>true | .int _,.non=>true | .non,.bl _=>true | .bl _,.non=>true | .non,.str _=>true | .str _,.non=>true
 | .int _,.int _=>true | .bl _,.bl _=>true | .str _,.str _=>true | .byt _,.byt _=>true
 | .int _,.str _=>true | .str _,.int _=>true | .bl _,.str _=>true | .str _,.bl _=>true
 | _,_=>false
def rEq:R2:=fun x y H Q=>scal x y=true/\Q (.bl (decide (x=y))) H
def rNe:R2:=fun x y H Q=>scal x y=true/\Q (.bl (!decide (x=y))) H
def zbH {i j:Int}:decide (V.int i=V.int j)=(i == j):=by
 rw[Bool.eq_iff_iff]
 simp
def zdH {i j:Bool}:decide (V.bl i=V.bl j)=(i == j):=by
 rw[Bool.eq_iff_iff]
 simp
def zbG {i j:Str}:decide (V.str i=V.str j)=(i == j):=by
 rw[Bool.eq_iff_iff]
 simp
def zbI {i j:Array UInt8}:decide (V.byt i=V.byt j)=(i.toList == j.toList):=by
 rw[Bool.eq_iff_iff]
 cases i
 cases j
 simp
section
variable {X:Cx}{a b c:Expr}{ta tb tc:TE}{pos:Pos}
def z0J {pins:List (Addr × Obj)}{σ:St}{H:Hp}{s:Shared}{Q:VK}{k k':Bool}(I:Inv X pins σ H s)(q:Q (.bl k) H)(e:k=k'):EP X pins σ Q (.bool k') s:=by
 subst e
 exact⟨.bl k,H,I,rfl,q⟩
def zi6:OpR X (compareOp .Eq) rEq:=by
 intro pins s σ H x y v u Q I rx ry h
 obtain⟨hs,q⟩:=h
 cases x with
 | non=>
  cases rx
  cases y with
  | non=>cases ry; exact PySem.EqNone.eq_none_none (z0J I q (by simp))
  | bl j=>cases ry; exact PySem.EqNone.eq_none_bool (z0J I q (by simp))
  | int j=>obtain⟨t',rfl⟩:=ry; exact PySem.EqNone.eq_none_int (z0J I q (by simp))
  | str j=>obtain⟨t',rfl⟩:=ry; exact PySem.EqNone.eq_none_str (z0J I q (by simp))
  | _=>exact absurd (show false=true from hs) Bool.false_ne_true
 | bl i=>
  cases rx
  cases y with
  | non=>cases ry; exact PySem.EqNone.eq_bool_none (z0J I q (by simp))
  | bl j=>cases ry; exact eq_bool (z0J I q zdH)
  | str j=>obtain⟨t',rfl⟩:=ry; exact PySem.EqMixed.eq_bool_str (z0J I q (by simp))
  | _=>exact absurd (show false=true from hs) Bool.false_ne_true
 | int i=>
  obtain⟨t,rfl⟩:=rx
  cases y with
  | non=>cases ry; exact PySem.EqNone.eq_int_none (z0J I q (by simp))
  | int j=>obtain⟨t',rfl⟩:=ry; exact eq_int (z0J I q zbH)
  | str j=>obtain⟨t',rfl⟩:=ry; exact PySem.EqMixed.eq_int_str (z0J I q (by simp))
  | _=>exact absurd (show false=true from hs) Bool.false_ne_true
 | str i=>
  obtain⟨t,rfl⟩:=rx
  cases y with
  | non=>cases ry; exact PySem.EqNone.eq_str_none (z0J I q (by simp))
  | bl j=>cases ry; exact PySem.EqMixed.eq_str_bool (z0J I q (by simp))
  | int j=>obtain⟨t',rfl⟩:=ry; exact PySem.EqMixed.eq_str_int (z0J I q (by simp))
  | str j=>obtain⟨t',rfl⟩:=ry; exact eq_str (z0J I q zbG)
  | _=>exact absurd (show false=true from hs) Bool.false_ne_true
 | byt i=>
  obtain⟨t,rfl⟩:=rx
  cases y with
  | byt j=>obtain⟨t',rfl⟩:=ry; exact PySem.W.eq_bytes (z0J I q zbI)
  | _=>exact absurd (show false=true from hs) Bool.false_ne_true
 | _=>cases y <;> exact absurd (show false=true from hs) Bool.false_ne_true
def zi2:OpR X (compareOp .NotEq) rNe:=by
 intro pins s σ H x y v u Q I rx ry h
 obtain⟨hs,q⟩:=h
 cases x with
 | non=>
  cases rx
  cases y with
  | non=>cases ry; exact PySem.EqNone.ne_none_none (z0J I q (by simp))
  | bl j=>cases ry; exact PySem.EqNone.ne_none_bool (z0J I q (by simp))
  | int j=>obtain⟨t',rfl⟩:=ry; exact PySem.EqNone.ne_none_int (z0J I q (by simp))
  | str j=>obtain⟨t',rfl⟩:=ry; exact PySem.EqNone.ne_none_str (z0J I q (by simp))
  | _=>exact absurd (show false=true from hs) Bool.false_ne_true
 | bl i=>
  cases rx
  cases y with
  | non=>cases ry; exact PySem.EqNone.ne_bool_none (z0J I q (by simp))
  | bl j=>cases ry; exact ne_bool (z0J I q (congrArg not zdH))
  | str j=>obtain⟨t',rfl⟩:=ry; exact PySem.EqMixed.ne_bool_str (z0J I q (by simp))
  | _=>exact absurd (show false=true from hs) Bool.false_ne_true
 | int i=>
  obtain⟨t,rfl⟩:=rx
  cases y with
  | non=>cases ry; exact PySem.EqNone.ne_int_none (z0J I q (by simp))
  | int j=>obtain⟨t',rfl⟩:=ry; exact ne_int (z0J I q (congrArg not zbH))
  | str j=>obtain⟨t',rfl⟩:=ry; exact PySem.EqMixed.ne_int_str (z0J I q (by simp))
  | _=>exact absurd (show false=true from hs) Bool.false_ne_true
 | str i=>
  obtain⟨t,rfl⟩:=rx
  cases y with
  | non=>cases ry; exact PySem.EqNone.ne_str_none (z0J I q (by simp))
  | bl j=>cases ry; exact PySem.EqMixed.ne_str_bool (z0J I q (by simp))
  | int j=>obtain⟨t',rfl⟩:=ry; exact PySem.EqMixed.ne_str_int (z0J I q (by simp))
  | str j=>obtain⟨t',rfl⟩:=ry; exact ne_str (z0J I q (congrArg not zbG))
  | _=>exact absurd (show false=true from hs) Bool.false_ne_true
 | byt i=>
  obtain⟨t,rfl⟩:=rx
  cases y with
  | byt j=>obtain⟨t',rfl⟩:=ry; exact PySem.W.ne_bytes (z0J I q (congrArg not zbI))
  | _=>exact absurd (show false=true from hs) Bool.false_ne_true
 | _=>cases y <;> exact absurd (show false=true from hs) Bool.false_ne_true
def zi3:OpR X (compareOp .Lt) (rI0 fun i j =>.bl (decide (i < j))):=opB0 fun _ _ _ _ _ _ _ q=>lt_int q
def zi4:OpR X (compareOp .LtE) (rI0 fun i j =>.bl (decide (i<=j))):=opB0 fun _ _ _ _ _ _ _ q=>le_int q
def zi5:OpR X (compareOp .Gt) (rI0 fun i j =>.bl (decide (j < i))):=opB0 fun _ _ _ _ _ _ _ q=>gt_int q
def z0I (b:Expr){op:CmpOp}(h:op ≠ .In:=by decide)(h2:op ≠ .NotIn:=by decide):behindInMarks op b=false:=by
 have e1:(op == CmpOp.In)=false:=by cases op <;> first | rfl | exact absurd rfl h
 have e2:(op == CmpOp.NotIn)=false:=by cases op <;> first | rfl | exact absurd rfl h2
 cases b <;> simp[behindInMarks,e1,e2]
def zem {op:CmpOp}{r:R2}(ho:OpR X (compareOp op) r)(ha:PE X a ta)(hb:PE X b tb)(hm:behindInMarks op b=false):PE X (.Compare a [op] [b] pos) (tOp r ta tb):=by
 intro pins s σ H Q I h
 exact wpAny_Compare1 (binT ha hb I h fun v u s2 x y H2 I2 rx ry q=>ho pins s2 σ H2 x y v u Q I2 rx ry q) hm
def zdR (t:TE):TT:=fun σ H Q=>t σ H fun x H'=>∃ k,x = .bl k/\Q k H'
def zeb {op:CmpOp}{r:R2}(ho:OpR X (compareOp op) r)(ha:PE X a ta)(hb:PE X b tb)(hm:behindInMarks op b=false):PT X (.Compare a [op] [b] pos) (zdR (tOp r ta tb)):=by
 intro pins s σ H Q I h
 refine wpAny_isTrue_Compare1 (thn (ha pins s σ H _ I h) fun v s1 ⟨x,H1,I1,r1,q1⟩=>thn (hb pins s1 σ H1 _ I1 q1) fun u s2 ⟨y,H2,I2,r2,q2⟩=>
  thn (ho pins s2 σ H2 x y v u _ I2 r1 r2 q2) fun c s3 ⟨z,H3,I3,r3,k,e,q3⟩ => ?_) hm
 subst e
 cases r3
 exact wpAny_truthy_bool ⟨H3,I3,q3⟩
def z6n:(sizeLine:Nat) < 2 ^ 63:=by rw[sizeLine_eq]; decide
def za4:OpR X (binaryOp .Add) (fun x y H Q=>∃ i j,x = .str i/\y = .str j/\i.length+j.length<=sizeLine/\Q (.str (i++j)) H):=by
 intro pins s σ H x y v u Q I rx ry h
 obtain⟨i,j,rfl,rfl,hz,q⟩:=h
 obtain⟨t,rfl⟩:=rx
 obtain⟨t',rfl⟩:=ry
 exact add_str (fun t' tk=>⟨.str (i++j),H,I.tok _,⟨_,rfl⟩,q⟩) hz
def z4y {x:V}{us:List Value}(r:Vals [x] us):∃ u,us=[u]/\RelV x u:=by
 cases r with
 | cons r1 r2=>cases r2; exact⟨_,rfl,r1⟩
def zhv {x y:V}{us:List Value}(r:Vals [x,y] us):∃ u w',us=[u,w']/\RelV x u/\RelV y w':=by
 cases r with
 | cons r1 r2=>
  cases r2 with
  | cons r3 r4=>cases r4; exact⟨_,_,rfl,r1,r3⟩
def zdd:z1T X (.builtin "abs") (fun xs H Q=>∃ i,xs=[.int i]/\Q (.int (if i < 0 then -i else i)) H):=by
 intro pins s σ H xs us Q I r h
 obtain⟨i,rfl,q⟩:=h
 obtain⟨u,rfl,t,rfl⟩:=z4y r
 exact call_abs_int fun u tk=>⟨.int (if i < 0 then -i else i),H,I.tok _,⟨_,rfl⟩,q⟩
end
structure ObjM (h:Heap)(x dx C:Addr)(mA:Str->Option Value):Prop where
 obj:h.get? x=some (PySem.W.instObj C dx)
 ns:h.Ns1 dx mA
 ne:dx≠x
def zbm {h:Heap}{dx:Addr}{mA:Str->Option Value}(n:h.Ns1 dx mA):∃ od,h.get? dx=some od/\∀ name,PySem.W.lookIn name od=some (mA name):=by
 obtain⟨o,es,ep,ho,hd,hk,_,hm⟩:=n
 refine⟨o,ho,fun name => ?_⟩
 have e:=hm name
 unfold nsFind findBy at e
 rw[<- Array.find?_toList] at e
 unfold PySem.W.lookIn
 rw[hd]
 dsimp only
 split
 ·rename_i y q
  rw[q] at e
  exact congrArg some e
 ·rename_i q
  rw[q] at e
  have a:es.toList.any (·.refKey)=false:=by
   rw[List.any_eq_false]
   intro y hy
   obtain⟨z,t,hkey⟩:=hk y (Array.mem_toList_iff.mp hy)
   simp[DictEntry.refKey,hkey]
  have a':¬ es.toList.any (·.refKey)=true:=by rw[a]; exact Bool.false_ne_true
  rw[if_neg a']
  exact congrArg some e
def ObjM.look {h:Heap}{x dx C:Addr}{mA:Str->Option Value}(I:ObjM h x dx C mA):∃ od,PySem.W.InstAt h x (PySem.W.instObj C dx) C (some od)/\∀ name,PySem.W.lookIn name od=some (mA name):=
 let ⟨od,ho,hl⟩:=zbm I.ns
 ⟨od,⟨I.obj,rfl,rfl,ho⟩,hl⟩
section
variable {P:Program}{w:World}{H H':Hp}{h h':Heap}{a C dx:Addr}{fs fs':List (Str × V)}
def zeK (hok:HOk P w H h)(e:H a=some (.ins C dx fs)):∃ mA,ObjM h a dx C mA/\(∀ f,RelO (fs.lookup f) (mA f))/\PySem.Within mA (fs.map (·.1))/\fs.length<=1000/\H dx=some (.own a):=by
 obtain⟨d,z,ne,ob,mA,n,r,q⟩:=(show z1K P w H h a (.ins C dx fs) from hok a _ e)
 exact⟨mA,⟨ob,n,ne⟩,r,q,z,d⟩
end
structure Cls (K:W.Frag)(C:Addr):Prop where
 pg:PySem.W.plainGet K C Str.empty=true
 hd:PySem.W.hasDictIn K C=true
 po:PySem.W.plainOver K C=true
 sa:PySem.W.findIn K (.ref C) "__setattr__"=some (some (.builtin "object.__setattr__"))
def Cls.get {K:W.Frag}{C:Addr}(c:Cls K C)(f:Str):PySem.W.plainGet K C f=true:=c.pg
section
variable {X:Cx}{pins:List (Addr × Obj)}{σ:St}{H:Hp}{s:Shared}{A:Around}{E:Value->Shared->Prop}{Q:Value->Shared->Prop}{c:Value}{b:Bool}
inductive TyOf (K:W.Frag) (H:Hp):V->Value->Prop where
 | non:TyOf K H .non (.type "NoneType")
 | bl (x:Bool):TyOf K H (.bl x) (.type "bool")
 | int (i:Int):TyOf K H (.int i) (.type "int")
 | str (x:Str):TyOf K H (.str x) (.type "str")
 | flt (x:UInt64):TyOf K H (.flt x) (.type "float")
 | lst {a:Addr}{xs:List V}(e:H a=some (.lst xs)):TyOf K H (.ref a) (.type "list")
 | frz {a:Addr}{o:Obj}{xs:List V}(e:H a=some (.frz o (.lst xs))):TyOf K H (.ref a) (.type "list")
 | tup {a:Addr}{xs:List V}(e:H a=some (.tup xs)):TyOf K H (.ref a) (.type "tuple")
 | dK {a:Addr}{kvs:List (Key × V)}(e:H a=some (.dK kvs)):TyOf K H (.ref a) (.type "dict")
 | dT {a:Addr}{kvs:List (List Key × V)}(e:H a=some (.dT kvs)):TyOf K H (.ref a) (.type "dict")
 | ins {a C dx:Addr}{fs:List (Str × V)}(e:H a=some (.ins C dx fs)) (cl:Cls K C) (ha:PySem.W.findIn K (.ref C) "__class__"=some (some (.builtin "object.__class__")))
   (hn:PySem.W.specialIn K (.builtin "object.__class__") "__get__"=some (some (.builtin "getset_descriptor.__get__"))) (htk:PySem.W.takesIn K (.builtin "object.__class__")=some true)
   (hm:PySem.W.mroIn K C (.type "object")=some true):TyOf K H (.ref a) (.ref C)
def z4o {x:V}{u t:Value}(I:Inv X pins σ H s)(rx:RelV x u)(ty:TyOf X.K H x t)(e:PySem.W.kitOne X.K t c=some b)(h:∀ tk,Q (.bool b) { s with toks:=tk }):
  wpAny (model X.prog X.w) A (call (.builtin "isinstance") [u,c]) Q E s:=by
 cases ty with
 | non=>cases (show u=Value.none from rx); exact PySem.W.kia_one PySem.W.kitx_none I.kIn True.intro e (fun z=>nomatch z) h
 | bl y=>cases (show u=Value.bool y from rx); exact PySem.W.kia_one PySem.W.kitx_bool I.kIn True.intro e (fun z=>nomatch z) h
 | int i=>obtain⟨t,q⟩:=(show ∃ t,u=Value.int i t from rx); cases q; exact PySem.W.kia_one PySem.W.kitx_int I.kIn True.intro e (fun z=>nomatch z) h
 | str y=>obtain⟨t,q⟩:=(show ∃ t,u=Value.str y t from rx); cases q; exact PySem.W.kia_one PySem.W.kitx_str I.kIn True.intro e (fun z=>nomatch z) h
 | flt y=>obtain⟨t,q⟩:=(show ∃ t,u=Value.float y t from rx); cases q; exact PySem.W.kia_one PySem.W.kitx_float I.kIn True.intro e (fun z=>nomatch z) h
 | @lst a xs ea=>
  cases (show u=Value.ref a from rx)
  obtain⟨_,_,n,_,h1⟩:=(show z1K X.prog X.w H s.heap a (.lst xs) from I.hok a _ ea)
  exact PySem.W.kia_one PySem.W.kitx_list I.kIn ⟨_,h1,rfl⟩ e (fun z=>nomatch z) h
 | @frz a ob xs ea=>
  cases (show u=Value.ref a from rx)
  obtain⟨_,_,_,n,_,h1⟩:=(show z1K X.prog X.w H s.heap a (.frz ob (.lst xs)) from I.hok a _ ea)
  exact PySem.W.kia_one PySem.W.kitx_list I.kIn ⟨_,h1,rfl⟩ e (fun z=>nomatch z) h
 | @tup a xs ea=>
  cases (show u=Value.ref a from rx)
  obtain⟨_,_,_,p,_⟩:=(show z1K X.prog X.w H s.heap a (.tup xs) from I.hok a _ ea)
  obtain⟨o,h1,h2,_⟩:=p
  exact PySem.W.kia_one PySem.W.kitx_tuple I.kIn ⟨o,h1,h2⟩ e (fun z=>nomatch z) h
 | @dK a kvs ea=>
  cases (show u=Value.ref a from rx)
  obtain⟨_,_,vs,_,p⟩:=(show z1K X.prog X.w H s.heap a (.dK kvs) from I.hok a _ ea)
  obtain⟨o,es,ep,h1,h2,_⟩:=p
  exact PySem.W.kia_one PySem.W.kitx_dict I.kIn ⟨o,h1,h2.1⟩ e (fun z=>nomatch z) h
 | @dT a kvs ea=>
  cases (show u=Value.ref a from rx)
  obtain⟨_,_,xs,_,o,es,ep,h1,h2,_⟩:=(show z1K X.prog X.w H s.heap a (.dT kvs) from I.hok a _ ea)
  exact PySem.W.kia_one PySem.W.kitx_dict I.kIn ⟨o,h1,h2.1⟩ e (fun z=>nomatch z) h
 | @ins a C dx fs ea cl ha hn htk hm=>
  cases (show u=Value.ref a from rx)
  obtain⟨mA,O,_⟩:=zeK I.hok ea
  obtain⟨od,J,_⟩:=O.look
  exact PySem.W.kia_one (PySem.W.kitx_own (cl.get _) cl.hd ha hn htk hm) I.kIn J e (fun z=>nomatch z) h
end
structure Room (k:Nat)(A:Around):Prop where
 hd:A.handled=none
 dp:A.depth+3*k+5 < recursionLimit
 un:A.units+16*k+200 < cLine
def Room.mono {j k:Nat}{A:Around}(r:Room k A)(h:j<=k):Room j A:=⟨r.hd,by have:=r.dp; omega,by have:=r.un; omega⟩
def Room.deeper {k:Nat}{A:Around}(r:Room (k+1) A)(env:Env):Room k (A.deeper env):=
 ⟨r.hd,by have:=r.dp; show A.depth+1+3*k+5 < _; omega,by have:=r.un; show A.units+3+16*k+200 < _; omega⟩
def Room.depth {k:Nat}{A:Around}(r:Room k A):A.depth < recursionLimit:=by have:=r.dp; omega
def Room.units {k:Nat}{A:Around}(r:Room k A):A.units+64 < cLine:=by have:=r.un; omega
def tNil:TA:=fun _ H Q=>Q [] H
def z7s (ta:TE)(tr:TA):TA:=fun σ H Q=>ta σ H fun x H1=>tr σ H1 fun xs H2=>Q (x::xs) H2
section
variable {X:Cx}{e:Expr}{es:List Expr}{te:TE}{t:TA}{pos:Pos}
def zbd:PA X [] tNil:=fun _ _ _ _ H Q I h=>Calls.spliced_nil ⟨[],H,I,.nil,h⟩
def z8F (ha:PE X e te)(hr:PA X es t)(hs:starEach (e::es) X.env=(false,eval e X.env)::starEach es X.env:=by rfl):PA X (e::es) (z7s te t):=by
 intro pos pins s σ H Q I h
 rw[hs]
 show wpAny _ _ (spliced ((false,eval e X.env)::backTo pos (starEach es X.env))) _ _ s
 refine Calls.spliced_cons (thn (ha pins s σ H _ I h) fun u s1 ⟨x,H1,I1,r1,q1⟩ => ?_)
 exact thn (hr pos pins s1 σ H1 _ I1 q1) fun us s2 ⟨xs,H2,I2,r2,q2⟩=>⟨x::xs,H2,I2,.cons r1 r2,q2⟩
def tTup (t:TA):TE:=fun σ H Q=>t σ H fun xs H1=>xs.length<=sizeLine/\∀ p,H1 p=none->Q (.ref p) (upd H1 p (.tup xs))
def tLst (t:TA):TE:=fun σ H Q=>t σ H fun xs H1=>xs.length<=sizeLine/\∀ p,H1 p=none->Q (.ref p) (upd H1 p (.lst xs))
def zfZ {x1}(h:PA X es t):PE X (.Tuple es x1 pos) (tTup t):=by
 intro pins s σ H Q I hq
 refine wpAny_Tuple_spliced (thn (h pos pins s σ H _ I hq) fun us s1 ⟨xs,H1,I1,r,z,q⟩=>⟨by rw[<- r.length]; exact z,?_⟩)
 have hf:H1 s1.heap.objs.size=none:=I1.hok.fresh (Nat.le_refl _)
 refine⟨.ref s1.heap.objs.size,upd H1 s1.heap.objs.size (.tup xs),I1.laid (t':=s1.toks) (fun b u e=>Heap.get?_push_of_some _ e) (Nat.le_refl _) ?_,rfl,q _ hf⟩
 exact⟨z,us,r,⟨_,Heap.get?_push_size _ rfl,rfl,_,rfl⟩,_,Heap.get?_push_size _ rfl,rfl⟩
def zg2 (h:PA X es t):PE X (.List es pos) (tLst t):=by
 intro pins s σ H Q I hq
 refine wpAny_List_spliced (thn (h pos pins s σ H _ I hq) fun us s1 ⟨xs,H1,I1,r,z,q⟩=>⟨by rw[<- r.length]; exact z,?_⟩)
 have hf:H1 s1.heap.objs.size=none:=I1.hok.fresh (Nat.le_refl _)
 refine⟨.ref s1.heap.objs.size,upd H1 s1.heap.objs.size (.lst xs),I1.laid (t':=s1.toks) (fun b u e=>Heap.get?_push_of_some _ e) (Nat.le_refl _) ?_,rfl,q _ hf⟩
 exact⟨z,us,0,r,Heap.get?_push_size _ rfl⟩
end
abbrev Sp:=List V->Hp->VK->XK->Prop
abbrev CXT:=List Env->Hp->Shared->XK->Value->Shared->Prop
structure Env0 (P:Program)(w:World)(K:W.Frag)(mg:Str->Option Value)(base:Heap)(A:Around)(outer:List Env)(s:Shared)(H:Hp):Prop where
 frames:A.frames=some outer
 mod:Mod K mg base
 bs:∀ b o,base.get? b=some o->s.heap.get? b=some o/\H b=none
 bsz:base.objs.size<=s.heap.objs.size
 funs:s.heap.FunFrames base outer
 frf:∀ b∈frs outer,H b=none
 tbs:Tbs K H
 hok:HOk P w H s.heap
 bare:AllBare s.gens
def CE (outer:List Env)(P:Program)(w:World)(H:Hp)(s:Shared)(Q:VK)(u:Value)(s':Shared):Prop:=
 ∃ v H',s'.os=s.os/\AllBare s'.gens/\Un (frs outer) [] H H' s.heap s'.heap/\HOk P w H' s'.heap/\RelV v u/\Q v H'
def CR (CX:CXT)(outer:List Env)(P:Program)(w:World)(H:Hp)(s:Shared)(Q:VK)(E:XK)(r:Result)(s':Shared):Prop:=
 match r with
 | .ok (.ret u)=>CE outer P w H s Q u s'
 | .ok _=>False
 | .error e=>CX outer H s E e s'
structure FnOk (P:Program)(w:World)(K:W.Frag)(mg:Str->Option Value)(base:Heap)(CX:CXT)(k:Nat)(f:Addr)(fd:FuncData)(ps:List Str)(sp:Sp):Prop where
 len:∀ vs H Q E,sp vs H Q E->vs.length=ps.length
 run:∀ (A:Around) (outer:List Env) (s:Shared) (H:Hp) (args:Args) (us:List Value) (vs:List V) (Q:VK) (E:XK),Room k A->Env0 P w K mg base A outer s H->BindsTo s fd args (ps.zip us)->Vals vs us->sp vs H Q E->
  codeAny (model P w) A (.call (.ref f) args) (CR CX outer P w H s Q E) s
def FnOk.imp {P:Program}{w:World}{K:W.Frag}{mg:Str->Option Value}{base:Heap}{CX:CXT}{k:Nat}{f:Addr}{fd:FuncData}{ps:List Str}{sp sp':Sp}(F:FnOk P w K mg base CX k f fd ps sp)
  (h:∀ vs H Q E,sp' vs H Q E->sp vs H Q E):FnOk P w K mg base CX k f fd ps sp':=
 ⟨fun vs H Q E q=>F.len vs H Q E (h _ _ _ _ q),fun A outer s H args us vs Q E hr he hb hv hs=>F.run A outer s H args us vs Q E hr he hb hv (h _ _ _ _ hs)⟩
section
variable {X:Cx}{pins:List (Addr × Obj)}{σ:St}{H:Hp}{s s':Shared}
def Inv.env0 (I:Inv X pins σ H s):Env0 X.prog X.w X.K X.mg X.base X.A X.stack s H:=
 ⟨I.ok.frames,I.ok.mod,I.bs,Nat.le_trans I.ok.bsz I.sz,I.stack,I.stkFree,I.tbs,I.hok,I.bare⟩
def Inv.after {Q:VK}{u:Value}(I:Inv X pins σ H s)(h:CE X.stack X.prog X.w H s Q u s'):EP X pins σ Q u s':=by
 obtain⟨v,H',os,bare,un,hok,r,q⟩:=h
 obtain⟨hh,g,d,t,os'⟩:=s'
 obtain rfl:os'=s.os:=os
 exact⟨v,H',I.call (h':=hh) (g':=g) (d':=d) (t':=t) (ch:=[]) un hok bare (fun b z=>absurd z (by simp)),r,q⟩
end
def zdS (sp:Sp)(dvs:List V)(E:XK)(t:TA):TE:=fun σ H Q=>t σ H fun vs H1=>sp (vs++dvs) H1 Q E
def z6a (K:W.Frag)(fd:FuncData)(ps:List Str)(ds:List Value):Prop:=
 ∀ (s:Shared) (us:List Value),K.In s.heap->(us++ds).length=ps.length->BindsTo s fd ⟨us,[]⟩ (ps.zip (us++ds))
def z6a.all {K:W.Frag}{fd:FuncData}{ps:List Str}(h:∀ us:List Value,us.length=ps.length->bindArgs fd ⟨us,[]⟩=pure (ps.zip us)):z6a K fd ps []:=fun s us _ hl=>by
 rw[List.append_nil] at hl ⊢
 exact .of_eq (h us hl)
def z54 (CX:CXT)(X:Cx)(E:XK):Prop:=∀ (pins:List (Addr × Obj)) (σ:St) (H:Hp) (s:Shared) (e:Value) (s':Shared),Inv X pins σ H s->CX X.stack H s E e s'->X.xe e s'
section
variable {X:Cx}{CX:CXT}{k:Nat}{f C:Addr}{fd:FuncData}{ps:List Str}{sp:Sp}{dvs:List V}{ds:List Value}{E:XK}{x m:Str}{p pos apos:Pos}{e o:Expr}{es:List Expr}{ta:TE}{t:TA}
def zdm {pins:List (Addr × Obj)}{σ:St}{H:Hp}{s:Shared}{Q:VK}{us:List Value}{vs:List V}(F:FnOk X.prog X.w X.K X.mg X.base CX k f fd ps sp)(hr:Room k X.A)(hb:z6a X.K fd ps ds)(hd:Vals dvs ds)(hx:z54 CX X E)
  (I:Inv X pins σ H s) (r:Vals vs us) (h:sp (vs++dvs) H Q E):wpAny (model X.prog X.w) X.A (call (.ref f) us) (EP X pins σ Q) X.xe s:=by
 have r2:Vals (vs++dvs) (us++ds):=r.append hd
 have hl:(us++ds).length=ps.length:=by rw[<- r2.length]; exact F.len _ _ _ _ h
 refine wpAny_call (codeAny_mono (F.run X.A X.stack s H ⟨us,[]⟩ (us++ds) (vs++dvs) Q E hr I.env0 (hb s us I.kIn hl) r2 h) fun r s' hq => ?_)
 cases r with
 | error e=>exact hx pins σ H s e s' I hq
 | ok fl=>
  cases fl with
  | ret u=>exact I.after hq
  | next=>exact False.elim hq
  | brk=>exact False.elim hq
  | cont=>exact False.elim hq
def zen (F:FnOk X.prog X.w X.K X.mg X.base CX k f fd ps sp)(hr:Room k X.A)(hg:Gl X x)(hm:X.mg x=some (.ref f))(hk:PySem.W.keepIn X.K (.ref f)=true)(hb:z6a X.K fd ps ds)(hd:Vals dvs ds)(hx:z54 CX X E)
  (ha:PA X (e::es) t) (hdb:(x == ("__debug__":Str))=false:=by decide) (he:starEach (e::es) X.env=(false,eval e X.env)::starEach es X.env:=by rfl) (hpl:(backTo pos (starEach es X.env)).any (·.1)=false:=by rfl):
  PE X (.Call (.Name x p) (e::es) [] pos) (zdS sp dvs E t):=by
 intro pins s σ H Q I h
 refine wpAny_Call_Name_kw (zbp I hg hm ?_ hdb)
 refine PySem.W.callWith_K (h₀:=X.base) I.ok.mod.kin hk (thn (ha pos pins s σ H _ I h) fun us s1 ⟨vs,H1,I1,r,q⟩=>⟨I1.kIn,?_⟩) he hpl
 exact zdm F hr hb hd hx I1 r q
end
def PK (X:Cx)(kws:List Keyword)(t:TA):Prop:=
 ∀ (pos:Pos) (pins:List (Addr × Obj)) (s:Shared) (σ:St) (H:Hp) (Q:List V->Hp->Prop),Inv X pins σ H s->t σ H Q->wpAny (model X.prog X.w) X.A (evalAll ((backToKw pos (keywordEach kws X.env)).map (·.2))) (AP X pins σ Q) X.xe s
section
variable {X:Cx}{CX:CXT}{k:Nat}{f C:Addr}{fd:FuncData}{ps ks:List Str}{sp:Sp}{E:XK}{x m:Str}{p pos apos kpos:Pos}{e o:Expr}{es:List Expr}{kws:List Keyword}{te ta:TE}{t tk:TA}{nm:Option Str}
def zds:PK X [] tNil:=fun _ _ _ _ H Q I h=>wpAny_evalAll_nil ⟨[],H,I,.nil,h⟩
def zb5 (ha:PE X e te)(hr:PK X kws t):PK X (⟨nm,e,kpos⟩::kws) (z7s te t):=by
 intro pos pins s σ H Q I h
 show wpAny _ _ (evalAll ((do let v <- eval e X.env; standAt pos; pure v)::(backToKw pos (keywordEach kws X.env)).map (·.2))) _ _ s
 refine wpAny_evalAll_cons (wpAny_bind (thn (ha pins s σ H _ I h) fun u s1 ⟨x,H1,I1,r1,q1⟩=>wpAny_bind (wpAny_standAt (wpAny_pure ?_))))
 exact thn (hr pos pins s1 σ H1 _ I1 q1) fun us s2 ⟨xs,H2,I2,r2,q2⟩=>⟨x::xs,H2,I2,.cons r1 r2,q2⟩
variable {g:List Value->List Value->List Value}{gV:List V->List V->List V}
end
structure z0q (N P:List Str)(sc:Scope):Prop where
 kind:sc.kind = .function
 co:sc.isCoroutine=false
 gen:sc.isGenerator=false
 nd:N.Nodup
 pre:N.take P.length=P
 par:∀ x∈P,sc.names.lookup x=some .local\/sc.names.lookup x=some .cell
 nofree:∀ y∈sc.names,y.2 ≠ .free
def z8l {kindOf:Str->Option NameKind}{x:Str}:∀ {binds:List (Str × Value)}{m:Str->Option Value},(∀ v,(x,v) ∉ binds)->bindL kindOf binds m x=m x
 | [],_,_=>rfl
 | (n,v)::r,m,h=>by
  unfold bindL
  rw[z8l fun w hw=>h w (List.mem_cons_of_mem _ hw)]
  split
  ·have:x≠n:=by rintro rfl; exact h v List.mem_cons_self
   simp[this]
  ·rfl
def z8n {kindOf:Str->Option NameKind}{x:Str}:∀ {binds:List (Str × Value)}{m:Str->Option Value},(∀ v,(x,v) ∉ binds)->bindC kindOf binds m x=m x
 | [],_,_=>rfl
 | (n,v)::r,m,h=>by
  unfold bindC
  rw[z8n fun w hw=>h w (List.mem_cons_of_mem _ hw)]
  split
  ·rfl
  ·have:x≠n:=by rintro rfl; exact h v List.mem_cons_self
   simp[this]
def z8m {kindOf:Str->Option NameKind}{x:Str}{v:Value}:∀ {P:List Str}{vs:List Value}{i:Nat}{m:Str->Option Value},P.Nodup->P[i]? = some x->vs[i]? = some v->kindOf x=some .local->
  bindL kindOf (P.zip vs) m x=some v
 | [],_,_,_,_,h,_,_=>by simp at h
 | _::_,[],_,_,_,_,h,_=>by simp at h
 | p::P,w::vs,0,m,nd,h1,h2,hk=>by
  simp at h1 h2; subst h1; subst h2
  show bindL kindOf ((p,w)::P.zip vs) m p=_
  unfold bindL
  rw[z8l fun v hv=>(List.nodup_cons.mp nd).1 (List.of_mem_zip hv).1,if_pos hk]
  simp
 | p::P,w::vs,i+1,m,nd,h1,h2,hk=>by
  show bindL kindOf ((p,w)::P.zip vs) m x=_
  unfold bindL
  exact z8m (i:=i) (List.nodup_cons.mp nd).2 (by simpa using h1) (by simpa using h2) hk
def z8o {kindOf:Str->Option NameKind}{x:Str}{v:Value}:∀ {P:List Str}{vs:List Value}{i:Nat}{m:Str->Option Value},P.Nodup->P[i]? = some x->vs[i]? = some v->kindOf x≠some .local->
  bindC kindOf (P.zip vs) m x=some v
 | [],_,_,_,_,h,_,_=>by simp at h
 | _::_,[],_,_,_,_,h,_=>by simp at h
 | p::P,w::vs,0,m,nd,h1,h2,hk=>by
  simp at h1 h2; subst h1; subst h2
  show bindC kindOf ((p,w)::P.zip vs) m p=_
  unfold bindC
  rw[z8n fun v hv=>(List.nodup_cons.mp nd).1 (List.of_mem_zip hv).1,if_neg hk]
  simp
 | p::P,w::vs,i+1,m,nd,h1,h2,hk=>by
  show bindC kindOf ((p,w)::P.zip vs) m x=_
  unfold bindC
  exact z8o (i:=i) (List.nodup_cons.mp nd).2 (by simpa using h1) (by simpa using h2) hk
def start (N:List Str)(vs:List V):St:=vs.map some++List.replicate (N.length - vs.length) none
def cxOf (CX:CXT)(P:Program)(w:World)(K:W.Frag)(mg:Str->Option Value)(base:Heap)(N:List Str)(qual:Str)(scope:Scope)(f:Addr)(cd:Value)(A:Around)(outer:List Env)(s:Shared)(H:Hp)(E:XK):Cx where
 prog:=P
 w:=w
 K:=K
 mg:=mg
 base:=base
 A:=A.deeper (envOfC qual scope s.heap.objs.size f cd)
 N:=N
 s₀:=s
 H₀:=H
 env:=envOfC qual scope s.heap.objs.size f cd
 outer:=outer
 stack:=envOfC qual scope s.heap.objs.size f cd::outer
 ex:=[]
 calm:=true
 fn:=fun _=>true
 pn:=[]
 xe:=fun e s'=>wpAny (model P w) (A.deeper (envOfC qual scope s.heap.objs.size f cd)) (leaving (envOfC qual scope s.heap.objs.size f cd) e) (fun _ s''=>CX outer H s E e s'') (fun e' s''=>CX outer H s E e' s'') s'
def z9O {sc:Scope}{n:Nat}{x:Str}(h:sc.names.lookup x=some .cell):∃ c,(cellsFrom n sc.names []).lookup x=some c:=by
 have q:=PySem.W.cellsFrom_some sc.names n [] (.inl h)
 exact Option.isSome_iff_exists.mp q
def zbt {CX:CXT}{P:Program}{w:World}{K:W.Frag}{mg:Str->Option Value}{base:Heap}{N ps:List Str}{qual:Str}{scope:Scope}{f:Addr}{cd:Value}{A:Around}{outer:List Env}{s s1:Shared}{H:Hp}{E:XK}{us:List Value}{vs:List V}
  (S:z0q N ps scope) (hd:A.handled=none) (e0:Env0 P w K mg base A outer s H) (hl:vs.length=ps.length) (r:Vals vs us)
  (x:InCallC s s.heap.objs.size (bindL (envOfC qual scope s.heap.objs.size f cd).kindOf (ps.zip us) fun _=>none) (cellsFrom (s.heap.objs.size+1) scope.names []) (bindC (envOfC qual scope s.heap.objs.size f cd).kindOf (ps.zip us) fun _=>none) s1):
  Inv (cxOf CX P w K mg base N qual scope f cd A outer s H E) [] (start N vs) H s1:=by
 have hpl:ps.length<=N.length:=by have:=congrArg List.length S.pre; rw[List.length_take] at this; omega
 obtain⟨h1,tk,rfl,hk⟩:=x.done
 have noA:∀ b:Addr,b ∉ (cxOf CX P w K mg base N qual scope f cd A outer s H E).ex:=fun b z=>absurd (show b∈([]:List Addr) from z) (by simp)
 refine⟨⟨e0.mod,S.kind,rfl,rfl,Nat.le_refl _,fun y z c h1 h2 => ?_,fun y hy => ?_,fun y c _ h => ?_,fun _=>hd,Around.frames_deeper e0.frames,.inr ⟨rfl,rfl⟩,fun b z=>absurd z (noA b),e0.bs,e0.bsz,fun b _ _=>noA b,fun b z=>absurd z (noA b),e0.funs,e0.frf,e0.tbs⟩,
  rfl,e0.bare,Un.kept hk,⟨_,x.toInCall.ns,fun i y v h1 h2 h3 => ?_⟩,fun y c h=>⟨_,x.cell y c h⟩,e0.hok.fresh (Nat.le_refl _),fun y c h => ?_,fun p hp=>absurd (show p∈([]:List (Addr × Obj)) from hp) (by simp),e0.hok.kept hk,?_⟩
 ·exact name_of_addr x.apart (PySem.mem_of_lookup h1) (PySem.mem_of_lookup h2)
 ·have hy:scope.names.lookup y=some .cell\/scope.names.lookup y=some .free:=hy
  rcases hy with hy | hy
  ·exact z9O hy
  ·exact absurd rfl (S.nofree _ (PySem.mem_of_lookup hy))
 ·exact Nat.le_of_lt (x.above y c (PySem.mem_of_lookup h))
 ·have hi:i < vs.length:=by
   unfold start at h2
   by_cases hi:i < vs.length
   ·exact hi
   ·rw[List.getElem?_append_right (by simpa using hi)] at h2
    rw[List.getElem?_replicate] at h2
    split at h2 <;> cases h2
  have ha:vs[i]? = some v:=by
   unfold start at h2
   rw[List.getElem?_append_left (by simpa using hi),List.getElem?_map] at h2
   cases e:vs[i]? with
   | none=>rw[e] at h2; cases h2
   | some a=>rw[e] at h2; cases h2; rfl
  obtain⟨u,hu,rv⟩:=r.get ha
  have hp:ps[i]? = some y:=by
   rw[<- S.pre,List.getElem?_take_of_lt (by omega)]; exact h1
  have ndP:ps.Nodup:=by rw[<- S.pre]; exact S.nd.sublist (List.take_sublist _ _)
  refine⟨u,rv,?_⟩
  rcases S.par y (List.mem_of_getElem? hp) with k | k
  ·exact .inl ⟨k,z8m ndP hp hu k⟩
  ·obtain⟨c,e⟩:=z9O (n:=s.heap.objs.size+1) k
   refine .inr ⟨.inl k,c,e,?_⟩
   have q:=x.cell y c e
   rw[z8o ndP hp hu (by show scope.names.lookup y≠_; rw[k]; decide)] at q
   exact q
 ·exact e0.hok.fresh (Nat.le_of_lt (x.above y c (PySem.mem_of_lookup h)))
 ·unfold start
  show _=N.length
  rw[List.length_append,List.length_map,List.length_replicate]
  omega
def zh6 {CX:CXT}{P:Program}{w:World}{K:W.Frag}{mg:Str->Option Value}{base:Heap}{k:Nat}{f:Addr}{name qual:Str}{params:Arguments}{body:List Stmt}{scope:Scope}{dV kV doc pm cdv ct oc:Value}{an od:Option Addr}
  {osl:Array (Option Value)}{N ps:List Str}{sp:Sp}(lk:K.lookup f=some ⟨oc,od,.func (PySem.W.fnOf name qual params body scope dV kV doc pm an cdv ct),osl⟩) (hcd:PySem.W.codeIn K cdv qual=true) (S:z0q N ps scope)
  (len:∀ vs H Q E,sp vs H Q E->vs.length=ps.length)
  (hbody:∀ (A:Around) (outer:List Env) (s:Shared) (H:Hp) (vs:List V) (Q:VK) (E:XK),Room k (A.deeper (envOfC qual scope s.heap.objs.size f cdv))->sp vs H Q E->
   ∃ t,PSs (cxOf CX P w K mg base N qual scope f cdv A outer s H E) body t/\t { nx:=fun _ H'=>Q .non H',rt:=Q } (start N vs) H):
  FnOk P w K mg base CX (k+1) f (PySem.W.fnOf name qual params body scope dV kV doc pm an cdv ct) ps sp:=by
 refine⟨len,fun A outer s H args us vs Q E hr e0 hb r hsp => ?_⟩
 have hl:=len _ _ _ _ hsp
 have KX:K.In s.heap:=e0.mod.kin.keeps fun b o e=>(e0.bs b o e).1
 have lim:s.heap.NoLimit:=e0.mod.nolimit.keeps fun b o e=>(e0.bs b o e).1
 have hkind:∀ y∈ps.zip us,scope.names.lookup y.1=some .local\/(scope.names.lookup y.1=some .cell/\((cellsFrom (s.heap.objs.size+1) scope.names []).lookup y.1).isSome=true):=fun⟨n,v⟩ hy=>by
  rcases S.par n (List.of_mem_zip hy).1 with q | q
  ·exact .inl q
  ·exact .inr ⟨q,PySem.W.cellsFrom_some _ _ _ (.inl q)⟩
 refine codeAny_call_function hr.depth (KX _ _ lk) rfl S.co S.gen rfl (PySem.W.codeRec_of KX hcd) (hb _ _ _ _ ?_)
 refine wpAny_newFunctionEnv_cells S.kind hkind fun env he s1 x => ?_
 subst he
 refine⟨lim.keeps x.toInCall.keep,codeAny_func ?_⟩
 obtain⟨t,ht,hq⟩:=hbody A outer s H vs Q E (hr.deeper _) hsp
 have I:Inv (cxOf CX P w K mg base N qual scope f cdv A outer s H E) [] (start N vs) H s1:=zbt S hr.hd e0 hl r x
 refine wpAny_mono (ht [] s1 (start N vs) H _ I hq) (fun fl s' hs => ?_) fun e s' hs=>hs
 have fin:∀ {σ':St}{H':Hp}{v:V}{u:Value},Inv (cxOf CX P w K mg base N qual scope f cdv A outer s H E) [] σ' H' s'->RelV v u->Q v H'->CE outer P w H s Q u s':=
  fun {σ' H' v u} J rv q=>⟨v,H',J.os,J.bare,J.base,J.hok,rv,q⟩
 cases fl with
 | ret u=>
  obtain⟨v,σ',H',J,rv,q⟩:=hs
  exact fin J rv q
 | next=>
  obtain⟨σ',H',J,q⟩:=hs
  exact fin (v:=V.non) (u:=Value.none) J rfl q
 | brk=>
  obtain⟨_,_,_,q⟩:=hs
  exact False.elim q
 | cont=>
  obtain⟨_,_,_,q⟩:=hs
  exact False.elim q
section
variable {X:Cx}{x:Str}{p pos:Pos}{e:Expr}{es:List Expr}{t:TA}{id T:String}{r:List V->Hp->VK->Prop}
def tCB (r:List V->Hp->VK->Prop)(t:TA):TE:=fun σ H Q=>t σ H fun vs H1=>r vs H1 Q
def zcz (hc:z1T X (.builtin id) r)(hg:Gl X x)(hm:X.mg x=none)(hv:bootBuiltins x=some (.builtin id))(ha:PA X (e::es) t)(hn:x≠"__name__":=by decide)(hdb:(x == ("__debug__":Str))=false:=by decide)
  (he:starEach (e::es) X.env=(false,eval e X.env)::starEach es X.env:=by rfl) (hpl:(backTo pos (starEach es X.env)).any (·.1)=false:=by rfl):PE X (.Call (.Name x p) (e::es) [] pos) (tCB r t):=by
 intro pins s σ H Q I h
 refine wpAny_Call_Name_kw (z5t I hg hm hv ?_ hn hdb)
 exact PyProof.Rows.callWith_builtin1 (thn (ha pos pins s σ H _ I h) fun us s1 ⟨vs,H1,I1,r1,q1⟩=>hc pins s1 σ H1 vs us Q I1 r1 q1) he hpl
def zbc (hc:z1T X (.type T) r)(hg:Gl X x)(hm:X.mg x=none)(hv:bootBuiltins x=some (.type T))(ha:PA X (e::es) t)(hn:x≠"__name__":=by decide)(hdb:(x == ("__debug__":Str))=false:=by decide)
  (he:starEach (e::es) X.env=(false,eval e X.env)::starEach es X.env:=by rfl) (hpl:(backTo pos (starEach es X.env)).any (·.1)=false:=by rfl):PE X (.Call (.Name x p) (e::es) [] pos) (tCB r t):=by
 intro pins s σ H Q I h
 refine wpAny_Call_Name_kw (z5t I hg hm hv ?_ hn hdb)
 exact PyProof.Rows.callWith_type1 (thn (ha pos pins s σ H _ I h) fun us s1 ⟨vs,H1,I1,r1,q1⟩=>hc pins s1 σ H1 vs us Q I1 r1 q1) he hpl
end
end L2
namespace HT
open PySem PyProof.Rows
def z0r:List Int->List Int->Bool
 | [],[]=>false
 | [],_::_=>true
 | _::_,[]=>false
 | x::xs,y::ys=>if x=y then z0r xs ys else decide (x < y)
def z1o (x y:Int)(xs ys:List Int):z0r (x::xs) (y::ys)=if x=y then z0r xs ys else decide (x < y):=rfl
def z2k:z0r [] []=false:=rfl
def z2S (y:Int)(ys:List Int):z0r [] (y::ys)=true:=rfl
def z2T (x:Int)(xs:List Int):z0r (x::xs) []=false:=rfl
def z78 (A:Around)(s:Shared)(a:Int)(t:Tok)(c:Int)(u:Tok):∃ e,SeqAt.EqAt A s (.int a t) (.int c u) e/\(e=true↔a=c):=
 ⟨(a == c),SeqAt.EqAt.int_int a t c u,by simp⟩
def zcf (A:Around)(s:Shared)(a:Int)(t:Tok)(c:Int)(u:Tok)(prog:Program)(w:World)(E:Value->Shared->Prop)(Q:Value->Shared->Prop)(h:Q (.bool (decide (a < c))) s):
  wpAny (model prog w) A (richCompare .Lt (.int a t) (.int c u)) Q E s:=
 (PyProof.Rows.lt_int h:wpAny (model prog w) A (compareOp .Lt (.int a t) (.int c u)) Q E s)
section
open PySem.SeqAt
open PySem.AutoSeq1 (wpAny_loadPart')
open PySem.MeetsSeq PySem.MeetsSeq2 PySem.MeetsSeq3
def z6z (l b:Addr)(z05 items2:Array Value)(n n2:Nat)(dd dd2:Option Addr)(sl sl2:Array (Option Value))(ns ms:List Int)(hi:IntsAre z05.toList ns)(hj:IntsAre items2.toList ms):
  Meets (Builtin.«tuple.__lt__» ⟨[.ref l,.ref b],[]⟩)
   (fun _ R s=>s.heap.get? l=some { cls :=.type "tuple",dict:=dd,data :=.seq z05 n,slots:=sl }/\s.heap.get? b=some { cls :=.type "tuple",dict:=dd2,data :=.seq items2 n2,slots:=sl2 }/\
    R (.ok (.ret (.bool (z0r ns ms)))) s):=
 .of_wp fun prog w A R s h=>by
  obtain⟨hp,g,d,tk,os⟩:=s; obtain⟨hl,hb,h⟩:=h
  have f2:=AutoSeq1.sub_tuple_tuple
  have z1:z05.size=ns.length:=by rw[<- hi.length]; simp
  have z2:items2.size=ms.length:=by rw[<- hj.length]; simp
  wp_walk using wpAny_loadPart' hl,wpAny_loadPart' hb,wpAny_forIn_list _ (fun rest b s'=>b.1=none/\s'=⟨hp,g,d,tk,os⟩/\∃ (vs ws:List Value) (ns' ms':List Int),rest=vs.zip ws/\
   IntsAre vs ns'/\IntsAre ws ms'/\ns'.length+items2.size=ms'.length+z05.size/\R (.ok (.ret (.bool (z0r ns' ms')))) ⟨hp,g,d,tk,os⟩) _
  case turn=>
   rintro⟨y,x⟩ rest b s' ⟨hb',rfl,vs,ws,ns',ms',hz,hvi,hwi,hlen,hR⟩
   cases hvi with
   | nil=>rw[List.zip_nil_left] at hz; cases hz
   | cons a t hvi'=>
    cases hwi with
    | nil=>rw[List.zip_nil_right] at hz; cases hz
    | cons c u hwi'=>
     rw[List.zip_cons_cons] at hz
     injection hz with hyx hrest
     injection hyx with hy hx
     subst hy hx
     rw[z1o] at hR
     simp only[List.length_cons] at hlen
     obtain⟨e,he,hiff⟩:=z78 A.in1 ⟨hp,g,d,tk,os⟩ a t c u
     refine wpAny_bind (he prog w _ _ ?_)
     cases e with
     | true=>
      rw[if_pos (hiff.mp rfl)] at hR
      wp_walk
      exact⟨rfl,rfl,_,_,_,_,hrest,hvi',hwi',by omega,hR⟩
     | false=>
      rw[if_neg (fun q=>absurd (hiff.mpr q) Bool.false_ne_true)] at hR
      have hri:=zcf A.in1 ⟨hp,g,d,tk,os⟩ a t c u prog w
      wp_walk using hri
      exact⟨_,rfl,by simpa using hR⟩
  case fin=>
   rintro⟨b1,b2⟩ s' ⟨hb',rfl,vs,ws,ns',ms',hz,hvi,hwi,hlen,hR⟩
   simp only at hb'
   subst hb'
   have hv:z0r ns' ms'=decide (z05.size < items2.size):=by
    cases hvi with
    | nil=>
     cases hwi with
     | nil=>
      simp only[List.length_nil] at hlen
      rw[z2k]
      exact(decide_eq_false (by omega)).symm
     | cons c u hw=>
      simp only[List.length_nil,List.length_cons] at hlen
      rw[z2S]
      exact(decide_eq_true (by omega)).symm
    | cons a t hv=>
     cases hwi with
     | nil=>
      simp only[List.length_nil,List.length_cons] at hlen
      rw[z2T]
      exact(decide_eq_false (by omega)).symm
     | cons c u hw=>
      rw[List.zip_cons_cons] at hz
      cases hz
   rw[hv] at hR
   wp_walk
   exact⟨_,rfl,by simpa[Builtin.Tuple.tupleCompareSizes] using hR⟩
  case h=>
   exact⟨rfl,rfl,z05.toList,items2.toList,ns,ms,rfl,hi,hj,by omega,h⟩
end
section
variable {prog:Program}{w:World}{A:Around}{E:Value->Shared->Prop}{s:Shared}
def za9 {l b:Addr}{z05 items2:Array Value}{ns ms:List Int}{Q:Value->Shared->Prop}(hl:IsTup s.heap l z05)(hb:IsTup s.heap b items2)(hi:IntsAre z05.toList ns)(hj:IntsAre items2.toList ms)
  (hu:A.units < cLine) (h:Q (.bool (z0r ns ms)) s):wpAny (model prog w) A (compareOp .Lt (.ref l) (.ref b)) Q E s:=by
 obtain⟨⟨cls,dd,data,sl⟩,ho,hc,n,hd⟩:=id hl
 obtain⟨⟨cls2,dd2,data2,sl2⟩,ho2,hc2,n2,hd2⟩:=id hb
 simp only at hc hd hc2 hd2
 subst hc hd hc2 hd2
 exact richCompare_meets_room (op :=.Lt) ⟨_,ho,rfl⟩ ⟨_,ho2,rfl⟩ PySem.F.slot_tuple_lt PySem.F.entry_tuple_lt (PySem.F.args_tuple_lt_2 _ _) (z6z l b z05 items2 n n2 dd dd2 sl sl2 ns ms hi hj)
  ⟨ho,ho2,show Value.bool (z0r ns ms)≠Value.notImplemented/\Q (.bool (z0r ns ms)) s from ⟨(fun x=>nomatch x),h⟩⟩ hu
def zeT {t b:Addr}{vs ws:List Value}{Q:Value->Shared->Prop}(ht:IsTup s.heap t vs.toArray)(hb:IsTup s.heap b ws.toArray)(hv:vs≠[])
  (h1:ws=[]->Q (.ref t) s) (h2:ws≠[]->Q (.ref s.heap.objs.size) { s with heap:=s.heap.push { cls :=.type "tuple",data :=.seq (vs++ws).toArray } })
  (hsz:vs.length+ws.length<=sizeLine):wpAny (model prog w) A (binaryOp .Add (.ref t) (.ref b)) Q E s:=by
 obtain⟨⟨cls,dd,data,sl⟩,ho,hc,n,hd⟩:=id ht
 obtain⟨⟨cls2,dd2,data2,sl2⟩,ho2,hc2,n2,hd2⟩:=id hb
 simp only at hc hd hc2 hd2
 subst hc hd hc2 hd2
 have e:vs.toArray++ws.toArray=(vs++ws).toArray:=by simp
 by_cases hw:ws=[]
 ·exact concat_meets ⟨_,ho,rfl⟩ ⟨_,ho2,rfl⟩ noFill_tuple_add seq_tuple_add PySem.F.slot_tuple_add PySem.F.entry_tuple_add (PySem.F.args_tuple_add_2 _ _)
   (tuple_addW1 t b vs.toArray ws.toArray n n2 dd dd2 sl sl2 (by simpa using hv) (by simp[hw])) ⟨ho,ho2,h1 hw⟩
 ·refine concat_meets ⟨_,ho,rfl⟩ ⟨_,ho2,rfl⟩ noFill_tuple_add seq_tuple_add PySem.F.slot_tuple_add PySem.F.entry_tuple_add (PySem.F.args_tuple_add_2 _ _)
   (tuple_addW2 t b vs.toArray ws.toArray n n2 dd dd2 sl sl2 (by simpa using hv) (by simpa using hw) (by rw[List.size_toArray,List.size_toArray]; exact hsz)) ⟨ho,ho2,?_⟩
  rw[e]
  exact h2 hw
def sIx (n d:Nat):Option Int->Nat
 | none=>d
 | some v=>if v < 0 then (v+(n:Int)).toNat else min v.toNat n
def zfu (n d:Nat)(hd:d<=n)(o:Option Int):sIx n d o<=n:=by
 cases o with
 | none=>exact hd
 | some v=>
  show (if v < 0 then (v+(n:Int)).toNat else min v.toNat n)<=n
  by_cases hv:v < 0
  ·rw[if_pos hv]; omega
  ·rw[if_neg hv]; exact Nat.min_le_right _ _
def zbK (v:Int)(n d:Nat):(if v < 0 then max (v+(n:Int)) 0 else min v (n:Int))=((sIx n d (some v):Nat):Int):=by
 show (if v < 0 then max (v+(n:Int)) 0 else min v (n:Int))=(((if v < 0 then (v+(n:Int)).toNat else min v.toNat n):Nat):Int)
 by_cases hv:v < 0
 ·simp only[if_pos hv]; omega
 ·simp only[if_neg hv]; omega
def zal (lo hi:Option Int)(n:Nat):Builtin.Slice.sliceAdjust lo hi 1 (n:Int)=(((sIx n 0 lo:Nat):Int),((sIx n n hi:Nat):Int)):=by
 have h1:¬ ((1:Int) < 0):=by omega
 unfold Builtin.Slice.sliceAdjust
 simp only[h1,if_false]
 refine Prod.ext ?_ ?_
 ·cases lo with
  | none=>rfl
  | some v=>exact zbK v n 0
 ·cases hi with
  | none=>rfl
  | some v=>exact zbK v n n
def za2 (i j:Nat):Builtin.Slice.slicePlaces (i:Int) (j:Int) 1=j - i:=by
 unfold Builtin.Slice.slicePlaces
 have h1:(1:Int) > 0:=by omega
 simp only[h1,if_true,Int.ediv_one]
 split <;> omega
def z2Y {v:Value}{o:Option Int}{Q:Option Int->Shared->Prop}(p:IsPart v o)(h:Q o s):wpAny (model prog w) A (Builtin.Slice.slicePartIndex v) Q E s:=by
 cases p with
 | none=>exact slicePart_none h
 | int i t=>exact slicePart_int h
def z3i {sl:Addr}{vl vu:Value}{lo hi:Option Int}{n:Nat}{Q:Int × Int × Nat->Shared->Prop}(hs:s.heap.IsSliceOf sl vl vu .none)(pl:IsPart vl lo)(pu:IsPart vu hi)
  (h:Q (((sIx n 0 lo:Nat):Int),1,sIx n n hi - sIx n 0 lo) s):wpAny (model prog w) A (Builtin.Slice.sliceApplied (.ref sl) (pure (n:Int))) Q E s:=by
 obtain⟨os,hos,hcs,hds⟩:=id hs
 unfold Builtin.Slice.sliceApplied Builtin.Slice.sliceFields
 refine wpAny_bind (wpAny_bind (wpAny_field hos hds (x:=vl) rfl (wpAny_bind (wpAny_field hos hds (x:=vu) rfl (wpAny_bind (wpAny_field hos hds (x :=.none) rfl (wpAny_pure ?_)))))))
 refine wpAny_bind (slicePart_none ?_)
 show wpAny _ _ (if ((1:Int) == 0)=true then _ else _) _ _ s
 rw[if_neg (by decide)]
 refine wpAny_bind (z2Y pl (wpAny_bind (z2Y pu (wpAny_bind (wpAny_pure ?_)))))
 show wpAny _ _ (match Builtin.Slice.sliceAdjust lo hi 1 (n:Int) with | (lo,hi)=>pure (lo,(1:Int),Builtin.Slice.slicePlaces lo hi 1)) _ _ s
 rw[zal lo hi n]
 show wpAny _ _ (pure (((sIx n 0 lo:Nat):Int),(1:Int),Builtin.Slice.slicePlaces ((sIx n 0 lo:Nat):Int) ((sIx n n hi:Nat):Int) 1)) _ _ s
 rw[za2]
 exact wpAny_pure h
def zcu (xs:Array Value)(i k:Nat):((List.range k).filterMap fun(m:Nat)=>xs[((i:Int)+(m:Int)*1).toNat]?).toArray=((xs.toList.drop i).take k).toArray:=by
 have e:(fun(m:Nat)=>xs[((i:Int)+(m:Int)*1).toNat]?)=fun m=>xs[i+m]? := by
  funext m
  have:((i:Int)+(m:Int)*1).toNat=i+m:=by omega
  rw[this]
 rw[e]
 have:=pick_run xs i k
 rw[List.filterMap_map] at this
 have e2:((fun x=>xs[x]?) ∘ fun x=>i+x)=fun m=>xs[i+m]? := rfl
 rw[e2] at this
 rw[this]
def z4L {t sl:Addr}{z05:Array Value}{vl vu:Value}{lo hi:Option Int}{Q:Value->Shared->Prop}(ht:IsTup s.heap t z05)(hs:s.heap.IsSliceOf sl vl vu .none)(pl:IsPart vl lo)(pu:IsPart vu hi)
  (hw:¬ (sIx z05.size 0 lo=0/\sIx z05.size z05.size hi=z05.size))
  (h:Q (.ref s.heap.objs.size) { s with heap:=s.heap.push { cls :=.type "tuple",data :=.seq ((z05.toList.drop (sIx z05.size 0 lo)).take (sIx z05.size z05.size hi - sIx z05.size 0 lo)).toArray } })
  (hsz:z05.size<=sizeLine):wpAny (model prog w) A (getItem (.ref t) (.ref sl)) Q E s:=by
 have htake:sizeOk (.seq ((z05.toList.drop (sIx z05.size 0 lo)).take (sIx z05.size z05.size hi - sIx z05.size 0 lo)).toArray):=by
  show ((z05.toList.drop (sIx z05.size 0 lo)).take (sIx z05.size z05.size hi - sIx z05.size 0 lo)).toArray.size<=sizeLine
  rw[List.size_toArray,List.length_take,List.length_drop,Array.length_toList]
  omega
 have hj:sIx z05.size z05.size hi<=z05.size:=zfu _ _ (Nat.le_refl _) hi
 obtain⟨os,hos,hcs,hds⟩:=id hs
 have hTs:s.TypeIs (.ref sl) "slice":=⟨os,hos,hcs⟩
 unfold getItem
 try with_reducible refine wpAny_holding ?_
 first | refine wpAny_bind (wpAny_pure ?_) | skip
 refine wpAny_bind (wpAny_sequenceKey ht.typeIs (by decide) ?_)
 refine wpAny_bind (wpAny_callSpecial?_slot (name:=Str.ofString "__getitem__") ht.typeIs PyProof.Rows.slot_tuple_getitem
  (wpAny_call_entry PyProof.Rows.slot_tuple_getitem ht.typeIs entry_tuple_getitem ?_ (args_tuple_getitem _ _)))
 show wpAny _ _ (Builtin.Tuple.tupleItemsOf (.ref t) >>= _) _ _ s
 refine wpAny_bind (tupleItemsOf_ ht ?_)
 refine wpAny_bind (wpAny_typeOf hTs ?_)
 rw[if_pos (by decide)]
 refine wpAny_bind (z3i hs pl pu ?_)
 have hno:¬ ((((sIx z05.size 0 lo:Nat):Int) == 0 && (1:Int) == 1 && (sIx z05.size z05.size hi - sIx z05.size 0 lo) == z05.size)=true):=by
  intro q
  rw[Bool.and_eq_true,Bool.and_eq_true] at q
  have q1:((sIx z05.size 0 lo:Nat):Int)=0:=eq_of_beq q.1.1
  have q2:sIx z05.size z05.size hi - sIx z05.size 0 lo=z05.size:=eq_of_beq q.2
  exact hw ⟨by omega,by omega⟩
 show wpAny _ _ (if (((sIx z05.size 0 lo:Nat):Int) == 0 && (1:Int) == 1 && (sIx z05.size z05.size hi - sIx z05.size 0 lo) == z05.size)=true then _ else _) _ _ s
 rw[if_neg hno,zcu]
 first
  | exact wpAny_bind (m:=Builtin.Tuple.tupleExact _) (wpAny_newObj_type (wpAny_pure ⟨_,rfl,wpAny_pure h⟩) htake)
  | exact wpAny_bind (m:=Builtin.Tuple.tupleExact _) (wpAny_newObj_type (wpAny_bind (wpAny_pure (wpAny_pure ⟨_,rfl,wpAny_pure h⟩))) htake)
  | exact wpAny_bind (wpAny_bind (m:=Builtin.Tuple.tupleExact _) (wpAny_newObj_type (wpAny_pure (wpAny_pure ⟨_,rfl,wpAny_pure h⟩)) htake))
  | exact wpAny_bind (wpAny_bind (m:=Builtin.Tuple.tupleExact _) (wpAny_newObj_type (wpAny_pure ⟨_,rfl,wpAny_pure h⟩) htake))
end
end HT
namespace L2
open PySem PySem.Spec PyProof.Rows
abbrev TO:=St->Hp->(Option Int->Hp->Prop)->Prop
def PO (X:Cx)(e:Option Expr)(t:TO):Prop:=
 ∀ (pins:List (Addr × Obj)) (s:Shared) (σ:St) (H:Hp) (Q:Option Int->Hp->Prop),Inv X pins σ H s->t σ H Q->
  wpAny (model X.prog X.w) X.A (evalPart e X.env) (fun u s'=>∃ o H',Inv X pins σ H' s'/\IsPart u o/\Q o H') X.xe s
def zaw:TO:=fun _ H Q=>Q none H
def zf9 (t:TE):TO:=fun σ H Q=>t σ H fun x H1=>∃ i,x = .int i/\Q (some i) H1
def z2n {ns:List Int}:∀ {us:List Value},Vals (ns.map V.int) us->IntsAre us ns:=by
 induction ns with
 | nil=>intro us r; rw[List.map_nil] at r; cases r; exact .nil
 | cons n ns ih=>
  intro us r
  rw[List.map_cons] at r
  cases r with
  | cons r1 r2=>
   obtain⟨t,e⟩:=r1
   subst e
   exact .cons n t (ih r2)
section
variable {X:Cx}{e:Expr}{te:TE}{lo hi:Option Expr}{tl th:TO}{pos p2:Pos}
def zeh:PO X none zaw:=by
 intro pins s σ H Q I h
 rw[evalPart_none]
 exact wpAny_pure ⟨none,H,I,.none,h⟩
def zeg (h:PE X e te):PO X (some e) (zf9 te):=by
 intro pins s σ H Q I hw
 rw[evalPart_some]
 refine thn (h pins s σ H _ I hw) fun u s1 ⟨x,H1,I1,r1,q1⟩ => ?_
 obtain⟨i,rfl,q⟩:=q1
 obtain⟨t,rfl⟩:=r1
 exact⟨some i,H1,I1,.int i t,q⟩
def SlR (X:Cx)(r:V->Option Int->Option Int->Hp->VK->Prop):Prop:=
 ∀ (pins:List (Addr × Obj)) (s:Shared) (σ:St) (H:Hp) (x:V) (v vl vu:Value) (lo hi:Option Int) (sl:Addr) (Q:VK),Inv X pins σ H s->RelV x v->s.heap.IsSliceOf sl vl vu .none->IsPart vl lo->IsPart vu hi->r x lo hi H Q->
  ∃ T id,typeLookup (.type T) "__getitem__"=pure (some (.builtin id))/\s.TypeIs v T/\wpAny (model X.prog X.w) X.A (getItem v (.ref sl)) (EP X pins σ Q) X.xe s
def SlR.or {r r':V->Option Int->Option Int->Hp->VK->Prop}(h:SlR X r)(h':SlR X r'):SlR X (fun x lo hi H Q=>r x lo hi H Q\/r' x lo hi H Q):=by
 intro pins s σ H x v vl vu lo hi sl Q I rx hs pl pu q
 rcases q with q | q
 ·exact h pins s σ H x v vl vu lo hi sl Q I rx hs pl pu q
 ·exact h' pins s σ H x v vl vu lo hi sl Q I rx hs pl pu q
def tSl (r:V->Option Int->Option Int->Hp->VK->Prop)(te:TE)(tl th:TO):TE:=fun σ H Q=>te σ H fun x H1=>tl σ H1 fun l H2=>th σ H2 fun u H3=>r x l u H3 Q
def zcx {r:V->Option Int->Option Int->Hp->VK->Prop}(hr:SlR X r)(he:PE X e te)(hl:PO X lo tl)(hu:PO X hi th):PE X (.Subscript e (.Slice lo hi none p2) pos) (tSl r te tl th):=by
 intro pins s σ H Q I h
 refine Subscript_ (thn (he pins s σ H _ I h) fun v s1 ⟨x,H1,I1,r1,q1⟩ => ?_)
 refine wpAny_Slice (thn (hl pins s1 σ H1 _ I1 q1) fun vl s2 ⟨l,H2,I2,pl,q2⟩=>thn (hu pins s2 σ H2 _ I2 q2) fun vu s3 ⟨u,H3,I3,pu,q3⟩ => ?_)
 rw[evalPart_none]
 refine wpAny_pure ?_
 have I4:Inv X pins σ H3 { s3 with heap:=s3.heap.push { cls :=.type "slice",data :=.fields #[vl,vu,.none] } }:=I3.kept (t':=s3.toks) fun b ob q=>Heap.get?_push_of_some _ q
 obtain⟨T,id,hT,ht,hg⟩:=hr pins { s3 with heap:=s3.heap.push { cls :=.type "slice",data :=.fields #[vl,vu,.none] } } σ H3 x v vl vu l u s3.heap.objs.size Q I4 r1 (Heap.IsSliceOf.new ..) pl pu q3
 show wpAny (model X.prog X.w) X.A (subscriptTail e (.Slice lo hi none p2) v (.ref s3.heap.objs.size)) (EP X pins σ Q) X.xe { s3 with heap:=s3.heap.push { cls :=.type "slice",data :=.fields #[vl,vu,.none] } }
 exact tail_any (ops:=[.ref s3.heap.objs.size,v]) ht hT hg (by with_unfolding_all rfl)
def cutV (xs:List V)(lo hi:Option Int):List V:=(xs.drop (HT.sIx xs.length 0 lo)).take (HT.sIx xs.length xs.length hi - HT.sIx xs.length 0 lo)
def z5K (xs:List V)(lo hi:Option Int):(cutV xs lo hi).length<=xs.length:=by
 unfold cutV
 rw[List.length_take,List.length_drop]
 omega
def rSlT (K:W.Frag):V->Option Int->Option Int->Hp->VK->Prop:=fun x lo hi H Q=>∃ a xs,x = .ref a/\SqT K H a xs/\
 ¬ (HT.sIx xs.length 0 lo=0/\HT.sIx xs.length xs.length hi=xs.length)/\∀ p,H p=none->Q (.ref p) (upd H p (.tup (cutV xs lo hi)))
def zfg:SlR X (rSlT X.K):=by
 intro pins s σ H x v vl vu lo hi sl Q I rx hs pl pu h
 obtain⟨a,xs,rfl,hx,hw,q⟩:=h
 cases rx
 obtain⟨its,r,ht,hz⟩:=I.tuple hx
 have hlen:its.toArray.size=xs.length:=by rw[List.size_toArray]; exact r.length.symm
 refine⟨"tuple",_,PyProof.Rows.slot_tuple_getitem.lookup,ht.typeIs,?_⟩
 refine HT.z4L ht hs pl pu (by rw[hlen]; exact hw) ?_ (by rw[hlen]; exact hz)
 rw[hlen]
 refine⟨.ref s.heap.objs.size,_,I.laid (t':=s.toks) (o :=.tup (cutV xs lo hi)) (fun b ob q=>Heap.get?_push_of_some _ q) (Nat.le_refl _) ?_,rfl,q _ (I.hok.fresh (Nat.le_refl _))⟩
 exact⟨Nat.le_trans (z5K xs lo hi) hz,_,(r.drop (HT.sIx xs.length 0 lo)).take (HT.sIx xs.length xs.length hi - HT.sIx xs.length 0 lo),IsTup.new _ _,_,Heap.get?_push_size _ rfl,rfl⟩
def rLtT (K:W.Frag):R2:=fun x y H Q=>∃ a b ns ms,x = .ref a/\y = .ref b/\SqT K H a (ns.map V.int)/\SqT K H b (ms.map V.int)/\Q (.bl (HT.z0r ns ms)) H
def zge (hu:X.A.units < cLine):OpR X (compareOp .Lt) (rLtT X.K):=by
 intro pins s σ H x y v u Q I rx ry h
 obtain⟨a,b,ns,ms,rfl,rfl,ha,hb,q⟩:=h
 cases rx
 cases ry
 obtain⟨its,r1,p1,_⟩:=I.tuple ha
 obtain⟨its2,r2,p2,_⟩:=I.tuple hb
 have i1:IntsAre its.toArray.toList ns:=z2n r1
 have i2:IntsAre its2.toArray.toList ms:=z2n r2
 exact HT.za9 p1 p2 i1 i2 hu ⟨.bl (HT.z0r ns ms),H,I,rfl,q⟩
def zhE (K:W.Frag):R2:=fun x y H Q=>∃ a b xs ys,x = .ref a/\y = .ref b/\SqT K H a xs/\SqT K H b ys/\xs≠[]/\xs.length+ys.length<=sizeLine/\
 (ys=[]->Q (.ref a) H)/\(ys≠[]->∀ p,H p=none->Q (.ref p) (upd H p (.tup (xs++ys))))
def Vals.nil_iff {xs:List V}{us:List Value}(r:Vals xs us):us=[]↔xs=[]:=by
 cases r with
 | nil=>simp
 | cons _ _=>simp
def zet:OpR X (binaryOp .Add) (zhE X.K):=by
 intro pins s σ H x y v u Q I rx ry h
 obtain⟨a,b,xs,ys,rfl,rfl,ha,hb,hx,hz,q1,q2⟩:=h
 cases rx
 cases ry
 obtain⟨its,r1,p1,_⟩:=I.tuple ha
 obtain⟨its2,r2,p2,_⟩:=I.tuple hb
 refine HT.zeT p1 p2 (fun z=>hx (r1.nil_iff.mp z)) (fun z=>⟨.ref a,H,I,rfl,q1 (r2.nil_iff.mp z)⟩) (fun z => ?_) (by rw[<- r1.length, <- r2.length]; exact hz)
 refine⟨.ref s.heap.objs.size,_,I.laid (t':=s.toks) (o :=.tup (xs++ys)) (fun b ob q=>Heap.get?_push_of_some _ q) (Nat.le_refl _) ?_,rfl,q2 (fun w=>z (r2.nil_iff.mpr w)) _ (I.hok.fresh (Nat.le_refl _))⟩
 exact⟨by rw[List.length_append]; exact hz,_,r1.append r2,IsTup.new _ _,_,Heap.get?_push_size _ rfl,rfl⟩
end
def ixN (n:Nat)(i:Int):Option Nat:=if 0<=i then (if i < n then some i.toNat else none) else if -(n:Int)<=i then some (i+n).toNat else none
def atI {α:Type}(xs:List α)(i:Int):Option α:=(ixN xs.length i).bind fun j=>xs[j]?
def zeJ {n:Nat}{i:Int}{j:Nat}(h:ixN n i=some j):seqIndex? i n=some j/\j < n /\ -(n:Int)<=i/\i < n:=by
 unfold ixN at h
 by_cases h0:0<=i
 ·rw[if_pos h0] at h
  by_cases h1:i < n
  ·rw[if_pos h1] at h
   have e:i.toNat=j:=Option.some.inj h
   exact⟨by rw[seqIndex_of h0 h1,e],by omega,by omega,h1⟩
  ·rw[if_neg h1] at h; cases h
 ·rw[if_neg h0] at h
  by_cases h1 : -(n:Int)<=i
  ·rw[if_pos h1] at h
   have e:(i+n).toNat=j:=Option.some.inj h
   exact⟨by rw[seqIndex_neg (by omega) h1,e],by omega,h1,by omega⟩
  ·rw[if_neg h1] at h; cases h
def z90 {α:Type}{xs:List α}{i:Int}{v:α}(h:atI xs i=some v):∃ j,seqIndex? i xs.length=some j/\xs[j]? = some v/\j < xs.length /\ -(xs.length:Int)<=i/\i < xs.length:=by
 unfold atI at h
 cases e:ixN xs.length i with
 | none=>rw[e] at h; cases h
 | some j=>
  rw[e] at h
  obtain⟨h1,h2,h3,h4⟩:=zeJ e
  exact⟨j,h1,h,h2,h3,h4⟩
def z92 (b:Expr):Prop:=∀ o i,subscripted b false o i=operate [o,i] (getItem o i)
def IxR (X:Cx)(r:R2):Prop:=
 ∀ (value slice:Expr) (pins:List (Addr × Obj)) (s:Shared) (σ:St) (H:Hp) (x y:V) (v u:Value) (Q:VK),Inv X pins σ H s->RelV x v->RelV y u->r x y H Q->
  subscripted slice false v u=operate [v,u] (getItem v u)->wpAny (model X.prog X.w) X.A (subscriptTail value slice v u) (EP X pins σ Q) X.xe s
def MtR (X:Cx)(id:String)(r:V->List V->Hp->VK->Prop):Prop:=
 ∀ (pins:List (Addr × Obj)) (s:Shared) (σ:St) (H:Hp) (x:V) (xs:List V) (v:Value) (us:List Value) (Q:VK),Inv X pins σ H s->RelV x v->Vals xs us->r x xs H Q->
  wpAny (model X.prog X.w) X.A (call (.builtin id) (v::us)) (EP X pins σ Q) X.xe s
section
variable {X:Cx}{a b:Expr}{ta tb:TE}{pos:Pos}
def IxR.or {r r':R2}(h:IxR X r)(h':IxR X r'):IxR X (fun x y H Q=>r x y H Q\/r' x y H Q):=by
 intro value slice pins s σ H x y v u Q I rx ry q hs
 rcases q with q | q
 ·exact h value slice pins s σ H x y v u Q I rx ry q hs
 ·exact h' value slice pins s σ H x y v u Q I rx ry q hs
def zhW {r:R2}(hr:IxR X r)(ha:PE X a ta)(hb:PE X b tb)(hs:z92 b):PE X (.Subscript a b pos) (tOp r ta tb):=by
 intro pins s σ H Q I h
 exact Subscript_ (binT ha hb I h fun v u s2 x y H2 I2 rx ry q=>hr a b pins s2 σ H2 x y v u Q I2 rx ry q (hs _ _))
def rIxL (K:W.Frag):R2:=fun x y H Q=>∃ p xs i v,x = .ref p/\y = .int i/\SqL K H p xs/\atI xs i=some v/\Q v H
def rIxT (K:W.Frag):R2:=fun x y H Q=>∃ p xs i v,x = .ref p/\y = .int i/\SqT K H p xs/\atI xs i=some v/\Q v H
def rIxS:R2:=fun x y H Q=>∃ z i c,x = .str z/\y = .int i/\z.length<=sizeLine/\atI z.cps.toList i=some c/\Q (.str ⟨#[c]⟩) H
def zeI:IxR X (rIxL X.K):=by
 intro value slice pins s σ H x y v u Q I rx ry h hs
 obtain⟨p,xs,i,z,rfl,rfl,hq,he,q⟩:=h
 cases rx
 obtain⟨t,rfl⟩:=ry
 obtain⟨its,r,pl,hz⟩:=I.list hq
 obtain⟨j,h1,h2,h3,h4,h5⟩:=z90 he
 obtain⟨w,ew,rw'⟩:=r.get h2
 have hl:=r.length
 have hn:=z6n
 have fin:EP X pins σ Q w s:=⟨z,H,I,rw',q⟩
 by_cases h0:0<=i
 ·have hj:i.toNat=j:=by
   rw[seqIndex_of h0 h5] at h1
   exact Option.some.inj h1
  exact item_listR pl.isList h0 (by omega) (by rw[hj]; simpa using ew) fin hs
 ·have hj:(i+(its.toArray.size:Int)).toNat=j:=by
   rw[seqIndex_neg (by omega) h4] at h1
   rw[List.size_toArray, <- hl]
   exact Option.some.inj h1
  exact subscriptTail_builtinR (x:=w) pl.isList.typeIs slot_list_getitem.lookup
   (wpAny_getItem_list_neg (Q:=fun r s'=>r=w/\EP X pins σ Q r s') pl.isList (by omega) (by rw[List.size_toArray] <;> omega) (by omega) (by rw[hj]; simpa using ew) ⟨rfl,fin⟩) hs
def zgY:IxR X (rIxT X.K):=by
 intro value slice pins s σ H x y v u Q I rx ry h hs
 obtain⟨p,xs,i,z,rfl,rfl,hq,he,q⟩:=h
 cases rx
 obtain⟨t,rfl⟩:=ry
 obtain⟨its,r,pl,hz⟩:=I.tuple hq
 obtain⟨j,h1,h2,h3,h4,h5⟩:=z90 he
 obtain⟨w,ew,rw'⟩:=r.get h2
 have hl:=r.length
 have hn:=z6n
 have fin:EP X pins σ Q w s:=⟨z,H,I,rw',q⟩
 exact subscriptTail_builtinR (x:=w) pl.typeIs slot_tuple_getitem.lookup
  (getItem_tuple (j:=j) (Q:=fun r s'=>r=w/\EP X pins σ Q r s') pl (by omega) (by omega) (by rw[List.size_toArray, <- hl]; exact h1) (by simpa using ew) ⟨rfl,fin⟩) hs
def zgZ:IxR X rIxS:=by
 intro value slice pins s σ H x y v u Q I rx ry h hs
 obtain⟨z,i,c,rfl,rfl,hz,he,q⟩:=h
 obtain⟨t,rfl⟩:=rx
 obtain⟨t',rfl⟩:=ry
 obtain⟨j,h1,h2,h3,h4,h5⟩:=z90 he
 have hl:z.cps.toList.length=z.length:=by simp[Str.length]
 rw[hl] at h1 h4 h5
 have hn:=z6n
 exact tail_any (typeIs_str s z t) slot_str_getitem.lookup (getItem_str (c:=c) (by
  have e1:decide (i < -(2 ^ 63:Int))=false:=decide_eq_false (by omega)
  have e2:decide (i>=2 ^ 63)=false:=decide_eq_false (by omega)
  rw[e1,e2,Bool.or_false]) (by rw[h1]; simpa using h2) ⟨.str ⟨#[c]⟩,H,I.tok _,⟨_,rfl⟩,q⟩) hs
def rIx (K:W.Frag):R2:=fun x y H Q=>rIxL K x y H Q\/rIxT K x y H Q\/rIxS x y H Q
def zh0:IxR X (rIx X.K):=zeI.or (zgY.or zgZ)
def z7w (lo hi:Option Int)(n:Nat):(sliceBounds lo hi none n).1=((HT.sIx n 0 lo:Nat):Int)/\(sliceBounds lo hi none n).2.1=((HT.sIx n n hi:Nat):Int)/\(sliceBounds lo hi none n).2.2=1:=by
 refine⟨?_,?_,rfl⟩
 ·cases lo with
  | none=>simp[sliceBounds,HT.sIx]
  | some i=>
   simp only[sliceBounds,HT.sIx,Option.getD_none,show (1:Int) > 0 by decide,if_true]
   by_cases h:i < 0
   ·simp only[h,if_true] <;> omega
   ·simp only[h,if_false] <;> omega
 ·cases hi with
  | none=>simp[sliceBounds,HT.sIx]
  | some i=>
   simp only[sliceBounds,HT.sIx,Option.getD_none,show (1:Int) > 0 by decide,if_true]
   by_cases h:i < 0
   ·simp only[h,if_true] <;> omega
   ·simp only[h,if_false] <;> omega
def z6F (its:List Value)(lo hi:Option Int):slicePick its.toArray lo hi none=((its.drop (HT.sIx its.length 0 lo)).take (HT.sIx its.length its.length hi - HT.sIx its.length 0 lo)).toArray:=by
 obtain⟨h1,h2,h3⟩:=z7w lo hi its.toArray.size
 unfold slicePick
 rw[h1,h2,h3]
 simp only[sliceRange_one,pick_run,List.size_toArray] <;> rfl
def rSlL (K:W.Frag):V->Option Int->Option Int->Hp->VK->Prop:=fun x lo hi H Q=>∃ a xs,x = .ref a/\SqL K H a xs/\∀ p,H p=none->Q (.ref p) (upd H p (.lst (cutV xs lo hi)))
def zdU:SlR X (rSlL X.K):=by
 intro pins s σ H x v vl vu lo hi sl Q I rx hs pl pu h
 obtain⟨a,xs,rfl,hx,q⟩:=h
 cases rx
 obtain⟨its,r,ht,hz⟩:=I.list hx
 have hlen:=r.length
 refine⟨"list",_,slot_list_getitem.lookup,ht.isList.typeIs,?_⟩
 refine wpAny_getItem_list_slice ht.isList hs pl pu .none (by simp) ?_ (by rw[List.size_toArray] <;> omega)
 rw[z6F, <- hlen]
 refine⟨.ref s.heap.objs.size,_,I.laid (t':=s.toks) (o :=.lst (cutV xs lo hi)) (fun b ob q=>Heap.get?_push_of_some _ q) (Nat.le_refl _) ?_,rfl,q _ (I.hok.fresh (Nat.le_refl _))⟩
 exact⟨Nat.le_trans (z5K xs lo hi) hz,_,0,(r.drop (HT.sIx xs.length 0 lo)).take (HT.sIx xs.length xs.length hi - HT.sIx xs.length 0 lo),Heap.get?_push_size _ rfl⟩
def z8j:z1T X (.builtin "len") (fun xs H Q=>∃ p ys,xs=[.ref p]/\(SqL X.K H p ys\/SqT X.K H p ys)/\Q (.int ys.length) H):=by
 intro pins s σ H xs us Q I r h
 obtain⟨p,ys,rfl,hq,q⟩:=h
 obtain⟨u,rfl,rx⟩:=z4y r
 cases rx
 have hn:=z6n
 rcases hq with hq | hq
 ·obtain⟨its,r',pl,hz⟩:=I.list hq
  have hlen:=r'.length
  exact Calls.call_len_list pl.isList (by simp only[List.size_toArray] <;> omega) ⟨.int ys.length,H,I.tok _,⟨s.toks+1,by rw[List.size_toArray,hlen]⟩,q⟩
 ·obtain⟨its,r',pl,hz⟩:=I.tuple hq
  have hlen:=r'.length
  exact len_tuple pl (by simp only[List.size_toArray] <;> omega) ⟨.int ys.length,H,I.tok _,⟨s.toks+1,by rw[List.size_toArray,hlen]⟩,q⟩
def z8i:z1T X (.builtin "len") (fun xs H Q=>∃ z,xs=[.str z]/\z.length<=sizeLine/\Q (.int z.length) H):=by
 intro pins s σ H xs us Q I r h
 obtain⟨z,rfl,hz,q⟩:=h
 obtain⟨u,rfl,t,rfl⟩:=z4y r
 have hn:=z6n
 exact len_str (by omega) ⟨.int z.length,H,I.tok _,⟨_,rfl⟩,q⟩
def z1T.or {f:Value}{r r':List V->Hp->VK->Prop}(h:z1T X f r)(h':z1T X f r'):z1T X f (fun xs H Q=>r xs H Q\/r' xs H Q):=by
 intro pins s σ H xs us Q I rs q
 rcases q with q | q
 ·exact h pins s σ H xs us Q I rs q
 ·exact h' pins s σ H xs us Q I rs q
def z7f:z1T X (.type "tuple") (fun xs H Q=>∃ p ys,xs=[.ref p]/\((SqL X.K H p ys/\∀ l,H l=none->Q (.ref l) (upd H l (.tup ys)))\/(SqT X.K H p ys/\Q (.ref p) H))):=by
 intro pins s σ H xs us Q I r h
 obtain⟨p,ys,rfl,h⟩:=h
 obtain⟨u,rfl,rx⟩:=z4y r
 cases rx
 rcases h with ⟨hq,q⟩ | ⟨hq,q⟩
 ·obtain⟨its,r',pl,hz⟩:=I.list hq
  have hlen:=r'.length
  refine call_tuple_list pl.isList (fun h' kp => ?_) (by simp only[List.size_toArray] <;> omega)
  have I1:Inv X pins σ H { s with heap:=h' }:=I.kept (t':=s.toks) kp
  have I2:Inv X pins σ (upd H h'.objs.size (.tup ys)) { s with heap:=h'.push { cls :=.type "tuple",data :=.seq its.toArray } }:=
   I1.laid (t':=s.toks) (fun b o e=>Heap.get?_push_of_some _ e) (Nat.le_refl _) (show z1K X.prog X.w _ _ _ (.tup ys) from ⟨hz,its,r',IsTup.new _ _,_,Heap.get?_push_size _ rfl,rfl⟩)
  exact⟨.ref h'.objs.size,_,I2,rfl,q _ (I1.hok.fresh (Nat.le_refl _))⟩
 ·obtain⟨its,r',pl,hz⟩:=I.tuple hq
  exact call_tuple_same pl ⟨.ref p,H,I,rfl,q⟩
def tyV (K:W.Frag)(T:String)(x:V)(H:Hp):Prop:=match x with
 | .str _=>T="str"
 | .int _=>T="int"
 | .ref p=>(T="list"/\∃ xs,SqL K H p xs)\/(T="tuple"/\∃ o,K.lookup p=some o/\o.cls = .type "tuple"/\o.dict=none)\/
   (T="dict"/\((∃ kvs,H p=some (.dK kvs))\/∃ kvs,H p=some (.dT kvs)))\/(T="set"/\∃ S n,H p=some (.set S n))
 | _=>False
def zdk {pins:List (Addr × Obj)}{σ:St}{H:Hp}{s:Shared}{T:String}{x:V}{v:Value}(I:Inv X pins σ H s)(r:RelV x v)(ty:tyV X.K T x H):
  s.TypeIs v T/\∀ a,v = .ref a->∃ ob,s.heap.get? a=some ob/\ob.dict=none:=by
 cases x with
 | str z=>
  obtain⟨t,rfl⟩:=r
  cases (show T="str" from ty)
  exact⟨typeIs_str s z t,fun _ e=>nomatch e⟩
 | int i=>
  obtain⟨t,rfl⟩:=r
  cases (show T="int" from ty)
  exact⟨typeIs_int s i t,fun _ e=>nomatch e⟩
 | ref p=>
  cases r
  rcases ty with ⟨rfl,xs,hq⟩ | ⟨rfl,o,hk,hc,hd⟩ | ⟨rfl,hk⟩ | ⟨rfl,S,n,hk⟩
  ·obtain⟨its,_,pl,_⟩:=I.list hq
   refine⟨pl.isList.typeIs,fun a e => ?_⟩
   cases e
   obtain⟨o,n,e,c,hd,_⟩:=pl
   exact⟨o,e,hd⟩
  ·refine⟨⟨o,I.kIn p o hk,hc⟩,fun a e => ?_⟩
   cases e
   exact⟨o,I.kIn _ o hk,hd⟩
  ·have z:∃ o,s.heap.get? p=some o/\o.ExactDict:=by
    rcases hk with ⟨kvs,hk⟩ | ⟨kvs,hk⟩
    ·obtain⟨_,_,_,_,o,_,_,e,ex,_⟩:=I.hok p _ hk
     exact⟨o,e,ex⟩
    ·obtain⟨_,_,_,_,o,_,_,e,ex,_⟩:=I.hok p _ hk
     exact⟨o,e,ex⟩
   obtain⟨o,e,ex⟩:=z
   refine⟨⟨o,e,ex.1⟩,fun a e2 => ?_⟩
   cases e2
   exact⟨o,e,ex.2.1⟩
  ·obtain⟨o,_,_,_,e,ex,_⟩:=I.hok p _ hk
   refine⟨⟨o,e,ex.1⟩,fun a e2 => ?_⟩
   cases e2
   exact⟨o,e,ex.2.1⟩
 | _=>exact False.elim ty
def tBM0 (K:W.Frag)(T:String)(r:V->List V->Hp->VK->Prop)(to:TE):TE:=fun σ H Q=>to σ H fun x H1=>tyV K T x H1/\r x [] H1 Q
def tBM (K:W.Frag)(T:String)(r:V->List V->Hp->VK->Prop)(to:TE)(t:TA):TE:=fun σ H Q=>to σ H fun x H1=>tyV K T x H1/\t σ H1 fun xs H2=>r x xs H2 Q
variable {o e:Expr}{es:List Expr}{to:TE}{t:TA}{name:Str}{apos cpos:Pos}{T id:String}{r:V->List V->Hp->VK->Prop}
def zg5 (pa:PlainAttrs T)(slot:Slot T name id)(hty:typeOf (.builtin id)=pure (.type "method_descriptor"))(hm:MtR X id r)(ho:PE X o to)
  (hbase:attributeBase o name X.env (eval o X.env)=eval o X.env:=by rfl) (hline:(apos.endLine == cpos.line)=true:=by rfl):PE X (.Call (.Attribute o name apos) [] [] cpos) (tBM0 X.K T r to):=by
 intro pins s σ H Q I h
 refine wpAny_Call_method0_late hbase hline (thn (ho pins s σ H _ I h) fun v s1 ⟨x,H1,I1,r1,ty,q1⟩ => ?_)
 obtain⟨h1,h2⟩:=zdk I1 r1 ty
 exact⟨T,id,pa,slot,hty,h1,h2,Calls.callWith_builtin rfl (PySem.evalArgs_none (hm pins s1 σ H1 x [] v [] Q I1 r1 .nil q1))⟩
def zhY (pa:PlainAttrs T)(slot:Slot T name id)(hty:typeOf (.builtin id)=pure (.type "method_descriptor"))(hm:MtR X id r)(ho:PE X o to)(ha:PA X (e::es) t)
  (hbase:attributeBase o name X.env (eval o X.env)=eval o X.env:=by rfl)
  (hfew:((backTo cpos (starEach (e::es) X.env)).all (fun x => !x.1) && (backToKw cpos (keywordEach [] X.env)).all (fun x=>x.1.isSome)
   && decide ((e::es).length+([]:List Keyword).length+(if ([]:List Keyword).isEmpty then 0 else 1) < 30))=true:=by rfl)
  (hline:(apos.endLine == cpos.line)=true:=by rfl) (hs:starEach (e::es) X.env=(false,eval e X.env)::starEach es X.env:=by rfl) (hplain:(backTo cpos (starEach es X.env)).any (·.1)=false:=by rfl):
  PE X (.Call (.Attribute o name apos) (e::es) [] cpos) (tBM X.K T r to t):=by
 intro pins s σ H Q I h
 refine wpAny_Call_method_late hbase hfew hline rfl (thn (ho pins s σ H _ I h) fun v s1 ⟨x,H1,I1,r1,ty,q1⟩ => ?_)
 obtain⟨h1,h2⟩:=zdk I1 r1 ty
 refine⟨T,id,pa,slot,hty,h1,h2,?_⟩
 have hA:=ha cpos pins s1 σ H1 _ I1 q1
 rw[hs] at hA ⊢
 refine Calls.callWith_builtin (by show (false || (backTo cpos (starEach es X.env)).any (·.1))=false; rw[hplain] <;> rfl) (Calls.evalArgs_plain ?_)
 exact thn hA fun us s2 ⟨vs,H2,I2,r2,q2⟩=>hm pins s2 σ H2 x vs v us Q I2 r1 r2 q2
end
def MtM (X:Cx)(id:String)(r:V->List V->Hp->VK->Prop):Prop:=
 ∀ (pins:List (Addr × Obj)) (s:Shared) (σ:St) (H:Hp) (x:V) (xs:List V) (v:Value) (us:List Value) (Q:VK),Inv X pins σ H s->RelV x v->Vals xs us->r x xs H Q->
  wpAny (model X.prog X.w) X.A (call (.builtin id) (v::us)) (EP X pins σ Q) X.xe s
def Vals.one:∀ {x:V}{us:List Value},Vals [x] us->∃ u,us=[u]/\RelV x u
 | _,_,.cons r .nil=>⟨_,rfl,r⟩
def Vals.zero:∀ {us:List Value},Vals [] us->us=[]
 | _,.nil=>rfl
def Vals.dropLast {xs:List V}{us:List Value}(h:Vals xs us):Vals xs.dropLast us.dropLast:=by
 induction h with
 | nil=>exact .nil
 | cons r t ih=>
  cases t with
  | nil=>exact .nil
  | cons q t'=>exact .cons r ih
def Vals.reverse {xs:List V}{us:List Value}(h:Vals xs us):Vals xs.reverse us.reverse:=by
 induction h with
 | nil=>exact .nil
 | cons r t ih=>rw[List.reverse_cons,List.reverse_cons]; exact Vals.append ih (.cons r .nil)
def zah {α:Type}(l:List α):l.eraseIdx (l.length - 1)=l.dropLast:=by
 induction l with
 | nil=>rfl
 | cons a r ih=>
  cases r with
  | nil=>rfl
  | cons b r=>
   have e:(a::b::r).length - 1=((b::r).length - 1)+1:=by
    have h1:(a::b::r).length=r.length+2:=rfl
    have h2:(b::r).length=r.length+1:=rfl
    omega
   rw[e,List.eraseIdx_cons_succ,ih]
   all_goals rfl
section
variable {X:Cx}{pins:List (Addr × Obj)}{σ:St}{H:Hp}{s:Shared}{l b:Addr}{xs ys zs:List V}
def Inv.lset {its its':List Value}{n:Nat}{f:Array Value->Array Value}{t':Nat}(I:Inv X pins σ H s)(hH:H l=some (.lst xs))
  (e:s.heap.get? l=some { cls :=.type "list",data :=.seq its.toArray n }) (hf:f its.toArray=its'.toArray) (hv:Vals ys its') (hz:ys.length<=sizeLine):
  Inv X pins σ (upd H l (.lst ys)) { s with heap:=s.heap.update l (Obj.mapSeq f),toks:=t' }:=by
 have q:=PySem.IsL.update e f
 rw[hf] at q
 refine I.write (x:=l) (e:=l) (by rw[hH]; exact trivial) (.inl rfl) (fun b' u hb hu=>(Heap.get?_update_other s.heap (Obj.mapSeq f) (Ne.symm hb)).trans hu) ⟨_,q⟩ ?_
 exact⟨hz,its',_,hv,q⟩
def Inv.lnew {its:List Value}{t':Nat}(I:Inv X pins σ H s)(hv:Vals ys its)(hz:ys.length<=sizeLine):
  Inv X pins σ (upd H s.heap.objs.size (.lst ys)) { s with heap:=s.heap.push { cls :=.type "list",data :=.seq its.toArray },toks:=t' }:=
 I.laid (fun _ _ q=>Heap.get?_push_of_some _ q) (Nat.le_refl _) ⟨hz,its,0,hv,Heap.get?_push_size _ rfl⟩
def Inv.fresh (I:Inv X pins σ H s):H s.heap.objs.size=none:=I.hok.fresh (Nat.le_refl _)
def Inv.lstM (I:Inv X pins σ H s)(hH:H l=some (.lst xs)):xs.length<=sizeLine/\∃ (its:List Value) (n:Nat),Vals xs its/\xs.length=its.length/\s.heap.get? l=some { cls :=.type "list",data :=.seq its.toArray n }:=by
 obtain⟨z,its,n,r,e⟩:=I.hok l _ hH
 exact⟨z,its,n,r,r.length,e⟩
end
section
variable {X:Cx}
def zaS:V->List V->Hp->VK->Prop:=fun x vs H Q=>∃ l xs y,x = .ref l/\vs=[y]/\H l=some (.lst xs)/\xs.length < sizeLine/\Q .non (upd H l (.lst (xs++[y])))
def zbi:MtM X "list.append" zaS:=by
 intro pins s σ H x vs v us Q I rx rv h
 obtain⟨l,xs,y,rfl,rfl,hH,hz,q⟩:=h
 cases rx
 obtain⟨u,rfl,ru⟩:=rv.one
 obtain⟨z,its,n,r,hl,e⟩:=I.lstM hH
 refine call_meets F.slot_list_append ⟨_,e,rfl⟩ F.entry_list_append (F.args_list_append_2 _ _) (PySem.list_append l its.toArray n u (by rw[List.size_toArray]; omega)) ⟨e,?_⟩
 refine⟨.non,_,I.lset (its':=its++[u]) hH e (by simp) (r.append (.cons ru .nil)) ?_,rfl,q⟩
 rw[List.length_append,List.length_singleton]
 omega
def rPop:V->List V->Hp->VK->Prop:=fun x vs H Q=>∃ l xs y,x = .ref l/\vs=[]/\H l=some (.lst xs)/\xs[xs.length - 1]? = some y/\Q y (upd H l (.lst xs.dropLast))
def zgL:MtM X "list.pop" rPop:=by
 intro pins s σ H x vs v us Q I rx rv h
 obtain⟨l,xs,y,rfl,rfl,hH,hy,q⟩:=h
 cases rx
 have hus:=rv.zero
 subst hus
 obtain⟨z,its,n,r,hl,e⟩:=I.lstM hH
 obtain⟨u,hu,ru⟩:=r.get hy
 have hy':its.toArray[its.toArray.size - 1]? = some u:=by
  show its.toArray[its.length - 1]? = some u
  rw[<- Array.getElem?_toList, <- hl]
  exact hu
 refine call_meets F.slot_list_pop ⟨_,e,rfl⟩ F.entry_list_pop (F.args_list_pop_1 _) (MeetsSeq.list_pop_last l its.toArray n u hy' (by rw[List.size_toArray]; omega)) ⟨e,?_⟩
 refine⟨y,_,I.lset (its':=its.dropLast) hH e ?_ r.dropLast ?_,ru,q⟩
 ·show its.toArray.eraseIdxIfInBounds (its.toArray.size - 1)=its.dropLast.toArray
  rw[List.size_toArray,List.eraseIdxIfInBounds_toArray,zah]
 ·rw[List.length_dropLast]
  omega
end
end L2
namespace Att
open PySem PySem.W PySem.Calls PyProof.Rows
def z5x {P:Params}{h:Heap}:∀ (ns:List Int) (vs:List Value),WellAll P h vs (ns.map WData.int)->IntsAre vs ns:=by
 intro ns
 induction ns with
 | nil=>
  intro vs w
  rw[List.map_nil] at w
  cases w
  exact .nil
 | cons n ns ih=>
  intro vs w
  rw[List.map_cons] at w
  cases w with
  | cons a b=>
   cases a
   exact .cons _ _ (ih _ b)
def zaG {l:OpenLaw}{n:Nat}(hn:l.most=some n){P:Params}{h:Heap}{args:List WData}{vals:List Value}
  (hpre:l.row.toRowW.claim.pre args=true) (hwl:WellAll P h vals args):
  ∃ a vs ns,vals=[Value.ref a]/\args=[WData.list (ns.map WData.int)]/\h.get? a=some { cls :=.type "list",data :=.seq vs.toArray }/\IntsAre vs ns/\ns.length<=n:=by
 have hsh:WShape.hasAll [] args [.list .int]=true:=(pre_splitW hpre).1
 have hc:l.pre.holds [] { args:=args }=true:=(pre_splitW hpre).2
 obtain⟨d,r,rfl,h1,h2⟩:=hasAllW_cons hsh
 obtain rfl:=hasAllW_nil h2
 obtain⟨xs,rfl,h3⟩:=hasW_list h1
 obtain⟨ns,rfl⟩:=items_int h3
 have hlen:ns.length<=n:=by
  unfold OpenLaw.pre at hc
  have h4:(WTm.not (.lt (.lit (.int (n:Int))) (.len (.arg 0)))).holds [] { args:=[.list (ns.map .int)] }=true:=by
   have h4:=(holds_andW hc).1
   rw[hn] at h4
   exact h4
  have h5:=condW_of h4 (w_not (w_lt w_lit (w_len_list (w_arg rfl))))
  rw[List.length_map] at h5
  refine Nat.le_of_not_lt fun q => ?_
  have q':(n:Int) < ((ns.length:Nat):Int):=by omega
  first
   | (rw[decide_eq_true q'] at h5; exact absurd h5 (by decide))
   | (simp at h5; omega)
 cases hwl with
 | cons w1 w2=>
  cases w2
  cases w1 with
  | list ho hall=>exact⟨_,_,ns,rfl,rfl,ho,z5x ns _ hall,hlen⟩
def zaY (l:OpenLaw)(args:List WData):l.row.toRowW.claim.post args (.bool true) args=true:=
 postW_of (r:=l.row.toRowW) (X:=(true == true))
  (show WShape.has [] (.bool true) .bool=true by first | rfl | decide | simp[WShape.has,WShape.arms,WShape.armsAll])
  (show (WTm.eq .res (.lit (.bool true))).value [] { args:=args,res:=some (.bool true),after:=args }=some (.bool (true == true)) from w_eq_bool (w_res rfl) w_lit) rfl
def z8Z {l:OpenLaw}{n:Nat}{q:Program}{loose:List Str}{XP:(Str->Option Value)->Heap->Prop}{YP:World->Heap->Prop}{d:DefRec}
  (hn:l.most=some n) (hdf:d.params.defaults=[])
  (call:∀ (w:World) (s₀ s₁:Shared) (mg mb:Str->Option Value) (fa:Addr) (o:Obj) (pm cd doc:Value) (a:Addr) (vs:List Value) (ns:List Int),
   Ground q loose [] XP w s₀ mg mb s₁.heap->YP w s₁.heap->
   s₁.heap.get? fa=some o->o.data = .func (docDef d.name d.params d.body d.scope pm cd doc)->s₁.heap.CodeRec cd d.name->mg d.name=some (.ref fa)->
   s₁.heap.get? a=some { cls :=.type "list",data :=.seq vs.toArray }->IntsAre vs ns->ns.length<=n->s₁.gens = #[]->
   codeAny (model l.prog w) callerA (.call (.ref fa) ⟨[.ref a],[]⟩) (fun r s'=>r = .ok (.ret (.bool true))/\OldK s₁.heap s'.heap/\s'.os=s₁.os/\AllBare s'.gens) s₁):
  WalkO q loose XP YP l.row.toRowW d [] (fun f vs=>PySem.call f vs):=by
 intro w s₀ s₁ mg mb G Y fa o pm cd doc dV kV ho hd hcd hD hmg hg args vals as hpre hlay hrd hwl hlo
 obtain rfl:dV = .none:=Dflts.none hD hdf
 obtain rfl:kV = .none:=Dflts.noKw hD
 obtain⟨a,vs,ns,rfl,rfl,hobj,hints,hlen⟩:=zaG hn hpre hwl
 refine enter_call (codeAny_mono (call w s₀ s₁ mg mb fa o pm cd doc a vs ns G Y ho (fd_plain hd) hcd hmg hobj hints hlen hg) fun r s' hq => ?_)
 obtain⟨rfl,h2,h3,h4⟩:=hq
 exact⟨.inl ⟨.bool true,.bool true,[],rfl,fun _=>rfl,.bool true,zaY l _,fun _=>⟨List.Pairwise.nil,fun _ hm=>(nomatch hm)⟩⟩,h2,h3,h4⟩
end Att
namespace L2
open PySem PySem.Spec PyProof.Rows
def z7o:∀ {vs:List Value}{ns:List Int},IntsAre vs ns->Vals (ns.map V.int) vs
 | _,_,.nil =>.nil
 | _,_,.cons n t h =>.cons ⟨t,rfl⟩ (z7o h)
def z9A {α β:Type}[BEq α][LawfulBEq α]{a:α}{b:β}:∀ {l:List (α × β)},l.lookup a=some b->(a,b)∈l
 | [],h=>by cases h
 | (c,d)::r,h=>by
  rw[List.lookup_cons] at h
  cases e:a == c with
  | true=>rw[e] at h; cases h; rw[eq_of_beq e]; exact .head _
  | false=>rw[e] at h; exact .tail _ (z9A h)
def z6d {K:W.Frag}{c P:Addr}(h:z8x K c=some P):K.lookup P=none/\∃ o vs,K.lookup c=some o/\o.cls = .type "code"/\o.data = .fields vs/\vs[11]? = some (.ref P):=by
 unfold z8x at h
 split at h
 ·rename_i vs _ hk
  split at h
  ·rename_i P' h11
   split at h
   ·rename_i hn
    cases h
    exact⟨by simpa using hn,_,vs,hk,rfl,rfl,h11⟩
   ·cases h
  ·cases h
 ·cases h
def z7q {K:W.Frag}{P:Addr}{t:Nat × Nat × Str}(h:(tsOf K).lookup P=some t):∃ c,z8x K c=some P:=by
 obtain⟨p,_,e⟩:=List.mem_filterMap.mp (z9A h)
 split at e
 ·split at e
  ·rename_i c _ _
   cases q:z8x K c with
   | none=>rw[q] at e; cases e
   | some P'=>rw[q] at e; cases e; exact⟨c,q⟩
  ·cases e
 ·cases e
def zcU {P:Program}{w:World}{K:W.Frag}{mg mb:Str->Option Value}{CX:CXT}{k:Nat}{fa a:Addr}{fd:FuncData}{x:Str}{sp:Sp}{s₁:Shared}{vs:List Value}{ns:List Int}
  (KX:K.In s₁.heap) (hns:s₁.heap.Ns mainGlobals mg) (hb:s₁.heap.Ns builtinsNs mb) (hbb:∀ x:Str,x≠"__name__"->mb x=bootBuiltins x) (hlim:s₁.heap.NoLimit) (hbm:BmAt mg s₁.heap) (hg:s₁.gens = #[])
  (ha:s₁.heap.get? a=some { cls :=.type "list",data :=.seq vs.toArray }) (hi:IntsAre vs ns) (hl:ns.length<=sizeLine) (hr:Room k callerA)
  (hT:∀ P t,(tsOf K).lookup P=some t->s₁.heap.get? P=some { cls :=.none,data :=.fields #[] })
  (F:∀ base:Heap,K.In base->base.Ns mainGlobals mg->FnOk P w K mg base CX k fa fd [x] sp) (hbind:∀ (s:Shared) (u:Value),BindsTo s fd ⟨[u],[]⟩ [(x,u)])
  (hsp:∀ H:Hp,SqL K H a (ns.map V.int)->sp [.ref a] H (fun v _=>v = .bl true) fun _ _ _=>False)
  (hCX:∀ H e s',CX [] H s₁ (fun _ _ _=>False) e s'->False):
  codeAny (model P w) callerA (.call (.ref fa) ⟨[.ref a],[]⟩) (fun r s'=>r = .ok (.ret (.bool true))/\OldK s₁.heap s'.heap/\s'.os=s₁.os/\AllBare s'.gens) s₁:=by
 have rv:=z7o hi
 have lenV:=hi.length
 have aT:(tsOf K).lookup a=none:=by
  cases q:(tsOf K).lookup a with
  | none=>rfl
  | some t=>
   have e:=hT a t q
   rw[ha] at e; cases e
 have core:∀ u:Option HO,SqL K (fun b=>if b=a then u else ((tsOf K).lookup b).map fun t =>.tbl (encT t)) a (ns.map V.int)->((u=none)\/(K.lookup a=none/\u=some (.frz { cls :=.type "list",data :=.seq vs.toArray } (.lst (ns.map V.int)))))->
   codeAny (model P w) callerA (.call (.ref fa) ⟨[.ref a],[]⟩) (fun r s'=>r = .ok (.ret (.bool true))/\OldK s₁.heap s'.heap/\s'.os=s₁.os/\AllBare s'.gens) s₁:=by
  intro u hS hu
  generalize hH:(fun b=>if b=a then u else ((tsOf K).lookup b).map fun t=>HO.tbl (encT t):Hp)=H at hS
  have at_:∀ {b v},H b=some v->(b=a/\u=some v)\/(b≠a/\∃ t,(tsOf K).lookup b=some t/\v = .tbl (encT t)):=fun {b v} e=>by
   rw[<- hH] at e
   by_cases hb:b=a
   ·exact .inl ⟨hb,by rw[<- e]; exact(if_pos hb).symm⟩
   ·have e':=(if_neg hb).symm.trans e
    cases q:(tsOf K).lookup b with
    | none=>rw[q] at e'; cases e'
    | some t=>rw[q] at e'; cases e'; exact .inr ⟨hb,t,rfl,rfl⟩
  have hok:HOk P w H s₁.heap:=fun b v e=>by
   rcases at_ e with ⟨rfl,z⟩ | ⟨_,t,q,rfl⟩
   ·rcases hu with hu | ⟨_,hu⟩
    ·rw[hu] at z; cases z
    ·rw[hu] at z
     cases z
     exact⟨ha,by rw[List.length_map]; exact hl,vs,_,rv,ha⟩
   ·exact .inl (hT b t q)
  have noA:∀ {b:Addr}{o:Obj}{es:Array DictEntry}{ep:Nat},s₁.heap.get? b=some o->o.data = .dict es ep->H b=none:=fun {b o es ep} e d=>by
   cases q:H b with
   | none=>rfl
   | some v=>
    rcases at_ q with ⟨rfl,_⟩ | ⟨_,t,q,_⟩
    ·rw[ha] at e; cases e
     have d':Data.seq vs.toArray _=Data.dict es ep:=d
     cases d'
    ·have:=hT b t q
     rw[e] at this; cases this
     have d':Data.fields _=Data.dict es ep:=d
     cases d'
  have noP:∀ {b:Addr}{o:Obj},s₁.heap.get? b=some o->o.data = .plain->H b=none:=fun {b o} e d=>by
   cases q:H b with
   | none=>rfl
   | some v=>
    rcases at_ q with ⟨rfl,_⟩ | ⟨_,t,q,_⟩
    ·rw[ha] at e; cases e
     have d':Data.seq vs.toArray _=Data.plain:=d
     cases d'
    ·have:=hT b t q
     rw[e] at this; cases this
     have d':Data.fields _=Data.plain:=d
     cases d'
  have nsK:∀ {b:Addr}{m:Str->Option Value},s₁.heap.Ns b m->(hidT s₁.heap H).Ns b m:=fun {b m} ⟨o,es,ep,e,d,r⟩=>⟨o,es,ep,z70 e (noA e d),d,r⟩
  have hKb:K.In (hidT s₁.heap H):=fun b o e=>z70 (KX b o e) (by
   cases q:H b with
   | none=>rfl
   | some v=>
    rcases at_ q with ⟨rfl,z⟩ | ⟨_,t,q,_⟩
    ·rcases hu with hu | ⟨hu,_⟩
     ·rw[hu] at z; cases z
     ·rw[hu] at e; cases e
    ·obtain⟨c,hc⟩:=z7q q
     rw[(z6d hc).1] at e; cases e)
  have hM:Mod K mg (hidT s₁.heap H):=⟨hKb,nsK hns,⟨mb,nsK hb,hbb⟩,let ⟨mc,h1,h2⟩:=hlim; ⟨mc,nsK h1,h2⟩,let ⟨bm,ob,b1,b2,b3,b4,b5,b6⟩:=hbm; ⟨bm,ob,b1,b2,z70 b3 (noP b3 b6),b4,b5,b6⟩⟩
  have e0:Env0 P w K mg (hidT s₁.heap H) callerA [] s₁ H:=⟨rfl,hM,fun b o e=>zev e,Nat.le_of_eq (zbw _ _),trivial,fun b hb=>absurd (show b∈([]:List Addr) from hb) (by simp),fun Pt t e=>⟨#[],by
   rw[<- hH]
   show (if Pt=a then u else ((tsOf K).lookup Pt).map fun t=>HO.tbl (encT t))=_
   rw[if_neg (fun z=>by rw[z,aT] at e; cases e),e]; simp⟩,hok,.of_eq hg⟩
  refine codeAny_mono ((F _ hKb (nsK hns)).run callerA [] s₁ H ⟨[.ref a],[]⟩ [.ref a] [.ref a] _ _ hr e0 (hbind s₁ (.ref a)) (.cons rfl .nil) (hsp H hS)) fun r s' h => ?_
  cases r with
  | error e=>exact(hCX H e s' h).elim
  | ok fl=>
   cases fl with
   | next=>exact False.elim h
   | brk=>exact False.elim h
   | cont=>exact False.elim h
   | ret v0=>
    obtain⟨v,H',os,bare,un,hok',r',q⟩:=h
    have q':v = .bl true:=q
    subst q'
    obtain rfl:v0=Value.bool true:=r'
    refine⟨rfl,⟨fun b o e => ?_,fun b o e=>un.there b o e (by simp)⟩,os,bare⟩
    cases q:H b with
    | none=>exact .inl (un.keep b o e q (by intro z; exact absurd (show b∈([]:List Addr) from z) (by simp)) (by simp))
    | some v=>
     rcases at_ q with ⟨rfl,z⟩ | ⟨_,t,q2,rfl⟩
     ·rcases hu with hu | ⟨_,hu⟩
      ·rw[hu] at z; cases z
      ·rw[hu] at z
       cases z
       obtain⟨e2,_⟩:=hok' _ _ (un.frzs _ _ _ q)
       rw[ha] at e
       cases e
       exact .inl e2
     ·have e1:=hT b t q2
      rw[e] at e1
      cases e1
      obtain⟨more,q3⟩:=un.tbls b _ q
      obtain⟨c,hc⟩:=z7q q2
      obtain⟨_,oc,vc,c1,c2,c3,c4⟩:=z6d hc
      rcases hok' b _ q3 with z | ⟨l,c,_,_,c',_,_,_,_,_,_,z,_⟩
      ·exact .inl z
      ·exact .inr (.inl ⟨⟨_,oc,vc,KX _ _ c1,c2,c3,c4⟩,rfl, #[], #[l,c,.ref c'],rfl,by rw[z]; simp⟩)
 cases hk:K.lookup a with
 | some o=>
  have e:=KX a o hk
  rw[ha] at e
  cases e
  exact core none (.inr ⟨_,vs.toArray,_,hk,rfl,rfl,rfl,by rw[List.size_toArray,lenV]; exact hl,by simpa using rv⟩) (.inl rfl)
 | none=>exact core _ (.inl (.inr ⟨_,if_pos rfl⟩)) (.inr ⟨hk,rfl⟩)
def zdK {l:PySem.W.OpenLaw}{n k:Nat}{q:Program}{loose:List Str}{XP:(Str->Option Value)->Heap->Prop}{YP:World->Heap->Prop}{d:DefRec}{K:Params->W.Frag}{CX:World->CXT}{sp:World->Sp}{x:Str}
  (hn:l.most=some n) (hn2:n<=sizeLine) (hdf:d.params.defaults=[]) (hr:Room k callerA)
  (hY:∀ (w:World) (h:Heap),YP w h->(K w.params).In h) (hT:∀ (w:World) (h:Heap),YP w h->∀ P t,(tsOf (K w.params)).lookup P=some t->h.get? P=some { cls :=.none,data :=.fields #[] })
  (F:∀ (w:World) (mg:Str->Option Value) (fa:Addr) (h:Heap),(K w.params).In h->h.Ns mainGlobals mg->mg d.name=some (.ref fa)->
   ∃ fd:FuncData,(∀ (s:Shared) (u:Value),BindsTo s fd ⟨[u],[]⟩ [(x,u)])/\
    ∀ base:Heap,(K w.params).In base->base.Ns mainGlobals mg->FnOk l.prog w (K w.params) mg base (CX w) k fa fd [x] (sp w))
  (hsp:∀ (w:World) (H:Hp) (a:Addr) (ns:List Int),ns.length<=n->SqL (K w.params) H a (ns.map V.int)->sp w [.ref a] H (fun v _=>v = .bl true) fun _ _ _=>False)
  (hCX:∀ (w:World) (H:Hp) (s:Shared) (e:Value) (s':Shared),CX w [] H s (fun _ _ _=>False) e s'->False):
  PySem.W.WalkO q loose XP YP l.row.toRowW d [] (fun f vs=>PySem.call f vs):=by
 refine Att.z8Z hn hdf fun w s₀ s₁ mg mb fa o pm cd doc a vs ns G Y ho hd hcd hmg hobj hints hlen hg => ?_
 have KX:=hY w _ Y
 obtain⟨fd,hb,hF⟩:=F w mg fa _ KX G.T.g hmg
 exact zcU KX G.T.g G.T.b G.T.builtins G.T.nolimit G.T.bmain hg hobj hints (Nat.le_trans hlen hn2) hr (hT w _ Y) hF hb (fun H hS=>hsp w H a ns hlen hS) fun H e s'=>hCX w H s₁ e s'
def z3h (s:Stmt):Arguments:=match s with
 | .FunctionDef _ a _ _ _ _ _ _ _ _=>a
 | _=>{ posonlyargs:=[],args:=[],vararg:=none,kwonlyargs:=[],kw_defaults:=[],kwarg:=none,defaults:=[] }
def z2g (s:Stmt):List Stmt:=match s with
 | .FunctionDef _ _ b _ _ _ _ _ _ _=>b
 | _=>[]
def z00 (s:Stmt):Scope:=match s with
 | .FunctionDef _ _ _ _ _ _ sc _ _ _=>sc
 | _=>{ kind :=.function,names:=[],isGenerator:=false,isCoroutine:=false }
abbrev E0:XK:=fun _ _ _=>False
structure Fun (K:W.Frag)(x qual:Str)(st:Stmt)(f:Addr)(fd:FuncData):Prop where
 ex:∃ (oc:Value) (od:Option Addr) (kV doc pm:Value) (an:Option Addr) (cdv ct:Value) (osl:Array (Option Value)),
  fd=PySem.W.fnOf x qual (z3h st) (z2g st) (z00 st) .none kV doc pm an cdv ct/\K.lookup f=some ⟨oc,od,.func fd,osl⟩/\PySem.W.codeIn K cdv qual=true
 kp:PySem.W.keepIn K (.ref f)=true
section
variable {P:Program}{w:World}{K:W.Frag}{mg:Str->Option Value}{base:Heap}
def Fun.binds {x qual:Str}{st:Stmt}{f:Addr}{fd:FuncData}{ps:List Str}(F:Fun K x qual st f fd)
  (h:∀ (kV doc pm:Value) (an:Option Addr) (cdv ct:Value) (us:List Value),us.length=ps.length->bindArgs (PySem.W.fnOf x qual (z3h st) (z2g st) (z00 st) .none kV doc pm an cdv ct) ⟨us,[]⟩=pure (ps.zip us)):z6a K fd ps []:=by
 obtain⟨oc,od,kV,doc,pm,an,cdv,ct,osl,rfl,lk,hcd⟩:=F.ex
 exact .all (h kV doc pm an cdv ct)
def zdF {x qual:Str}{st:Stmt}{f:Addr}{oc:Value}{od an:Option Addr}{osl:Array (Option Value)}{kV doc pm cdv ct:Value}(l:K.lookup f=some ⟨oc,od,.func (PySem.W.fnOf x qual (z3h st) (z2g st) (z00 st) .none kV doc pm an cdv ct),osl⟩)
  (c:PySem.W.codeIn K cdv qual=true) (k:PySem.W.keepIn K (.ref f)=true):Fun K x qual st f (PySem.W.fnOf x qual (z3h st) (z2g st) (z00 st) .none kV doc pm an cdv ct):=⟨⟨oc,od,kV,doc,pm,an,cdv,ct,osl,rfl,l,c⟩,k⟩
end
def iteF {A B:Prop}(h:B):if false=true then A else B:=by
 rw[if_neg Bool.false_ne_true]
 exact h
def iteT {A B:Prop}(h:A):if true=true then A else B:=by
 rw[if_pos rfl]
 exact h
def Same (H H':Hp):Prop:=∀ b o,H b=some o->H' b=some o
def Same.seq {K:W.Frag}{H H':Hp}{a:Addr}{xs:List V}(e:Same H H')(h:SqL K H a xs):SqL K H' a xs:=by
 rcases h with (h | ⟨o,h⟩) | h
 ·exact .inl (.inl (e _ _ h))
 ·exact .inl (.inr ⟨o,e _ _ h⟩)
 ·exact .inr h
end L2
set_option maxHeartbeats 4000000
namespace L2
open PySem PySem.Spec PyProof.Rows
open Builtin.Int (intBits)
abbrev Bt (n:Nat)(i:Int):Prop:=intBits i<=n
def Bt.le {m n:Nat}{i:Int}(h:Bt m i)(q:m<=n:=by decide):Bt n i:=Nat.le_trans h q
def z0S {n:Nat}{i:Int}(h:i.natAbs < 2 ^ n):Bt n i:=PySem.intBits_le_iff.mpr h
def Bt.of_abs {n:Nat}{i j:Int}(h:Bt n j)(q:i.natAbs<=j.natAbs):Bt n i:=PySem.intBits_le_of_natAbs q h
def Bt.add {m n:Nat}{i j:Int}(h:Bt m i)(q:Bt n j):Bt (max m n+1) (i+j):=PySem.intBits_add_le h q
def Bt.sub {m n:Nat}{i j:Int}(h:Bt m i)(q:Bt n j):Bt (max m n+1) (i - j):=PySem.intBits_sub_le h q
def Bt.mul {m n:Nat}{i j:Int}(h:Bt m i)(q:Bt n j):Bt (m+n) (i*j):=PySem.intBits_mul_le h q
def Bt.neg {m:Nat}{i:Int}(h:Bt m i):Bt m (-i):=PySem.intBits_neg_le h
def zeX (i j:Int):Prop:=Bt 60000000 i/\Bt 60000000 j
def zhu (_ j:Int):Prop:=j≠0/\Bt 9000 j
def zbn {j:Int}(h0:j≠0)(h:Bt 9000 j):j.natAbs.log2 < 9000:=by
 have e:intBits j=j.natAbs.log2+1:=by
  unfold Builtin.Int.intBits
  rw[if_neg (by simpa using h0)]
 have h':intBits j<=9000:=h
 omega
section
variable {X:Cx}{a b c:Expr}{ta tb tc:TE}{pos:Pos}
def zer:OpR X (binaryOp .Mult) (rI zeX fun i j =>.int (i*j)):=opI fun _ _ _ _ _ _ _ hc q=>mul_int q (IntMulOk.of_le hc.1 hc.2 (by decide))
def zcC:OpR X (binaryOp .FloorDiv) (rI zhu fun i j =>.int (i.fdiv j)):=opI fun _ _ _ _ _ _ _ hc q=>floordiv_int hc.1 q (.inl (PyProof.noPylong_of_log2 (zbn hc.1 hc.2)))
end
mutual
def Rp (K:W.Frag)(H:Hp):PyData->V->Prop
 | .none,v=>v = .non
 | .bool b,v=>v = .bl b
 | .int i,v=>v = .int i
 | .str x,v=>v = .str x
 | .list ds,v=>∃ a xs,v = .ref a/\SqL K H a xs/\RpL K H ds xs
 | .tuple ds,v=>∃ a xs,v = .ref a/\SqT K H a xs/\RpL K H ds xs
 | .dict _,_=>False
def RpL (K:W.Frag)(H:Hp):List PyData->List V->Prop
 | [],xs=>xs=[]
 | d::ds,xs=>∃ x r,xs=x::r/\Rp K H d x/\RpL K H ds r
end
def Same.seqT {K:W.Frag}{H H':Hp}{a:Addr}{xs:List V}(e:Same H H')(h:SqT K H a xs):SqT K H' a xs:=by
 rcases h with (h | ⟨o,h⟩) | h
 ·exact .inl (.inl (e _ _ h))
 ·exact .inl (.inr ⟨o,e _ _ h⟩)
 ·exact .inr h
mutual
def Rp.same {K:W.Frag}{H H':Hp}(e:Same H H'):∀ (d:PyData) {v:V},Rp K H d v->Rp K H' d v
 | .none,_,h=>by simpa[Rp] using h
 | .bool _,_,h=>by simpa[Rp] using h
 | .int _,_,h=>by simpa[Rp] using h
 | .str _,_,h=>by simpa[Rp] using h
 | .list ds,_,h=>by
  rw[Rp] at h ⊢
  obtain⟨a,xs,h1,h2,h3⟩:=h
  exact⟨a,xs,h1,e.seq h2,RpL.same e ds h3⟩
 | .tuple ds,_,h=>by
  rw[Rp] at h ⊢
  obtain⟨a,xs,h1,h2,h3⟩:=h
  exact⟨a,xs,h1,e.seqT h2,RpL.same e ds h3⟩
 | .dict _,_,h=>by simp[Rp] at h
def RpL.same {K:W.Frag}{H H':Hp}(e:Same H H'):∀ (ds:List PyData) {xs:List V},RpL K H ds xs->RpL K H' ds xs
 | [],_,h=>by simpa[RpL] using h
 | d::ds,_,h=>by
  rw[RpL] at h ⊢
  obtain⟨x,r,h1,h2,h3⟩:=h
  exact⟨x,r,h1,Rp.same e d h2,RpL.same e ds h3⟩
end
section
variable {X:Cx}{pins:List (Addr × Obj)}{σ:St}{H:Hp}{s:Shared}
mutual
def Rp.reads (I:Inv X pins σ H s):∀ (d:PyData) {v:V}{u:Value},Rp X.K H d v->RelV v u->∃ as,Reads s.heap u d as
 | .none,v,u,h,r=>by
  rw[Rp] at h; subst h
  cases (show u=Value.none from r); exact⟨_,.none⟩
 | .bool b,v,u,h,r=>by
  rw[Rp] at h; subst h
  cases (show u=Value.bool b from r); exact⟨_,.bool b⟩
 | .int i,v,u,h,r=>by
  rw[Rp] at h; subst h
  obtain⟨t,rfl⟩:=(show ∃ t,u=Value.int i t from r); exact⟨_,.int i t⟩
 | .str x,v,u,h,r=>by
  rw[Rp] at h; subst h
  obtain⟨t,rfl⟩:=(show ∃ t,u=Value.str x t from r); exact⟨_,.str x t⟩
 | .list ds,v,u,h,r=>by
  rw[Rp] at h
  obtain⟨a,xs,rfl,h2,h3⟩:=h
  cases (show u=Value.ref a from r)
  obtain⟨its,hv,⟨o,n,e,hc,_,hd⟩,_⟩:=I.list h2
  obtain⟨as,q⟩:=RpL.reads I ds h3 hv
  exact⟨_,.list e hc hd (by simpa using q)⟩
 | .tuple ds,v,u,h,r=>by
  rw[Rp] at h
  obtain⟨a,xs,rfl,h2,h3⟩:=h
  cases (show u=Value.ref a from r)
  obtain⟨its,hv,⟨o,e,hc,n,hd⟩,_⟩:=I.tuple h2
  obtain⟨as,q⟩:=RpL.reads I ds h3 hv
  exact⟨_,.tuple e hc hd (by simpa using q)⟩
 | .dict _,v,u,h,r=>by simp[Rp] at h
def RpL.reads (I:Inv X pins σ H s):∀ (ds:List PyData) {xs:List V}{us:List Value},RpL X.K H ds xs->Vals xs us->∃ as,ReadsAll s.heap us ds as
 | [],xs,us,h,r=>by
  rw[RpL] at h; subst h
  cases r; exact⟨_,.nil⟩
 | d::ds,xs,us,h,r=>by
  rw[RpL] at h
  obtain⟨x,t,rfl,h2,h3⟩:=h
  cases r with
  | cons r1 r2=>
   obtain⟨as,q⟩:=Rp.reads I d h2 r1
   obtain⟨bs,q'⟩:=RpL.reads I ds h3 r2
   exact⟨_,.cons q q'⟩
end
end
section
variable {X:Cx}
def rEqD (K:W.Frag)(neg:Bool):R2:=fun x y H Q=>∃ d e,Rp K H d x/\Rp K H e y/\PySem.SeqAt.shaped d=true/\PySem.SeqAt.shaped e=true/\Q (.bl (if neg then !PyData.eqv d e else PyData.eqv d e)) H
def zgh (hu:X.A.units+64 < cLine):OpR X (compareOp .Eq) (rEqD X.K false):=by
 intro pins s σ H x y v u Q I rx ry h
 obtain⟨d,e,h1,h2,h3,h4,q⟩:=h
 obtain⟨as,r1⟩:=Rp.reads I d h1 rx
 obtain⟨bs,r2⟩:=Rp.reads I e h2 ry
 exact eq_dataH r1 r2 h3 h4 hu ⟨.bl (PyData.eqv d e),H,I,rfl,q⟩
def zgd (hu:X.A.units+64 < cLine):OpR X (compareOp .NotEq) (rEqD X.K true):=by
 intro pins s σ H x y v u Q I rx ry h
 obtain⟨d,e,h1,h2,h3,h4,q⟩:=h
 obtain⟨as,r1⟩:=Rp.reads I d h1 rx
 obtain⟨bs,r2⟩:=Rp.reads I e h2 ry
 exact ne_dataH r1 r2 h3 h4 hu ⟨.bl (!PyData.eqv d e),H,I,rfl,q⟩
end
structure Cal (P:Program)(w:World)(K:W.Frag)(mg:Str->Option Value)(base:Heap)(CX:CXT)(k:Nat)(x:Str)(ps:List Str)(sp:Sp):Prop where
 ex:∃ f fd,FnOk P w K mg base CX k f fd ps sp/\mg x=some (.ref f)/\PySem.W.keepIn K (.ref f)=true/\z6a K fd ps []
section
variable {X:Cx}{CX:CXT}{k:Nat}{ps:List Str}{sp:Sp}{E:XK}{x:Str}{p pos:Pos}{e:Expr}{es:List Expr}{t:TA}
def zhX (C:Cal X.prog X.w X.K X.mg X.base CX k x ps sp)(hr:Room k X.A)(hx:z54 CX X E)(ha:PA X (e::es) t)(hg:Gl X x:=by rfl)
  (hdb:(x == ("__debug__":Str))=false:=by decide) (he:starEach (e::es) X.env=(false,eval e X.env)::starEach es X.env:=by rfl) (hpl:(backTo pos (starEach es X.env)).any (·.1)=false:=by rfl):
  PE X (.Call (.Name x p) (e::es) [] pos) (zdS sp [] E t):=by
 obtain⟨f,fd,F,hm,hk,hb⟩:=C.ex
 exact zen F hr hg hm hk hb .nil hx ha hdb he hpl
end
end L2
namespace L2
open PySem PySem.Spec PyProof.Rows
section
variable {P:Program}{w:World}{H:Hp}{h h':Heap}{a:Addr}{o:HO}
def HOk.track (x:HOk P w H h)(hn:H a=none)(new:z1K P w (upd H a o) h a o):HOk P w (upd H a o) h:=fun b u e=>by
 by_cases hb:b=a
 ·subst hb; rw[z0i] at e; cases e; exact new
 ·rw[z09 hb] at e
  exact(x b u e).stay (fun c v _ q=>q) (fun c q=>by rw[z09 (z0t q hn)]; exact q) fun c xs q=>by rw[z09 (z0t q hn)]; exact q
def HOk.other (x:HOk P w H h)(hn:H a=none)(k:∀ b u,b≠a->h.get? b=some u->h'.get? b=some u):HOk P w H h':=fun b u e=>by
 have nit:∀ c v,H c=some v->c≠a:=fun c v q z=>by rw[z,hn] at q; cases q
 refine(x b u e).stay (fun c v hc q=>k c v ?_ q) (fun _ q=>q) fun _ _ q=>q
 rcases hc with z | z
 ·rw[z]; exact nit b u e
 ·exact nit c _ z
end
end L2
namespace Mth
def z2Q {a b:Int}(hb:0 < b):(a / b).natAbs<=a.natAbs:=by
 rw[<- Int.fdiv_eq_ediv_of_nonneg a (Int.le_of_lt hb)]
 exact PySem.natAbs_fdiv_le a b
end Mth
namespace L2
open PySem PySem.Spec PyProof.Rows
def z7h {i:Int}(h1 : -(2 ^ 64) < i)(h2:i < 2 ^ 64):Bt 9000 i:=Nat.le_trans (PySem.intBits_le_64 h1 h2) (by decide)
def bt_k {i:Int}(h:i.natAbs < 2 ^ 640):Bt 640 i:=z0S h
def bt_n {i:Int}(h0:0<=i)(h:i < 2 ^ 640):Bt 640 i:=z0S (by omega)
def z0D {H:Hp}{p:Addr}(h:H p=none)(o:HO):Same H (upd H p o):=fun b u q=>by rw[z09 (z0t q h)]; exact q
def PE.imp {X:Cx}{e:Expr}{t t':TE}(h:PE X e t)(i:∀ σ H Q,t' σ H Q->t σ H Q):PE X e t':=fun pins s σ H Q I q=>h pins s σ H Q I (i σ H Q q)
def OpR.imp {X:Cx}{f:Value->Value->Sem Value}{r r':R2}(h:OpR X f r)(i:∀ x y H Q,r' x y H Q->r x y H Q):OpR X f r':=fun pins s σ H x y v u Q I rx ry q=>h pins s σ H x y v u Q I rx ry (i x y H Q q)
section
variable {X:Cx}{es:List Expr}{t:TA}{pos:Pos}
def SlR.imp {r r':V->Option Int->Option Int->Hp->VK->Prop}(h:SlR X r)(i:∀ x lo hi H Q,r' x lo hi H Q->r x lo hi H Q):SlR X r':=by
 unfold SlR at h ⊢
 intros
 apply h
 all_goals first | assumption | (apply i; assumption)
end
structure QE (X:Cx)(e:Expr)(t:TE):Prop where
 p:PE X e t
structure QT (X:Cx)(e:Expr)(t:TT):Prop where
 p:PT X e t
structure QW (X:Cx)(e:Expr)(t:TT):Prop where
 p:PW X e t
structure QA (X:Cx)(es:List Expr)(t:TA):Prop where
 p:PA X es t
structure QS (X:Cx)(st:Stmt)(t:TS):Prop where
 p:PS X st t
structure QSs (X:Cx)(st:List Stmt)(t:TS):Prop where
 p:PSs X st t
structure QG (X:Cx)(e:Expr)(t:TG):Prop where
 p:PG X e t
structure QI (X:Cx)(tg e:Expr)(t:TI):Prop where
 p:PI X tg e t
structure QO (X:Cx)(e:Option Expr)(t:TO):Prop where
 p:PO X e t
section
variable {X:Cx}{a b c e f o:Expr}{ta tb tc te:TE}{pos pos2 p2:Pos}{tA tB':TT}{rest:List Expr}{es:List Expr}{aa:TA}
def zfO {i j pos}:QE X (.Constant (.int i) j pos) (tC (.int i)):=⟨zg4⟩
def zhQ {i j pos}:QE X (.Constant (.bool i) j pos) (tC (.bl i)):=⟨zhZ⟩
def qv (i:Nat){x:Str}{pos:Pos}(hN:X.N[i]? = some x:=by rfl)(hv:Vis X.env.scope x:=by first | exact Or.inl rfl | exact Or.inr (Or.inl rfl) | exact Or.inr (Or.inr rfl))(hd:(x == ("__debug__":Str))=false:=by decide)
  (hcd:(x == ("__classdict__":Str))=false:=by decide):QE X (.Name x pos) (tVar i):=⟨zdt hN hv hd hcd⟩
def zhM {op:Operator}{r:R2}(ho:OpR X (binaryOp op) r)(ha:QE X a ta)(hb:QE X b tb):QE X (.BinOp a op b pos) (tOp r ta tb):=⟨zhV ho ha.p hb.p⟩
def zhK {op:UnaryOp}{r:V->Hp->VK->Prop}(ho:UnR X (unaryOp op) r)(ha:QE X a ta):QE X (.UnaryOp op a pos) (tUn r ta):=⟨zhT ho ha.p⟩
def zfL (ha:QE X a ta):QE X (.UnaryOp .Not a pos) (zfa ta):=⟨zg1 ha.p⟩
def zfK {op}{t:TE}(h:QE X a t):QE X (.BoolOp op [a] pos) t:=⟨zg0 h.p⟩
def zfQ (ha:QE X a ta)(hb:QE X (.BoolOp .And (b::rest) pos) tb):QE X (.BoolOp .And (a::b::rest) pos) (zfe ta tb):=⟨zg6 ha.p hb.p⟩
def zhL (ha:QE X a ta)(hb:QE X (.BoolOp .Or (b::rest) pos) tb):QE X (.BoolOp .Or (a::b::rest) pos) (tOrV ta tb):=⟨zhU ha.p hb.p⟩
def ze9 {op:CmpOp}{r:R2}(ho:OpR X (compareOp op) r)(ha:QE X a ta)(hb:QE X b tb)(hm:behindInMarks op b=false):QE X (.Compare a [op] [b] pos) (tOp r ta tb):=⟨zem ho ha.p hb.p hm⟩
def ze4 {op:CmpOp}{r:R2}(ho:OpR X (compareOp op) r)(ha:QE X a ta)(hb:QE X b tb)(hm:behindInMarks op b=false):QT X (.Compare a [op] [b] pos) (zdR (tOp r ta tb)):=⟨zeb ho ha.p hb.p hm⟩
def zfG {t:TE}(h:QE X e t)(he:∀ whole,isTrue e X.env whole=(do let v <- whole; standAt e.pos; holding [v] (truthy v)):=by intro _; rfl):QT X e (tB t):=⟨zfT h.p he⟩
def zfH (ha:QT X a tA):QT X (.UnaryOp .Not a pos) (tNot tA):=⟨zfU ha.p⟩
def ze3 (ha:QT X a tA):QW X (.BoolOp .And [a] pos) tA:=⟨zea ha.p⟩
def zfE (ha:QT X a tA):QW X (.BoolOp .Or [a] pos) tA:=⟨zfR ha.p⟩
def zfF (ha:QT X a tA)(hb:QW X (.BoolOp .And (b::rest) pos) tB'):QW X (.BoolOp .And (a::b::rest) pos) (tAnd tA tB'):=⟨zfS ha.p hb.p⟩
def zhH (ha:QT X a tA)(hb:QW X (.BoolOp .Or (b::rest) pos) tB'):QW X (.BoolOp .Or (a::b::rest) pos) (tOr tA tB'):=⟨zhR ha.p hb.p⟩
def QW.pt {t:TT}(h:QW X e t):QT X e t:=⟨h.p.pt⟩
def z5n {x:Str}{v:V}{u:Value}(hg:Gl X x)(hm:X.mg x=none)(hv:bootBuiltins x=some u)(r:RelV v u)(hn:x≠"__name__":=by decide)(hd:(x == ("__debug__":Str))=false:=by decide):QE X (.Name x pos) (tC v):=⟨zeo hg hm hv r hn hd⟩
def z9n:QA X [] tNil:=⟨zbd⟩
def z5o (ha:QE X e te)(hr:QA X es aa)(hs:starEach (e::es) X.env=(false,eval e X.env)::starEach es X.env:=by rfl):QA X (e::es) (z7s te aa):=⟨z8F ha.p hr.p hs⟩
def zhO {CX:CXT}{k:Nat}{ps:List Str}{sp:Sp}{E:XK}{x:Str}{pp:Pos}(C:Cal X.prog X.w X.K X.mg X.base CX k x ps sp)(hr:Room k X.A)(hx:z54 CX X E)(ha:QA X (e::es) aa)(hg:Gl X x:=by rfl)
  (hdb:(x == ("__debug__":Str))=false:=by decide) (he:starEach (e::es) X.env=(false,eval e X.env)::starEach es X.env:=by rfl) (hpl:(backTo pos (starEach es X.env)).any (·.1)=false:=by rfl):QE X (.Call (.Name x pp) (e::es) [] pos) (zdS sp [] E aa):=⟨zhX C hr hx ha.p hg hdb he hpl⟩
def z6K {x:Str}{pp:Pos}{id:String}{r:List V->Hp->VK->Prop}(hc:z1T X (.builtin id) r)(hg:Gl X x)(hm:X.mg x=none)(hv:bootBuiltins x=some (.builtin id))(ha:QA X (e::es) aa)(hn:x≠"__name__":=by decide)(hdb:(x == ("__debug__":Str))=false:=by decide)
  (he:starEach (e::es) X.env=(false,eval e X.env)::starEach es X.env:=by rfl) (hpl:(backTo pos (starEach es X.env)).any (·.1)=false:=by rfl):QE X (.Call (.Name x pp) (e::es) [] pos) (tCB r aa):=⟨zcz hc hg hm hv ha.p hn hdb he hpl⟩
def z4f {x:Str}{pp:Pos}{id:String}{r:List V->Hp->VK->Prop}(hc:z1T X (.type id) r)(hg:Gl X x)(hm:X.mg x=none)(hv:bootBuiltins x=some (.type id))(ha:QA X (e::es) aa)(hn:x≠"__name__":=by decide)(hdb:(x == ("__debug__":Str))=false:=by decide)
  (he:starEach (e::es) X.env=(false,eval e X.env)::starEach es X.env:=by rfl) (hpl:(backTo pos (starEach es X.env)).any (·.1)=false:=by rfl):QE X (.Call (.Name x pp) (e::es) [] pos) (tCB r aa):=⟨zbc hc hg hm hv ha.p hn hdb he hpl⟩
def zhN {r:R2}(hr:IxR X r)(ha:QE X a ta)(hb:QE X b tb)(hs:z92 b):QE X (.Subscript a b pos) (tOp r ta tb):=⟨zhW hr ha.p hb.p hs⟩
def ze8:QO X none zaw:=⟨zeh⟩
def ze7 (h:QE X e te):QO X (some e) (zf9 te):=⟨zeg h.p⟩
def zcp {r:V->Option Int->Option Int->Hp->VK->Prop}{lo hi:Option Expr}{tl th:TO}(hr:SlR X r)(he:QE X e te)(hl:QO X lo tl)(hu:QO X hi th):QE X (.Subscript e (.Slice lo hi none p2) pos) (tSl r te tl th):=⟨zcx hr he.p hl.p hu.p⟩
def zfP {T id:String}{name:Str}{apos cpos:Pos}{r:V->List V->Hp->VK->Prop}(pa:PlainAttrs T)(slot:Slot T name id)(hty:typeOf (.builtin id)=pure (.type "method_descriptor"))(hm:MtR X id r)(ho:QE X o te)
  (hbase:attributeBase o name X.env (eval o X.env)=eval o X.env:=by rfl) (hline:(apos.endLine == cpos.line)=true:=by rfl):QE X (.Call (.Attribute o name apos) [] [] cpos) (tBM0 X.K T r te):=⟨zg5 pa slot hty hm ho.p hbase hline⟩
def zhP {T id:String}{name:Str}{apos cpos:Pos}{r:V->List V->Hp->VK->Prop}(pa:PlainAttrs T)(slot:Slot T name id)(hty:typeOf (.builtin id)=pure (.type "method_descriptor"))(hm:MtR X id r)(ho:QE X o te)(ha:QA X (e::es) aa)
  (hbase:attributeBase o name X.env (eval o X.env)=eval o X.env:=by rfl)
  (hfew:((backTo cpos (starEach (e::es) X.env)).all (fun x => !x.1) && (backToKw cpos (keywordEach [] X.env)).all (fun x=>x.1.isSome)
   && decide ((e::es).length+([]:List Keyword).length+(if ([]:List Keyword).isEmpty then 0 else 1) < 30))=true:=by rfl)
  (hline:(apos.endLine == cpos.line)=true:=by rfl) (hs:starEach (e::es) X.env=(false,eval e X.env)::starEach es X.env:=by rfl) (hplain:(backTo cpos (starEach es X.env)).any (·.1)=false:=by rfl):
  QE X (.Call (.Attribute o name apos) (e::es) [] cpos) (tBM X.K T r te aa):=⟨zhY pa slot hty hm ho.p ha.p hbase hfew hline hs hplain⟩
end
section
variable {X:Cx}{st:Stmt}{rest body a b:List Stmt}{t u tb:TS}{e tg c iter:Expr}{te:TE}{tc:TT}{pos:Pos}{g:TG}{wi:TI}{aa:TA}
def ze6:QSs X [] zfb:=⟨zed⟩
def zcm (h1:QS X st t)(h2:QSs X rest u):QSs X (st::rest) (tSeq t u):=⟨zcq h1.p h2.p⟩
def ze5 (h1:QS X st t):QSs X [st] t:=⟨zec h1.p⟩
def zfI (he:QE X e te):QS X (.Return (some e) pos) (tRet te):=⟨zfW he.p⟩
def zaV (he:QE X e te)(hs:swapsWith e none pos.line X.env=pure false:=by rfl):QS X (.Expr e pos) (zfc te):=⟨zee he.p hs⟩
def zhI (hc:QT X c tc)(ha:QSs X a t)(hb:QSs X b u):QS X (.If c a b pos) (tIfS tc t u):=⟨zhS hc.p ha.p hb.p⟩
def zcn (hp:PassesOwn (model X.prog X.w) X.A X.env X.xe)(hc:QT X c tc)(hb:QSs X body tb):QS X (.While c body [] pos) (zdl tc tb):=⟨zcr hp hc.p hb.p⟩
def zdr (hp:PassesOwn (model X.prog X.w) X.A X.env X.xe)(hc:X.calm=true)(hi:QI X tg iter wi)(hg:QG X tg g)(hb:QSs X body tb)
  (hs:∀ x,foldedSetIterable iter X.env x=pure x:=by intro _; rfl):QS X (.For tg iter body [] pos) (tFor wi g tb):=⟨zfX hp hc hi.p hg.p hb.p hs⟩
def zaW {a:Expr}{p:Pos}(hg:Gl X "range")(hm:X.mg "range"=none)(ha:QA X [a] aa)(hs:starEach [a] X.env=[(false,eval a X.env)]:=by rfl):QI X tg (.Call (.Name "range" p) [a] [] pos) (zh4 aa):=⟨zb9 hg hm ha.p hs⟩
def z7G {a b:Expr}{p:Pos}(hg:Gl X "range")(hm:X.mg "range"=none)(ha:QA X [a,b] aa)(hs:starEach [a,b] X.env=[(false,eval a X.env),(false,eval b X.env)]:=by rfl)(hs2:starEach [b] X.env=[(false,eval b X.env)]:=by rfl):
  QI X tg (.Call (.Name "range" p) [a,b] [] pos) (zh3 aa):=⟨zb8 hg hm ha.p hs hs2⟩
end
end L2
namespace Mth
end Mth
namespace L2
open PySem PySem.Spec PyProof.Rows
end L2
namespace Mth
def g3 (x y b:Int):Int:=((Int.gcd ((Int.gcd b x:Nat):Int) y:Nat):Int)
def z9H (x y b:Int):g3 x y b ∣ b:=Int.dvd_trans (Int.gcd_dvd_left _ _) (Int.gcd_dvd_left b x)
def zd7 (x y b:Int):g3 x y b ∣ x:=Int.dvd_trans (Int.gcd_dvd_left _ _) (Int.gcd_dvd_right b x)
def zd6 (x y b:Int):g3 x y b ∣ y:=Int.gcd_dvd_right _ _
def zdE {x y b:Int}(h:0 < b):0 < g3 x y b:=by
 have p:=(Int.gcd_pos_iff (a:=b) (b:=x)).mpr (.inl (by omega))
 have p2:=(Int.gcd_pos_iff (a:=((Int.gcd b x:Nat):Int)) (b:=y)).mpr (.inl (by omega))
 unfold g3
 omega
structure Plc (x y b u v t:Int):Prop where
 pos:1<=t
 cop:Int.gcd ((Int.gcd u v:Nat):Int) t=1
 cx:u*b=x*t
 cy:v*b=y*t
 lu:u.natAbs<=x.natAbs
 lv:v.natAbs<=y.natAbs
 lt:t.natAbs<=b.natAbs
def z9E (a b c:Int):Int.gcd ((Int.gcd a b:Nat):Int) c=Nat.gcd (Nat.gcd a.natAbs b.natAbs) c.natAbs:=rfl
def zfY {x y b:Int}(h:0 < b):Plc x y b (x / g3 x y b) (y / g3 x y b) (b / g3 x y b):=by
 have hg:=zdE (x:=x) (y:=y) h
 have ex:x=g3 x y b*(x / g3 x y b):=(Int.mul_ediv_cancel' (zd7 x y b)).symm
 have ey:y=g3 x y b*(y / g3 x y b):=(Int.mul_ediv_cancel' (zd6 x y b)).symm
 have eb:b=g3 x y b*(b / g3 x y b):=(Int.mul_ediv_cancel' (z9H x y b)).symm
 have ee:g3 x y b=((Nat.gcd (Nat.gcd b.natAbs x.natAbs) y.natAbs:Nat):Int):=rfl
 refine⟨?_,?_,?_,?_,z2Q hg,z2Q hg,z2Q hg⟩
 ·generalize b / g3 x y b=t at eb
  rcases(show t < 1\/1<=t by omega) with q | q
  ·have:g3 x y b*t<=0:=Int.mul_nonpos_of_nonneg_of_nonpos (by omega) (by omega)
   omega
  ·exact q
 ·rw[z9E]
  generalize hu:x / g3 x y b=u at ex
  generalize hv:y / g3 x y b=v at ey
  generalize ht:b / g3 x y b=t at eb
  have nx:=congrArg Int.natAbs ex
  have ny:=congrArg Int.natAbs ey
  have nb:=congrArg Int.natAbs eb
  rw[Int.natAbs_mul] at nx ny nb
  have ng:(g3 x y b).natAbs=Nat.gcd (Nat.gcd b.natAbs x.natAbs) y.natAbs:=by rw[ee,Int.natAbs_natCast]
  generalize hG:(g3 x y b).natAbs=G at nx ny nb ng
  have hGp:0 < G:=by omega
  rw[nx,ny,nb,Nat.gcd_mul_left,Nat.gcd_mul_left] at ng
  have e1:G*1=G*Nat.gcd (Nat.gcd t.natAbs u.natAbs) v.natAbs:=by rw[Nat.mul_one]; exact ng
  have e2:=Nat.eq_of_mul_eq_mul_left hGp e1
  rw[Nat.gcd_comm (Nat.gcd u.natAbs v.natAbs), <- Nat.gcd_assoc]
  exact e2.symm
 ·have:x / g3 x y b*b=x / g3 x y b*(g3 x y b*(b / g3 x y b)):=congrArg _ eb
  rw[this,Int.mul_left_comm, <- Int.mul_assoc, <- ex]
 ·have:y / g3 x y b*b=y / g3 x y b*(g3 x y b*(b / g3 x y b)):=congrArg _ eb
  rw[this,Int.mul_left_comm, <- Int.mul_assoc, <- ey]
end Mth
namespace L2
open PySem PySem.Spec PyProof.Rows
structure Fly (P:Program)(w:World)(outer:List Env)(H:Hp)(h0:Heap)(Cv:Value)(H':Hp)(ea t:Addr)(B h:Heap):Prop where
 fl:Heap.FlyingW B outer ea Cv (.ref t) h
 un:Un (frs outer) [] H H' h0 h
 hok:HOk P w H' h
 trk:∀ b o,H' b=some o->∃ ob,B.get? b=some ob
 kep:∀ b o,h0.get? b=some o->b ∉ frs outer->∃ ob,B.get? b=some ob
def CXe (P:Program)(w:World):CXT:=fun outer H s E e s'=>∃ (ea t:Addr) (Cv:Value) (H':Hp) (B:Heap),e = .ref ea/\Fly P w outer H s.heap Cv H' ea t B s'.heap/\AllBare s'.gens/\s'.os=s.os/\E Cv none H'
section
variable {P:Program}{w:World}{outer:List Env}{H H':Hp}{h0 h h2:Heap}{Cv:Value}{ea t:Addr}{B:Heap}
def z1K.there {a:Addr}{o:HO}(x:z1K P w H h a o):∃ ob,h.get? a=some ob:=by
 cases o with
 | lst xs=>obtain⟨_,_,_,_,e⟩:=x; exact⟨_,e⟩
 | tup xs=>obtain⟨_,_,_,⟨ob,e,_⟩,_⟩:=x; exact⟨_,e⟩
 | dK kvs=>obtain⟨_,_,_,_,o,_,_,e,_⟩:=x; exact⟨_,e⟩
 | dT kvs=>obtain⟨_,_,_,_,o,_,_,e,_⟩:=x; exact⟨_,e⟩
 | set S n=>obtain⟨o,_,_,_,e,_⟩:=x; exact⟨_,e⟩
 | ins C dx fs=>obtain⟨_,_,_,e,_⟩:=x; exact⟨_,e⟩
 | own y=>obtain⟨_,e⟩:=x; exact⟨_,e⟩
 | xd fs=>obtain⟨_,⟨_,_,_,e,_⟩,_⟩:=x; exact⟨_,e⟩
 | rng lo hi=>obtain⟨_,_,_,e⟩:=x; exact⟨_,e⟩
 | frz ob u=>obtain⟨e,_⟩:=x; exact⟨_,e⟩
 | tbl ps=>rcases x with e | ⟨_,_,_,_,_,_,_,_,_,_,_,e,_⟩ <;> exact⟨_,e⟩
 | met f y=>exact⟨_,(show h.get? a=some _ from x)⟩
 | ext φ=>obtain⟨_,⟨_,e⟩,_⟩:=x; exact⟨_,e⟩
end
section
variable {P:Program}{w:World}{K:W.Frag}{mg:Str->Option Value}{base:Heap}{N:List Str}{qual:Str}{sc:Scope}{f:Addr}{cdv:Value}{A:Around}{outer:List Env}{s:Shared}{H:Hp}{E:XK}
def Fun.okN {x:Str}{st:Stmt}{fd:FuncData}{ps:List Str}{k:Nat}{sp:Sp}(F:Fun K x qual st f fd)(S:z0q N ps (z00 st))(len:∀ vs H Q E,sp vs H Q E->vs.length=ps.length)
  (hbody:∀ (cdv:Value) (A:Around) (outer:List Env) (s:Shared) (H:Hp) (vs:List V) (Q:VK) (E:XK),Room k (A.deeper (envOfC qual (z00 st) s.heap.objs.size f cdv))->sp vs H Q E->
   ∃ t,QSs ((cxOf (CXe P w) P w K mg base N qual (z00 st) f cdv A outer s H E).wish fun _ _=>False) (z2g st) t/\t { nx:=fun _ H'=>Q .non H',rt:=Q } (start N vs) H):FnOk P w K mg base (CXe P w) (k+1) f fd ps sp:=by
 obtain⟨oc,od,kV,doc,pm,an,cdv,ct,osl,rfl,lk,hcd⟩:=F.ex
 refine zh6 lk hcd S len fun A outer s H vs Q E hr hsp => ?_
 obtain⟨t,h,q⟩:=hbody cdv A outer s H vs Q E hr hsp
 exact⟨t,h.p.nox,q⟩
def z0o {X:Cx}:z54 (CXe P w) X E0:=fun _ _ _ _ _ _ _ ⟨_,_,_,_,_,_,_,_,_,q⟩=>q.elim
end
def ziE (a C:Addr)(h:Heap):Prop:=∃ o,h.get? a=some o/\o.cls = .ref C/\∃ vs,o.data = .fields vs
end L2
namespace L2
open PySem PySem.Spec PyProof.Rows
open Builtin.Str
section
variable {X:Cx}
def rAll (K:W.Frag):List V->Hp->VK->Prop:=fun xs H Q=>∃ (a:Addr) (bs:List Bool),xs=[.ref a]/\SqL K H a (bs.map V.bl)/\Q (.bl (bs.all id)) H
def z93:∀ (bs:List Bool) {us:List Value},Vals (bs.map V.bl) us->us=bs.map Value.bool
 | [],_,r=>by cases r; rfl
 | b::bs,_,r=>by
  cases r with
  | cons r1 r2=>
   rw[z93 bs r2]
   cases (show _=Value.bool b from r1)
   rfl
def zbQ (bs:List Bool):(List.range bs.length).all (fun i=>bs[i]?.getD true)=bs.all id:=by
 apply Bool.eq_iff_iff.mpr
 simp only[List.all_eq_true,List.mem_range,id]
 constructor
 ·intro h b hb
  obtain⟨i,hi,e⟩:=List.mem_iff_getElem.mp hb
  have:=h i hi
  rw[List.getElem?_eq_getElem hi] at this
  simpa[e] using this
 ·intro h i hi
  rw[List.getElem?_eq_getElem hi]
  exact h _ (List.getElem_mem hi)
def zbN (hc:X.calm=true):z1T X (.builtin "all") (rAll X.K):=by
 intro pins s σ H xs us Q I r h
 obtain⟨a,bs,rfl,hs,q⟩:=h
 obtain⟨u,rfl,ru⟩:=z4y r
 cases (show u=Value.ref a from ru)
 obtain⟨its,hv,pl,_⟩:=I.list hs
 cases z93 bs hv
 have hl:=pl.isList
 refine call_all_walk (wpAny_pyIter_list hl ?_)
 have hne:a≠s.heap.objs.size:=by
  obtain⟨o,n,e,_⟩:=pl
  exact Nat.ne_of_lt (Heap.lt_size e)
 refine⟨s.heap.objs.size,_,_,_,_,_,fun i=>bs[i]?.getD true,rfl,Walks.list (A:=X.A.in1) (I.ok.hd hc) s.heap.objs.size a hne (bs.map Value.bool).toArray,⟨⟨_,Heap.get?_push_size _ rfl,rfl,rfl⟩,(pl.keeps fun b o e=>Heap.get?_push_of_some _ e).isList⟩,?_,fun h' tk hk => ?_⟩
 ·intro i v s' Q' E' hP hQ
  have hP':(bs.map Value.bool)[i]? = some v:=by simpa using hP
  rw[List.getElem?_map] at hP'
  obtain⟨b,hb,rfl⟩:=Option.map_eq_some_iff.mp hP'
  have hQ':Q' (bs[i]?.getD true) s':=hQ
  rw[hb] at hQ'
  exact wpAny_pure hQ'
 ·have e:(List.range (bs.map Value.bool).toArray.size).all (fun i=>bs[i]?.getD true)=bs.all id:=by
   rw[List.size_toArray,List.length_map]
   exact zbQ bs
  rw[e]
  refine⟨.bl _,H,I.kept (t':=tk) fun b o eb=>hk b o ?_ (Heap.get?_push_of_some _ eb),rfl,q⟩
  intro z
  rw[List.mem_singleton.mp z] at eb
  exact absurd (Heap.lt_size eb) (Nat.lt_irrefl _)
def rSlS:V->Option Int->Option Int->Hp->VK->Prop:=fun x lo hi H Q=>∃ y,x = .str y/\y.length<=sizeLine/\Q (.str (Txt.slice y lo hi)) H
def zfh:SlR X rSlS:=by
 intro pins s σ H x v vl vu lo hi sl Q I rx hs pl pu h
 obtain⟨y,rfl,hz,q⟩:=h
 obtain⟨t,rfl⟩:=rx
 refine⟨"str",_,F.slot_str_getitem.lookup,typeIs_str _ _ _,?_⟩
 obtain⟨o,ho,hc,hd⟩:=hs
 have fin:∀ (l u:Option (Int × Tok)),l.map (·.1)=lo->u.map (·.1)=hi->vl=partValue l->vu=partValue u->wpAny (model X.prog X.w) X.A (getItem (.str y t) (.ref sl)) (EP X pins σ Q) X.xe s:=fun l u e1 e2 e3 e4=>by
  subst e1 e2 e3 e4
  exact wpAny_getItem_str_slice (l:=l) (u:=u) (st:=none) ⟨o,ho,hc,hd⟩ rfl (post_val_or_str ⟨Nat.le_trans (Txt.slice_le y _ _) hz,fun t' k=>⟨.str _,H,I.tok k,⟨t',rfl⟩,q⟩⟩)
 cases pl with
 | none=>
  cases pu with
  | none=>exact fin none none rfl rfl rfl rfl
  | int j u=>exact fin none (some (j,u)) rfl rfl rfl rfl
 | int i w=>
  cases pu with
  | none=>exact fin (some (i,w)) none rfl rfl rfl rfl
  | int j u=>exact fin (some (i,w)) (some (j,u)) rfl rfl rfl rfl
def Its (x:Str):It:=⟨fun i _=>i < x.cps.size,fun i H v H'=>H'=H/\∃ c,x.cps[i]? = some c/\v = .str ⟨#[c]⟩,fun i _=>x.cps.size<=i⟩
def z94 {P:Program}{w:World}{K:W.Frag}{tg:Expr}(x:Str)(t:Tok)(it:Addr){ty:String}(hty:["enumerate","zip","dict_itemiterator","dict_reverseitemiterator","odict_iterator","itertools.zip_longest","itertools.pairwise"].contains ty=false)
  (W:∀ A':Around,A'.handled=none->Walks P w A' it [it] [it] x.cps.size (SignAt x) (fun i h=>h.IsStrIter it ty x t i)) (hs:∀ (A:Around) (i:Nat) (s:Shared) (Q:Value->Shared->Prop) (E:Value->Shared->Prop),s.heap.IsStrIter it ty x t i->Q (.ref it) s->wpAny (model P w) A (pyIter (.ref it)) Q E s):
  Turn P w K tg (Its x) [it] it (fun i h=>i<=x.cps.size/\h.IsStrIter it ty x t i) where
 mem:=by simp
 obj:=fun i h st b hb=>by
  have e:b=it:=by simpa using hb
  subst e
  obtain⟨_,o,e,c,d⟩:=st
  exact⟨o,e,fun v z=>by rw[d] at z; cases z⟩
 keep:=fun i h h' st k=>⟨st.1,(W { } rfl).frame i h h' st.2 k⟩
 item:=by
  intro X hP hw hK hc i pins s σ H E I hf st hg
  subst hP hw hK
  obtain⟨f0,f1,f2,f3,f4,f5⟩:=hf it (by simp)
  refine(W X.A (I.ok.hd hc)).item i s _ _ hg st.2 fun v h' tk hv st' kk => ?_
  obtain⟨c,u,hc',rfl⟩:=hv
  have I1:Inv X pins σ H { s with heap:=h',toks:=tk }:=I.turned (fun b o hb e=>kk b o (by simpa using hb) e) f0 f1 f3 f4 f5
  obtain⟨o,e1,e2,e3⟩:=id st'
  exact⟨_,rfl,zd2 (s:={ s with heap:=h',toks:=tk }) e1 e2 e3 hty ⟨.str ⟨#[c]⟩,H,I1,⟨u,rfl⟩,⟨rfl,c,hc',rfl⟩,⟨hg,st'⟩,fun b hb=>(hf b hb).1⟩⟩
 done:=by
  intro X hP hw hK hc i pins s σ H E I hf st hg
  subst hP hw hK
  obtain⟨f0,f1,f2,f3,f4,f5⟩:=hf it (by simp)
  have e:i=x.cps.size:=Nat.le_antisymm st.1 hg
  subst e
  exact(W X.A (I.ok.hd hc)).done s _ _ st.2 fun h' tk kk=>⟨rfl,I.turned (fun b o hb e=>kk b o (by simpa using hb) e) f0 f1 f3 f4 f5⟩
 self:=fun A i s Q E st h=>hs A i s Q E st.2 h
variable {tg:Expr}
def zfM {es:List Expr}{aa:TA}{pos:Pos}(h:QA X es aa):QE X (.List es pos) (tLst aa):=⟨zg2 h.p⟩
def z5Z:MtR X "list.append" zaS:=zbi
end
end L2
namespace Tx
open PySem PySem.NumText PyProof.Rows L2
end Tx
namespace L2
open PySem PySem.Spec PyProof.Rows Tx
end L2
namespace L2
open PySem PySem.Spec PyProof.Rows
end L2
namespace Tx
open PySem PySem.NumText PyProof.Rows L2
open Builtin.Str
end Tx
namespace L2
open PySem PySem.Spec PyProof.Rows Tx
end L2
namespace Tx
open PySem PySem.NumText PyProof.Rows L2
end Tx
namespace L2
open PySem PySem.Spec PyProof.Rows Tx
end L2
namespace Mth
end Mth
namespace L2
open PySem PySem.Spec PyProof.Rows
section
variable {prog:Program}{w:World}{A:Around}{R:Result->Shared->Prop}{s:Shared}
def zeW (M:Model)(A:Around)(ct:Option Expr)(env:Env)(Q:Bool->Shared->Prop)(E:Value->Shared->Prop)(s:Shared):Prop:=
 match ct with
 | none=>Q true s
 | some c=>wpAny M A (isTrue c env (eval c env)) Q E s
def z8d {elt target iter:Expr}{ct:Option Expr}{scope:Scope}{pos:Pos}{it acc:Value}{env:Env}(I:Nat->Shared->Prop)
  (turn:∀ n s,I n s->wpAny (model prog w) A (pyNext it) (fun r s1=>match r with
   | none=>R (.ok .next) s1
   | some v=>wpAny (model prog w) A (letOwnedTupleGo target it v) (fun _ s5=>wpAny (model prog w) A (assign target env v) (fun _ s2=>zeW (model prog w) A ct env (fun ok s3=>if ok=true then wpAny (model prog w) A (eval elt env) (fun x s4=>
     wpAny (model prog w) A (call (.builtin "list.append") [acc,x]) (fun _ s6=>∃ m,m < n/\I m s6) (notedBy (model prog w) A env fun e s'=>R (.error e) s') s4)
     (notedBy (model prog w) A env fun e s'=>R (.error e) s') s3 else ∃ m,m < n/\I m s3) (notedBy (model prog w) A env fun e s'=>R (.error e) s') s2) (notedBy (model prog w) A env fun e s'=>R (.error e) s') s5) (notedBy (model prog w) A env fun e s'=>R (.error e) s') s1) (notedBy (model prog w) A env fun e s'=>R (.error e) s') s)
  (n:Nat) (h:I n s):
  codeAny (model prog w) A (.compLoop (.ListComp elt [⟨target,iter,ct.toList,0⟩] scope pos) 0 it acc env) R s:=by
 refine codeAny_loop rfl I (fun n s hI => ?_) n h
 show wpAny _ _ ((compTurn (.ListComp elt [⟨target,iter,ct.toList,0⟩] scope pos) 0 it acc env).onRaise (fun x=>do noteFrame x env; theTreesLotGoes x)) _ _ s
 refine wpAny_noted ?_
 rw[compTurn_list]
 refine wpAny_bind (wpAny_standAt (wpAny_bind (wpAny_mono (turn n s hI) (fun r s1 h1 => ?_) fun _ _ h'=>h')))
 cases r with
 | none=>exact wpAny_pure h1
 | some v=>
  refine wpAny_bind (wpAny_mono h1 (fun _ s5 h5 => ?_) fun _ _ h'=>h')
  refine wpAny_bind (wpAny_mono h5 (fun _ s2 h2 => ?_) fun _ _ h'=>h')
  cases ct with
  | none=>
   refine wpAny_bind (wpAny_mono (wpAny_tests_nil (Q:=fun ok s3=>ok=true/\s3=s2) ⟨rfl,rfl⟩) (fun ok s3 h3 => ?_) fun _ _ h'=>h')
   obtain⟨rfl,rfl⟩:=h3
   have h2':=h2
   simp only[zeW,if_true] at h2'
   exact wpAny_bind (wpAny_bind (wpAny_mono h2' (fun x s4 h4=>wpAny_bind (wpAny_mono h4 (fun _ s6 h6=>wpAny_pure (wpAny_pure ⟨rfl,h6⟩)) fun _ _ h'=>h')) fun _ _ h'=>h'))
  | some c=>
   refine wpAny_bind (wpAny_tests_one (wpAny_mono (show wpAny (model prog w) A (isTrue c env (eval c env)) _ _ _ from h2) (fun okb s3 h3 => ?_) fun _ _ h'=>h'))
   cases okb with
   | false=>exact wpAny_pure ⟨rfl,by simpa using h3⟩
   | true=>
    have h3':=h3
    simp only[if_true] at h3'
    exact wpAny_bind (wpAny_bind (wpAny_mono h3' (fun x s4 h4=>wpAny_bind (wpAny_mono h4 (fun _ s6 h6=>wpAny_pure (wpAny_pure ⟨rfl,h6⟩)) fun _ _ h'=>h')) fun _ _ h'=>h'))
end
def z2m (env:Env)(names:List (Str × NameKind))(acc:List (Str × Addr)):List (Str × Addr):=names.foldl (fun c x=>if x.2 == .free then (x.1,(env.cells.lookup x.1).getD 0)::c else c) acc
def z6p {α β:Type}{f:α->β->Sem (ForInStep β)}{g:α->β->β}:∀ (l:List α) (b:β),(∀ x∈l,∀ c,f x c=pure (.yield (g x c)))->forIn l b f=(pure (l.foldl (fun c x=>g x c) b):Sem β)
 | [],b,_=>rfl
 | x::l,b,h=>by
  rw[List.forIn_cons,h x List.mem_cons_self,pure_bind]
  exact z6p l (g x b) fun y hy=>h y (List.mem_cons_of_mem _ hy)
def z4u {scope:Scope}{env:Env}(h:∀ x∈scope.names,x.2 = .free->∃ c,env.cells.lookup x.1=some c):closureFor scope env=pure (z2m env scope.names []):=by
 simp only[closureFor]
 rw[z6p (g:=fun x c=>if x.2 == .free then (x.1,(env.cells.lookup x.1).getD 0)::c else c) scope.names [] (fun x hx c=>by
  obtain⟨n,kind⟩:=x
  by_cases hk:kind = .free
  ·subst hk
   obtain⟨a,ha⟩:=h _ hx rfl
   have e:cellOf env n=pure a:=by unfold cellOf; rw[ha]
   simp[e,ha]
  ·have:(kind == NameKind.free)=false:=by simpa using hk
   simp[this])]
 rfl
def z8O {env:Env}{y:Str}{c:Addr}:∀ {names:List (Str × NameKind)}{acc:List (Str × Addr)},(y,c)∈z2m env names acc↔(y,c)∈acc\/((y,NameKind.free)∈names/\c=(env.cells.lookup y).getD 0)
 | [],acc=>by simp[z2m]
 | (n,k)::r,acc=>by
  show (y,c)∈z2m env r (if k == .free then (n,(env.cells.lookup n).getD 0)::acc else acc)↔_
  rw[z8O]
  by_cases hk:k = .free
  ·subst hk
   simp only[beq_self_eq_true,if_true,List.mem_cons,Prod.mk.injEq]
   constructor
   ·rintro((⟨rfl,rfl⟩ | h) | ⟨h1,h2⟩)
    ·exact .inr ⟨.inl (by simp),rfl⟩
    ·exact .inl h
    ·exact .inr ⟨.inr h1,h2⟩
   ·rintro(h | ⟨⟨rfl,_⟩ | h1,h2⟩)
    ·exact .inl (.inr h)
    ·exact .inl (.inl ⟨rfl,h2⟩)
    ·exact .inr ⟨h1,h2⟩
  ·have:(k == NameKind.free)=false:=by simpa using hk
   simp only[this,Bool.false_eq_true,if_false,List.mem_cons,Prod.mk.injEq]
   constructor
   ·rintro(h | ⟨h1,h2⟩)
    ·exact .inl h
    ·exact .inr ⟨.inr h1,h2⟩
   ·rintro(h | ⟨⟨_,h⟩ | h1,h2⟩)
    ·exact .inl h
    ·exact absurd h.symm hk
    ·exact .inr ⟨h1,h2⟩
def z0V {β:Type}{y:Str}{c:β}:∀ {l:List (Str × β)},l.lookup y=some c->(y,c)∈l
 | [],h=>by simp at h
 | (n,j)::r,h=>by
  rw[List.lookup_cons] at h
  by_cases e:y=n
  ·subst e
   simp at h
   subst h
   exact List.mem_cons_self
  ·have:(y == n)=false:=by simpa using e
   rw[this] at h
   exact List.mem_cons_of_mem _ (z0V h)
def z3p {β:Type}{y:Str}{c:β}:∀ {l:List (Str × β)},(y,c)∈l->∃ d,l.lookup y=some d
 | (n,j)::r,h=>by
  rw[List.lookup_cons]
  by_cases e:y=n
  ·subst e
   simp
  ·have:(y == n)=false:=by simpa using e
   rw[this]
   rcases List.mem_cons.mp h with h | h
   ·exact absurd (congrArg Prod.fst h) e
   ·exact z3p h
def z2R {env:Env}:∀ {names:List (Str × NameKind)}{x:Str}{k:NameKind},(names.map fun(n,k)=>if (k == NameKind.free && env.scope.kind == .function && env.kindOf n == some .cell) then (n,NameKind.cell) else (n,k)).lookup x=some k->
  names.lookup x=some k\/(k = .cell/\names.lookup x=some .free)
 | [],_,_,h=>by simp at h
 | (n,j)::r,x,k,h=>by
  have ih := @z2R env r x k
  have h':List.lookup x ((if (j == NameKind.free && env.scope.kind == .function && env.kindOf n == some .cell)=true then (n,NameKind.cell) else (n,j))::(r.map fun(n,k)=>if (k == NameKind.free && env.scope.kind == .function && env.kindOf n == some .cell) then (n,NameKind.cell) else (n,k)))=some k:=h
  by_cases hc:(j == NameKind.free && env.scope.kind == .function && env.kindOf n == some .cell)=true
  ·rw[if_pos hc] at h'
   have hj:j = .free:=by
    have:=hc
    simp only[Bool.and_eq_true,beq_iff_eq] at this
    exact this.1.1
   cases hx:x == n with
   | true=>
    simp only[List.lookup_cons,hx] at h' ⊢
    exact .inr ⟨(Option.some.inj h').symm,by rw[hj]⟩
   | false=>
    simp only[List.lookup_cons,hx] at h' ⊢
    exact ih h'
  ·rw[if_neg hc] at h'
   cases hx:x == n with
   | true=>
    simp only[List.lookup_cons,hx] at h' ⊢
    exact .inl h'
   | false=>
    simp only[List.lookup_cons,hx] at h' ⊢
    exact ih h'
def z2t {env:Env}:∀ {names:List (Str × NameKind)}{x:Str},names.lookup x=some .free->
  (names.map fun(n,k)=>if (k == NameKind.free && env.scope.kind == .function && env.kindOf n == some .cell) then (n,NameKind.cell) else (n,k)).lookup x=some .cell\/
  (names.map fun(n,k)=>if (k == NameKind.free && env.scope.kind == .function && env.kindOf n == some .cell) then (n,NameKind.cell) else (n,k)).lookup x=some .free
 | [],_,h=>by simp at h
 | (n,j)::r,x,h=>by
  have ih := @z2t env r x
  show List.lookup x ((if (j == NameKind.free && env.scope.kind == .function && env.kindOf n == some .cell)=true then (n,NameKind.cell) else (n,j))::_)=_\/List.lookup x ((if (j == NameKind.free && env.scope.kind == .function && env.kindOf n == some .cell)=true then (n,NameKind.cell) else (n,j))::_)=_
  cases hx:x == n with
  | true=>
   simp only[List.lookup_cons,hx] at h
   cases h
   by_cases hc:(NameKind.free == NameKind.free && env.scope.kind == .function && env.kindOf n == some .cell)=true
   ·rw[if_pos hc]; simp[List.lookup_cons,hx]
   ·rw[if_neg hc]; simp[List.lookup_cons,hx]
  | false=>
   simp only[List.lookup_cons,hx] at h
   by_cases hc:(j == NameKind.free && env.scope.kind == .function && env.kindOf n == some .cell)=true
   ·rw[if_pos hc]; simp only[List.lookup_cons,hx]; exact ih h
   ·rw[if_neg hc]; simp only[List.lookup_cons,hx]; exact ih h
@[reducible] def Cx.compG (X:Cx)(scope:Scope)(N':List Str)(C:Addr)(s:Shared)(H:Hp)(fp:List Addr):Cx:=
 { X with N:=N',s₀:=s,H₀:=H,env:=compEnvC scope (z2m X.env scope.names []) C X.env,outer:=X.stack,stack:=X.stack,ex:=fp,pn:=[],fn:=fun y=>((z2m X.env scope.names []).lookup y).isNone,xe:=fun _ _=>False }
def z7r:TT:=fun _ H Q=>Q true H
def LcG (J:It)(g:TG)(tc:TT)(te:TE)(Q:VK)(σ0:St)(H1:Hp):Prop:=∃ W:Nat->Nat->List V->St->Hp->Prop,(∃ m,W 0 m [] σ0 H1)/\∀ i m ys σ H,W i m ys σ H->
 ys.length < sizeLine/\((J.stop i H/\∀ p,H p=none->Q (.ref p) (upd H p (.lst ys)))\/(J.go i H/\∀ x H',J.yld i H x H'->g x σ H' fun σ1 H1=>tc σ1 H1 fun b H2=>if b=true then te σ1 H2 fun y H3=>∃ m',m' < m/\W (i+1) m' (ys++[y]) σ1 H3 else ∃ m',m' < m/\W (i+1) m' ys σ1 H2))
def tLcG (wi:TI)(g:TG)(tc:TT)(te:TE)(nt:Nat)(js:List Nat):TE:=fun σ H Q=>wi σ H fun J H1=>LcG J g tc te Q (List.replicate nt none++js.map fun j=>(σ[j]?).getD none) H1
def z7e (N' xn:List Str)(nt:Nat)(js:List Nat)(names onames:List (Str × NameKind)):Bool:=
 N'.length == nt+js.length && (js.zipIdx.all fun p=>match N'[nt+p.2]? with
  | some y=>xn[p.1]? == some y && names.lookup y == some .free
  | none=>false) && names.all (fun x=>x.2 != .cell && (x.2 != .local || names.lookup x.1 == some .local) && (x.2 != .free || ((onames.lookup x.1 == some .cell || onames.lookup x.1 == some .free))))
section
variable {X:Cx}{pins:List (Addr × Obj)}{σ:St}{H:Hp}{s:Shared}
structure z3D (X:Cx)(N':List Str)(nt:Nat)(js:List Nat)(scope:Scope):Prop where
 len:N'.length=nt+js.length
 cap:∀ k j,js[k]? = some j->∃ y,N'[nt+k]? = some y/\X.N[j]? = some y/\scope.names.lookup y=some .free
 nocell:∀ y∈scope.names,y.2 ≠ .cell
 loc:∀ y∈scope.names,y.2 = .local->scope.names.lookup y.1=some .local
 free:∀ y∈scope.names,y.2 = .free->X.env.kindOf y.1=some .cell\/X.env.kindOf y.1=some .free
def z7e.ok {N' xn:List Str}{nt:Nat}{js:List Nat}{scope osc:Scope}(hxn:X.N=xn)(hosc:X.env.scope=osc)(h:z7e N' xn nt js scope.names osc.names=true):z3D X N' nt js scope:=by
 unfold z7e at h
 simp only[Bool.and_eq_true,beq_iff_eq] at h
 obtain⟨⟨h1,h2⟩,h3⟩:=h
 rw[List.all_eq_true] at h2 h3
 have h3':∀ y∈scope.names,y.2 ≠ .cell/\(y.2 = .local->scope.names.lookup y.1=some .local)/\(y.2 = .free->osc.names.lookup y.1=some .cell\/osc.names.lookup y.1=some .free):=fun y hy=>by
  have:=h3 y hy
  simp only[Bool.and_eq_true,Bool.or_eq_true,bne_iff_ne,beq_iff_eq] at this
  refine⟨this.1.1,fun z => ?_,fun z => ?_⟩
  ·rcases this.1.2 with q | q
   ·exact absurd z q
   ·exact q
  ·rcases this.2 with q | q
   ·exact absurd z q
   ·exact q
 refine⟨h1,fun k j hk => ?_,fun y hy=>(h3' y hy).1,fun y hy=>(h3' y hy).2.1,fun y hy z => ?_⟩
 ·have hm:(j,k)∈js.zipIdx:=by
   rw[List.mem_zipIdx_iff_getElem?]
   exact hk
  have:=h2 (j,k) hm
  cases e:N'[nt+k]? with
  | none=>simp only[e] at this; cases this
  | some y=>
   simp only[e,Bool.and_eq_true,beq_iff_eq] at this
   exact⟨y,rfl,by rw[hxn]; exact this.1,this.2⟩
 ·show X.env.scope.names.lookup y.1=some .cell\/X.env.scope.names.lookup y.1=some .free
  rw[hosc]
  exact(h3' y hy).2.2 z
def z3D.cells {N':List Str}{nt:Nat}{js:List Nat}{scope:Scope}(c:z3D X N' nt js scope)(I:Inv X pins σ H s):∀ x∈scope.names,x.2 = .free->∃ a,X.env.cells.lookup x.1=some a:=fun x hx hf=>I.ok.has x.1 (c.free x hx hf)
def z3D.clo {N':List Str}{nt:Nat}{js:List Nat}{scope:Scope}(c:z3D X N' nt js scope)(I:Inv X pins σ H s){y:Str}{a:Addr}(h:(z2m X.env scope.names []).lookup y=some a):X.env.cells.lookup y=some a/\(y,NameKind.free)∈scope.names:=by
 rcases z8O.mp (z0V h) with z | ⟨z1,z2⟩
 ·simp at z
 ·obtain⟨b,hb⟩:=c.cells I (y,.free) z1 rfl
  have hb':X.env.cells.lookup y=some b:=hb
  rw[hb'] at z2
  exact⟨by rw[hb',z2]; rfl,z1⟩
def z3D.has {N':List Str}{nt:Nat}{js:List Nat}{scope:Scope}(c:z3D X N' nt js scope)(I:Inv X pins σ H s){y:Str}(h:(y,NameKind.free)∈scope.names):∃ a,(z2m X.env scope.names []).lookup y=some a:=
 z3p (c:=(X.env.cells.lookup y).getD 0) (z8O.mpr (.inr ⟨h,rfl⟩))
def Inv.compG {scope:Scope}{N':List Str}{nt:Nat}{js:List Nat}{C:Addr}{fp:List Addr}{h1:Heap}{t1:Nat}(I:Inv X pins σ H s)(hk:scope.kind = .function)(c:z3D X N' nt js scope)
  (hC:s.heap.objs.size<=C) (hfp:∀ b∈fp,FpOk X pins H b) (hfo:∀ b∈fp,b < s.heap.objs.size) (keep:∀ b o,s.heap.get? b=some o->h1.get? b=some o) (hns:∃ m,h1.Ns C m) (hc:X.calm=true):
  Inv (X.compG scope N' C s H fp) [] (List.replicate nt none++js.map fun j=>(σ[j]?).getD none) H { s with heap:=h1,toks:=t1 }:=by
 have nofs:∀ b∈fp,b ∉ frs X.stack:=fun b hb z=>by
  rcases List.mem_cons.mp (I.stkSub b z) with q | q
  ·exact(hfp b hb).2.1 q
  ·exact(hfp b hb).2.2.1 q
 have nobase:∀ b o,X.base.get? b=some o->b ∉ fp:=fun b o e hb=>by
  have e2:=(I.ok.bs b o e).1
  rcases(hfp b hb).2.2.2.1 with z | z
  ·exact I.ok.noex b o e z
  ·exact absurd (Nat.lt_of_lt_of_le (Heap.lt_size e2) z) (Nat.lt_irrefl _)
 have kd:∀ {y:Str},((compEnvC scope (z2m X.env scope.names []) C X.env).kindOf y=some .cell\/(compEnvC scope (z2m X.env scope.names []) C X.env).kindOf y=some .free)->(y,NameKind.free)∈scope.names:=fun {y} q=>by
  rcases q with q | q
  ·rcases z2R (env:=X.env) q with z | ⟨_,z⟩
   ·exact absurd rfl (c.nocell _ (z0V z))
   ·exact z0V z
  ·rcases z2R (env:=X.env) q with z | ⟨z,_⟩
   ·exact z0V z
   ·cases z
 have cell:∀ {a:Addr}{v:Option Value},s.heap.IsCell a v->h1.IsCell a v:=fun⟨o,ho,hd⟩=>⟨o,keep _ _ ho,hd⟩
 obtain⟨m1,hm1⟩:=hns
 refine⟨⟨I.ok.mod,hk,I.ok.glob,I.ok.blt,hC,(fun y z a e1 e2=>I.ok.inj y z a (c.clo I e1).1 (c.clo I e2).1),(fun y q=>c.has I (kd q)),(fun y a hf e => ?_),(fun _=>I.ok.hd hc),I.ok.frames,.inl rfl,(fun b hb=>⟨Nat.ne_of_lt (Nat.lt_of_lt_of_le (hfo b hb) hC),(fun y a e=>(hfp b hb).2.2.2.2.1 y a (c.clo I e).1)⟩),(fun b o e=>⟨I.bk b o e,(I.bs b o e).2⟩),Nat.le_trans I.ok.bsz I.sz,nobase,nofs,I.stack,I.stkFree,I.tbs⟩,
  rfl,I.bare,Un.kept keep,⟨m1,hm1,(fun i y v e1 e2 hv => ?_)⟩,(fun y a e => ?_),I.hok.fresh hC,(fun y a e=>I.freeC y a (c.clo I e).1),(fun p hp=>by simp at hp),I.hok.kept keep,?_⟩
 ·have hf':((z2m X.env scope.names []).lookup y).isNone=true:=hf
  have e':(z2m X.env scope.names []).lookup y=some a:=e
  rw[e'] at hf'
  cases hf'
 ·rcases Nat.lt_or_ge i nt with hi | hi
  ·rw[List.getElem?_append_left (by simpa using hi),List.getElem?_replicate] at e2
   rw[if_pos hi] at e2
   cases e2
  ·rw[List.getElem?_append_right (by simpa using hi),List.length_replicate,List.getElem?_map] at e2
   cases ej:js[i - nt]? with
   | none=>rw[ej] at e2; cases e2
   | some j=>
    rw[ej] at e2
    obtain⟨y',q1,q2,q3⟩:=c.cap _ _ ej
    have hi':nt+(i - nt)=i:=by omega
    rw[hi'] at q1
    have e1':N'[i]? = some y:=e1
    rw[q1] at e1'
    cases e1'
    have e2:some ((σ[j]?).getD none)=some (some v):=e2
    have hσ:σ[j]? = some (some v):=by
     cases ez:σ[j]? with
     | none=>rw[ez] at e2; cases e2
     | some z=>rw[ez] at e2; exact congrArg some (Option.some.inj e2)
    have hkX:=c.free _ (z0V q3) rfl
    obtain⟨m,hn,hl⟩:=I.loc
    obtain⟨u,r,l⟩:=hl j y v q2 hσ (.inr hkX)
    refine⟨u,r,.inr ⟨z2t (env:=X.env) q3,?_⟩⟩
    rcases l with ⟨l,_⟩ | ⟨_,a,ha,hcell⟩
    ·have l':X.env.kindOf y=some .local:=l
     rcases hkX with z | z
     ·rw[l'] at z; cases z
     ·rw[l'] at z; cases z
    ·obtain⟨b,hb⟩:=c.has I (z0V q3)
     have:=(c.clo I hb).1
     rw[ha] at this
     cases this
     exact⟨a,hb,cell hcell⟩
 ·obtain⟨v,z⟩:=I.cell y a (c.clo I e).1
  exact⟨v,cell z⟩
 ·show (List.replicate nt none++js.map fun j=>(σ[j]?).getD none).length=N'.length
  rw[List.length_append,List.length_replicate,List.length_map,c.len]
def zg3 {elt iter target:Expr}{ct:Option Expr}{pos:Pos}{scope:Scope}{wi:TI}{g:TG}{tc:TT}{te:TE}{N':List Str}{nt:Nat}{js:List Nat}(hc:X.calm=true)(hi:PI X target iter wi)(hk:scope.kind = .function)(cp:z3D X N' nt js scope)
  (hg:∀ (C:Addr) (s:Shared) (H:Hp) (fp:List Addr),PG (X.compG scope N' C s H fp) target g)
  (ht:match ct with
   | none=>tc=z7r
   | some c=>∀ (C:Addr) (s:Shared) (H:Hp) (fp:List Addr),PT (X.compG scope N' C s H fp) c tc)
  (he:∀ (C:Addr) (s:Shared) (H:Hp) (fp:List Addr),PE (X.compG scope N' C s H fp) elt te) (hs:∀ x,foldedSetIterable iter X.env x=pure x:=by intro _; rfl):PE X (.ListComp elt [⟨target,iter,ct.toList,0⟩] scope pos) (tLcG wi g tc te nt js):=by
 intro pins s σ H Q I h
 rw[eval_ListComp]
 refine wpAny_comprehension_free (use:=none) rfl hs (z4u (cp.cells I)) hk cp.loc (thn (hi pins s σ H _ I h) fun v s1 h1=>thn h1 fun itv s2 h2 => ?_)
 obtain⟨it,fp,tn,J,H2,e,I2,T,st2,f2,W,⟨m0,w0⟩,turn⟩:=h2
 subst e
 have hfo:∀ b∈fp,b < s2.heap.objs.size:=fun b hb=>by
  obtain⟨o,e,_⟩:=T.obj _ _ st2 b hb
  exact Heap.lt_size e
 refine wpAny_newObj_type (wpAny_newFunctionEnv cp.nocell (by intro y hy; simp at hy) (fun g1 hns1 hsb1 => ?_) hk)
 dsimp only at hns1 hsb1 ⊢
 generalize hG2:s2.heap.push { cls :=.type "list",dict:=none,data :=.seq ([]:List Value).toArray }=G2 at hns1 hsb1 ⊢
 have hC:G2.objs.size=s2.heap.objs.size+1:=by rw[<- hG2,Heap.size_push]
 have hDC:s2.heap.objs.size≠G2.objs.size:=by rw[hC]; exact Nat.ne_of_lt (Nat.lt_succ_self _)
 have below:∀ b,b < s2.heap.objs.size->b≠G2.objs.size/\b≠s2.heap.objs.size:=fun b hb=>⟨by rw[hC]; exact Nat.ne_of_lt (Nat.lt_succ_of_lt hb),Nat.ne_of_lt hb⟩
 have old:∀ b o,s2.heap.get? b=some o->g1.get? b=some o:=fun b o e=>hsb1.extBut b o (below b (Heap.lt_size e)).1 (Heap.get?_push_of_some _ (hG2 ▸ Heap.get?_push_of_some _ e))
 have hacc:g1.get? s2.heap.objs.size=some { cls :=.type "list",data :=.seq ([]:List Value).toArray 0 }:=hsb1.extBut _ _ hDC (Heap.get?_push_of_some _ (hG2 ▸ Heap.get?_push_size _ rfl))
 have hCge:s2.heap.objs.size<=G2.objs.size:=by rw[hC]; exact Nat.le_succ _
 have cellD:∀ y a,X.env.cells.lookup y=some a->a < s2.heap.objs.size:=fun y a e=>by
  obtain⟨v,o,ho,_⟩:=I2.cell y a e
  exact Heap.lt_size ho
 generalize hCC:G2.objs.size=C at*
 generalize hDD:s2.heap.objs.size=D at*
 let Y:Cx:=X.compG scope N' C s2 H2 fp
 have IY:Inv Y [] (List.replicate nt none++js.map fun j=>(σ[j]?).getD none) H2 { s2 with heap:=g1,toks:=s2.toks+([]:List (Str × Value)).length }:=I2.compG hk cp (by rw[hDD]; exact hCge) f2 (by rw[hDD]; exact hfo) old ⟨_,hns1⟩ hc
 have fpD:∀ b∈fp,b≠D:=fun b hb=>(below b (hfo b hb)).2
 have fpC:∀ b∈fp,b≠C:=fun b hb=>(below b (hfo b hb)).1
 have H2D:H2 D=none:=I2.hok.fresh (by rw[hDD]; exact Nat.le_refl _)
 have Dnf:D ∉ frs X.stack:=fun z=>by
  obtain⟨_,o,e,_⟩:=I2.stack.mem z
  exact absurd (Heap.lt_size e) (by rw[hDD]; exact Nat.lt_irrefl _)
 have stat:∀ {H':Hp}{pl:List (Addr × Obj)},(∀ b∈fp,H' b=none)->(∀ p∈pl,p.1=D)->∀ b∈fp,FpOk Y pl H' b:=fun hn hp b hb=>⟨hn b hb,fpC b hb,(fun z=>IY.ok.exfs b hb z),.inl hb,(fun y a e=>(f2 b hb).2.2.2.2.1 y a (cp.clo I2 e).1),fun p hp' z=>fpD b hb (z.symm.trans (hp p (by simpa[Y] using hp')))⟩
 have loop:∀ s3:Shared,s3={ s2 with heap:=g1,toks:=s2.toks+([]:List (Str × Value)).length }->
   codeAny (model X.prog X.w) X.A (.compLoop (.ListComp elt [⟨target,iter,ct.toList,0⟩] scope pos) 0 (.ref it) (.ref D) (compEnvC scope (z2m X.env scope.names []) C X.env)) (compPost (model X.prog X.w) X.A X.xe none (EP X pins σ Q) (.ref D) C) s3:=by
  intro s3 e3
  refine z8d (fun n s'=>∃ i ys its σ' H',Inv Y [] σ' H' s'/\s'.heap.get? D=some { cls :=.type "list",data :=.seq (its:List Value).toArray its.length }/\Vals ys its/\H' D=none/\tn i s'.heap/\(∀ b∈fp,H' b=none)/\W i n ys σ' H') ?_ m0 ⟨0,[],[],_,H2,e3 ▸ IY,?_,.nil,H2D,?_,fun b hb=>(f2 b hb).1,w0⟩
  ·rintro n s4 ⟨i,ys,its,σ4,H4,I4,hD4,hv4,hn4,st4,fr4,w4⟩
   obtain⟨hsz,step⟩:=turn i n ys σ4 H4 w4
   have hl4:ys.length=its.length:=hv4.length
   have I4p:Inv Y [(D,{ cls :=.type "list",data :=.seq its.toArray its.length })] σ4 H4 s4:=I4.pins_of fun p hp=>by
    rw[List.mem_singleton.mp hp]
    exact⟨hD4,hn4,hDC,Dnf,fun v z=>by cases z⟩
   have one:∀ p∈[((D:Addr),({ cls :=.type "list",data :=.seq its.toArray its.length }:Obj))],p.1=D:=fun p hp=>by rw[List.mem_singleton.mp hp]
   rcases step with ⟨stop,qn⟩ | ⟨go,step⟩
   ·refine wpAny_mono (T.done Y rfl rfl rfl hc i _ s4 σ4 H4 (fun _ _=>False) I4p (stat fr4 one) st4 stop) (fun r s5 hr => ?_) fun _ _ z=>z.elim
    obtain⟨rfl,I5⟩:=hr
    have hD5:s5.heap.get? D=some { cls :=.type "list",data :=.seq its.toArray its.length }:=(I5.pin (D,_) (by simp)).1
    obtain⟨m5,hm5,_⟩:=I5.loc
    refine⟨m5,hm5,fun h' sb => ?_⟩
    have U:Un (frs X.stack) fp H2 H4 s2.heap s5.heap:=I5.base
    have nC:∀ b o,s2.heap.get? b=some o->b≠C:=fun b o e=>(below b (hDD ▸ Heap.lt_size e)).1
    have nD:∀ b o,s2.heap.get? b=some o->b≠D:=fun b o e=>(below b (hDD ▸ Heap.lt_size e)).2
    have ex:∀ b o,b≠C->s5.heap.get? b=some o->h'.get? b=some o:=fun b o n e=>sb.extBut b o n e
    have U':Un (frs X.stack) fp H2 (upd H4 D (.lst ys)) s2.heap h':=⟨fun b o e n hb hx'=>ex b o (nC b o e) (U.keep b o e n hb hx'),fun b o e n hb hx'=>by
      obtain⟨sl,q⟩:=U.slot b o e n hb hx'
      exact⟨sl,ex b _ (nC b o e) q⟩,fun b o e n hx'=>by rw[z09 (nD b o e)]; exact U.free b o e n hx',fun b o e hx'=>by
      obtain⟨o',q⟩:=U.there b o e hx'
      exact⟨o',ex b _ (nC b o e) q⟩,fun b xs e=>by rw[z09 (z0t (U.tups b xs e) hn4)]; exact U.tups b xs e,fun b o xs e=>by rw[z09 (z0t (U.frzs b o xs e) hn4)]; exact U.frzs b o xs e,fun b ps e=>by
      obtain⟨more,q⟩:=U.tbls b ps e
      exact⟨more,by rw[z09 (z0t q hn4)]; exact q⟩⟩
    have ok1:HOk X.prog X.w H4 h':=HOk.other I5.hok I5.free fun b u n e=>ex b u n e
    have ok2:HOk X.prog X.w (upd H4 D (.lst ys)) h':=ok1.track hn4 ⟨Nat.le_of_lt hsz,its,_,hv4,ex D _ hDC hD5⟩
    exact⟨.ref D,upd H4 D (.lst ys),I2.call' (s':={ s5 with heap:=h' }) I5.os U' ok2 I5.bare (fun b hb=>⟨(f2 b hb).2.2.2.1,(f2 b hb).2.1,(f2 b hb).2.2.2.2.1,(f2 b hb).2.2.2.2.2⟩),rfl,qn D hn4⟩
   ·refine wpAny_mono (T.item Y rfl rfl rfl hc i _ s4 σ4 H4 (fun _ _=>False) I4p (stat fr4 one) st4 go) (fun r s5 hr => ?_) fun _ _ z=>z.elim
    obtain⟨u,rfl,h5⟩:=hr
    refine wpAny_mono h5 (fun _ s6 h6 => ?_) fun _ _ z=>z.elim
    obtain⟨xv,H6,I6,r6,y6,st6,fr6⟩:=h6
    have I6p:=I6.pinned (stat fr6 one) (T.obj _ _ st6)
    have after:∀ {σ8:St}{H8:Hp}{s8:Shared},Inv Y _ σ8 H8 s8->_:=fun {σ8 H8 s8} (I8:Inv Y ([(D,{ cls :=.type "list",data :=.seq its.toArray its.length })]++z6j fp s6.heap) σ8 H8 s8)=>
     (show (s8.heap.get? D=some { cls :=.type "list",data :=.seq its.toArray its.length }/\H8 D=none)/\tn (i+1) s8.heap/\(∀ b∈fp,H8 b=none)/\Inv Y [] σ8 H8 s8 from by
      have pD:=I8.pin (D,{ cls :=.type "list",data :=.seq its.toArray its.length }) (by simp)
      refine⟨⟨pD.1,pD.2.1⟩,T.keep _ _ _ st6 fun b hb o e=>(I8.pin (b,o) (List.mem_append_right _ (List.mem_append_right _ (z3H hb e)))).1,fun b hb => ?_,I8.pins_of (pins':=[]) fun p hp=>by simp at hp⟩
      obtain⟨o,e,d⟩:=T.obj _ _ st6 b hb
      exact(I8.pin (b,o) (List.mem_append_right _ (List.mem_append_right _ (z3H hb e)))).2.1)
    refine wpAny_mono (hg C s2 H2 fp _ s6 σ4 H6 xv u _ I6p r6 (step xv H6 y6)) (fun _ s7 h7 => ?_) fun _ _ z=>z.elim
    obtain⟨σ7,H7,I7,q7⟩:=h7
    have yes:∀ s7' H7',Inv Y _ σ7 H7' s7'->(te σ7 H7' fun y H3=>∃ m',m' < n/\W (i+1) m' (ys++[y]) σ7 H3)->_:=fun s7' H7' (I7':Inv Y ([(D,{ cls :=.type "list",data :=.seq its.toArray its.length })]++z6j fp s6.heap) σ7 H7' s7') qe=>
     wpAny_mono (Q':=fun yv s8=>wpAny (model X.prog X.w) X.A (call (.builtin "list.append") [.ref D,yv]) (fun _ s6=>∃ m,m < n/\∃ i ys its σ' H',Inv Y [] σ' H' s6/\s6.heap.get? D=some { cls :=.type "list",data :=.seq (its:List Value).toArray its.length }/\Vals ys its/\H' D=none/\tn i s6.heap/\(∀ b∈fp,H' b=none)/\W i m ys σ' H') (notedBy (model X.prog X.w) X.A (compEnvC scope (z2m X.env scope.names []) C X.env) fun e s'=>compPost (model X.prog X.w) X.A X.xe none (EP X pins σ Q) (.ref D) C (.error e) s') s8) (he C s2 H2 fp _ s7' σ7 H7' _ I7' qe) (fun yv s8 h8=>by
      obtain⟨y,H8,I8,r8,m',hm',w8⟩:=h8
      obtain⟨⟨pD1,pD2⟩,st8,fr8,I8u⟩:=after I8
      refine append_at (hsz:=by rw[List.size_toArray, <- hl4]; exact Nat.le_of_lt hsz) pD1 fun h9 sb9 hD9 => ?_
      refine⟨m',hm',i+1,ys++[y],its++[yv],σ7,H8,I8u.turned (it:=D) (t':=s8.toks) (fun b o n e=>sb9.extBut b o n e) pD2 hDC (.inr (by rw[hDD]; exact Nat.le_refl _)) (fun y a e z=>by
        have:=cellD y a (cp.clo I2 e).1
        rw[z] at this
        exact Nat.lt_irrefl _ this) (fun p hp=>by simp[Y] at hp),?_,Vals.append hv4 (.cons r8 .nil),pD2,T.keep _ _ _ st8 fun b hb o e=>sb9.extBut b o (fpD b hb) e,fr8,w8⟩
      show h9.get? D=_
      rw[hD9]
      simp) (E':=notedBy (model X.prog X.w) X.A (compEnvC scope (z2m X.env scope.names []) C X.env) fun e s'=>compPost (model X.prog X.w) X.A X.xe none (EP X pins σ Q) (.ref D) C (.error e) s') (fun _ _ z=>z.elim)
    cases ct with
    | none=>
     have ht':tc=z7r:=ht
     subst ht'
     simp only[zeW,if_true]
     have q7':if true=true then te σ7 H7 fun y H3=>∃ m',m' < n/\W (i+1) m' (ys++[y]) σ7 H3 else ∃ m',m' < n/\W (i+1) m' ys σ7 H7:=q7
     rw[if_pos rfl] at q7'
     exact yes s7 H7 I7 q7'
    | some c=>
     refine wpAny_mono (ht C s2 H2 fp _ s7 σ7 H7 _ I7 q7) (fun b s8 h8 => ?_) fun _ _ z=>z.elim
     obtain⟨H8,I8,q8⟩:=h8
     cases b with
     | true=>
      rw[if_pos rfl] at q8 ⊢
      exact yes s8 H8 I8 q8
     | false=>
      rw[if_neg Bool.false_ne_true] at q8 ⊢
      obtain⟨m',hm',w8⟩:=q8
      obtain⟨⟨pD1,pD2⟩,st8,fr8,I8u⟩:=after I8
      exact⟨m',hm',i+1,ys,its,σ7,H8,I8u,pD1,hv4,pD2,st8,fr8,w8⟩
  ·rw[e3]; exact hacc
  ·rw[e3]; exact T.keep _ _ _ st2 fun b _ o e=>old b o e
 exact codeAny_compStart_list (loop _ rfl) (T.self _ 0 _ _ _ (T.keep _ _ _ st2 fun b _ o e=>old b o e) (loop _ rfl))
def zfN {elt iter target:Expr}{ct:Option Expr}{pos:Pos}{scope:Scope}{wi:TI}{g:TG}{tc:TT}{te:TE}{N':List Str}{nt:Nat}{js:List Nat}(hc:X.calm=true)(hi:QI X target iter wi)(hk:scope.kind = .function)(cp:z3D X N' nt js scope)
  (hg:∀ (C:Addr) (s:Shared) (H:Hp) (fp:List Addr),QG (X.compG scope N' C s H fp) target g)
  (ht:match ct with
   | none=>tc=z7r
   | some c=>∀ (C:Addr) (s:Shared) (H:Hp) (fp:List Addr),QT (X.compG scope N' C s H fp) c tc)
  (he:∀ (C:Addr) (s:Shared) (H:Hp) (fp:List Addr),QE (X.compG scope N' C s H fp) elt te) (hs:∀ x,foldedSetIterable iter X.env x=pure x:=by intro _; rfl):QE X (.ListComp elt [⟨target,iter,ct.toList,0⟩] scope pos) (tLcG wi g tc te nt js):=by
 refine⟨zg3 hc hi.p hk cp (fun C s H fp=>(hg C s H fp).p) ?_ (fun C s H fp=>(he C s H fp).p) hs⟩
 cases ct with
 | none=>exact ht
 | some c=>exact fun C s H fp=>(ht C s H fp).p
def zhJ {i:Nat}{x:Str}{pos:Pos}(hN:X.N.Nodup)(hi:X.N[i]? = some x)(hx:X.env.scope.names.lookup x=some .local):QG X (.Name x pos) (z63 i):=⟨zba hN hi (.inl hx) (.inr hx)⟩
end
def zar:∀ (ns:List Int) {us:List Value},Vals (ns.map V.int) us->∃ l:List (Int × Tok),us=l.map (fun p=>Value.int p.1 p.2)/\l.map (·.1)=ns
 | [],_,r=>by cases r; exact⟨[],rfl,rfl⟩
 | n::ns,_,r=>by
  cases r with
  | cons r1 r2=>
   obtain⟨t,rfl⟩:=(show ∃ t,_=Value.int n t from r1)
   obtain⟨l,rfl,hl⟩:=zar ns r2
   exact⟨(n,t)::l,rfl,by rw[List.map_cons,hl]⟩
def z6v (bt:Nat->Nat->Bool):∀ k,argBest bt k<=k
 | 0=>Nat.le_refl _
 | k+1=>by
  rw[argBest]
  split
  ·exact Nat.le_refl _
  ·exact Nat.le_succ_of_le (z6v bt k)
def z5M (f:Nat->Int):∀ k j,j<=k->f j<=f (argBest (fun i j=>decide (f i > f j)) k)
 | 0,j,h=>by
  have:j=0:=by omega
  subst this
  exact Int.le_refl _
 | k+1,j,h=>by
  have ih:=z5M f k
  rw[argBest]
  by_cases hb:f (k+1) > f (argBest (fun i j=>decide (f i > f j)) k)
  ·rw[if_pos (decide_eq_true hb)]
   rcases Nat.lt_or_ge j (k+1) with hj | hj
   ·have:=ih j (by omega); omega
   ·have:j=k+1:=by omega
    subst this
    exact Int.le_refl _
  ·rw[if_neg (by rw[decide_eq_false hb]; exact Bool.false_ne_true)]
   rcases Nat.lt_or_ge j (k+1) with hj | hj
   ·exact ih j (by omega)
   ·have:j=k+1:=by omega
    subst this
    omega
section
variable {X:Cx}
def z1T.imp {f:Value}{r r':List V->Hp->VK->Prop}(h:z1T X f r)(i:∀ xs H Q,r' xs H Q->r xs H Q):z1T X f r':=fun pins s σ H xs us Q I rv q=>h pins s σ H xs us Q I rv (i xs H Q q)
end
def Pt (H:Hp)(v:V)(p:Int × Int):Prop:=∃ a,v = .ref a/\H a=some (.tup [.int p.1,.int p.2])
end L2
namespace Pu
open PySem PySem.Spec PyProof.Rows L2
inductive D where
 | non | bl (b:Bool) | int (i:Int) | str (x:Str) | tup (l:List D) | lst (l:List D) | dct (ks vs:List D) | fn (n:Nat) | exc (x:Str)
instance:Inhabited D:=⟨.non⟩
def z4Z:Nat->Str
 | 0=>"turn_by" | 1=>"turn_among" | 2=>"step_of" | 3=>"step_among" | _=>""
def kD:Key->D
 | .inl i =>.int i
 | .inr x =>.str x
section
variable (K:W.Frag)(mg:Str->Option Value)
mutual
/-- the value v stands for d,in the heap G -/
def RD (G:Hp):D->V->Prop
 | .non,v=>v = .non
 | .bl b,v=>v = .bl b
 | .int i,v=>v = .int i
 | .str x,v=>v = .str x
 | .tup ds,v=>∃ a xs,v = .ref a/\SqT K G a xs/\RDs G ds xs
 | .lst ds,v=>∃ a xs,v = .ref a/\SqL K G a xs/\RDs G ds xs
 | .dct ks vs,v=>∃ a xs,v = .ref a/\RDs G vs xs/\((∃ kvs:List (Key × V),G a=some (.dK kvs)/\ks=kvs.map (fun p=>kD p.1)/\xs=kvs.map (·.2))\/∃ kvs:List (List Key × V),G a=some (.dT kvs)/\ks=kvs.map (fun p =>.tup (p.1.map kD))/\xs=kvs.map (·.2))
 | .fn n,v=>∃ f,v = .ref f/\mg (z4Z n)=some (.ref f)
 | .exc x,v=>∃ ea C,v = .ref ea/\G ea=some (.ext (ziE ea C))/\mg x=some (.ref C)
def RDs (G:Hp):List D->List V->Prop
 | [],xs=>xs=[]
 | d::ds,xs=>∃ x r,xs=x::r/\RD G d x/\RDs G ds r
end
end
section
variable {K:W.Frag}{mg:Str->Option Value}{G G' H H':Hp}
def Same.refl':Same H H:=fun _ _ h=>h
def z07 {A B C:Hp}(h:Same A B)(h':Same B C):Same A C:=fun a o e=>h' a o (h a o e)
def z1G {a:Addr}{xs:List V}(e:Same G G')(h:SqL K G a xs):SqL K G' a xs:=by
 rcases h with (h | ⟨o,h⟩) | h
 ·exact .inl (.inl (e _ _ h))
 ·exact .inl (.inr ⟨o,e _ _ h⟩)
 ·exact .inr h
def z1r {a:Addr}{xs:List V}(e:Same G G')(h:SqT K G a xs):SqT K G' a xs:=by
 rcases h with (h | ⟨o,h⟩) | h
 ·exact .inl (.inl (e _ _ h))
 ·exact .inl (.inr ⟨o,e _ _ h⟩)
 ·exact .inr h
mutual
def RD.same (e:Same G G'):∀ (d:D) {v:V},RD K mg G d v->RD K mg G' d v
 | .non,_,h=>by simpa[RD] using h
 | .bl _,_,h=>by simpa[RD] using h
 | .int _,_,h=>by simpa[RD] using h
 | .str _,_,h=>by simpa[RD] using h
 | .fn _,_,h=>by rw[RD] at h ⊢; exact h
 | .exc _,_,h=>by
  rw[RD] at h ⊢
  obtain⟨ea,C,h1,h2,h3⟩:=h
  exact⟨ea,C,h1,e _ _ h2,h3⟩
 | .tup ds,_,h=>by
  rw[RD] at h ⊢
  obtain⟨a,xs,h1,h2,h3⟩:=h
  exact⟨a,xs,h1,z1r e h2,RDs.same e ds h3⟩
 | .lst ds,_,h=>by
  rw[RD] at h ⊢
  obtain⟨a,xs,h1,h2,h3⟩:=h
  exact⟨a,xs,h1,z1G e h2,RDs.same e ds h3⟩
 | .dct ks vs,_,h=>by
  rw[RD] at h ⊢
  obtain⟨a,xs,h1,h3,h4⟩:=h
  refine⟨a,xs,h1,RDs.same e vs h3,?_⟩
  rcases h4 with ⟨kvs,q,r⟩ | ⟨kvs,q,r⟩
  ·exact .inl ⟨kvs,e _ _ q,r⟩
  ·exact .inr ⟨kvs,e _ _ q,r⟩
def RDs.same (e:Same G G'):∀ (ds:List D) {xs:List V},RDs K mg G ds xs->RDs K mg G' ds xs
 | [],_,h=>by simpa[RDs] using h
 | d::ds,_,h=>by
  rw[RDs] at h ⊢
  obtain⟨x,r,h1,h2,h3⟩:=h
  exact⟨x,r,h1,RD.same e d h2,RDs.same e ds h3⟩
end
def RDs.nil:RDs K mg G [] []:=by rw[RDs]
def RDs.cons {d:D}{v:V}{ds:List D}{vs:List V}(h:RD K mg G d v)(t:RDs K mg G ds vs):RDs K mg G (d::ds) (v::vs):=by rw[RDs]; exact⟨v,vs,rfl,h,t⟩
def RDs.len:∀ {ds:List D}{vs:List V},RDs K mg G ds vs->vs.length=ds.length
 | [],_,h=>by rw[RDs] at h; subst h; rfl
 | _::_,_,h=>by
  rw[RDs] at h
  obtain⟨x,r,rfl,_,h3⟩:=h
  simp[RDs.len h3]
def RDs.app:∀ {ds es:List D}{vs us:List V},RDs K mg G ds vs->RDs K mg G es us->RDs K mg G (ds++es) (vs++us)
 | [],_,_,_,h,k=>by rw[RDs] at h; subst h; exact k
 | _::_,_,_,_,h,k=>by
  rw[RDs] at h
  obtain⟨x,r,rfl,h2,h3⟩:=h
  exact RDs.cons h2 (RDs.app h3 k)
def RDs.get:∀ {ds:List D}{vs:List V}{i:Nat}{d:D},RDs K mg G ds vs->ds[i]? = some d->∃ v,vs[i]? = some v/\RD K mg G d v
 | [],_,_,_,_,e=>by simp at e
 | _::_,_,0,_,h,e=>by
  rw[RDs] at h
  obtain⟨x,r,rfl,h2,h3⟩:=h
  simp at e; subst e
  exact⟨x,rfl,h2⟩
 | _::_,_,i+1,_,h,e=>by
  rw[RDs] at h
  obtain⟨x,r,rfl,h2,h3⟩:=h
  obtain⟨v,e1,e2⟩:=RDs.get (i:=i) h3 (by simpa using e)
  exact⟨v,by simpa using e1,e2⟩
def RDs.getV:∀ {ds:List D}{vs:List V}{i:Nat}{v:V},RDs K mg G ds vs->vs[i]? = some v->∃ d,ds[i]? = some d/\RD K mg G d v
 | [],_,_,_,h,e=>by rw[RDs] at h; subst h; simp at e
 | _::_,_,0,_,h,e=>by
  rw[RDs] at h
  obtain⟨x,r,rfl,h2,h3⟩:=h
  simp at e; subst e
  exact⟨_,rfl,h2⟩
 | _::_,_,i+1,_,h,e=>by
  rw[RDs] at h
  obtain⟨x,r,rfl,h2,h3⟩:=h
  obtain⟨v,e1,e2⟩:=RDs.getV (i:=i) h3 (by simpa using e)
  exact⟨v,by simpa using e1,e2⟩
def RDs.take:∀ {ds:List D}{vs:List V}(n:Nat),RDs K mg G ds vs->RDs K mg G (ds.take n) (vs.take n)
 | _,_,0,_=>by simp; exact RDs.nil
 | [],_,_+1,h=>by rw[RDs] at h; subst h; exact RDs.nil
 | _::_,_,n+1,h=>by
  rw[RDs] at h
  obtain⟨x,r,rfl,h2,h3⟩:=h
  exact RDs.cons h2 (RDs.take n h3)
def RDs.drop:∀ {ds:List D}{vs:List V}(n:Nat),RDs K mg G ds vs->RDs K mg G (ds.drop n) (vs.drop n)
 | _,_,0,h=>by simpa using h
 | [],_,_+1,h=>by rw[RDs] at h; subst h; exact RDs.nil
 | _::_,_,n+1,h=>by
  rw[RDs] at h
  obtain⟨x,r,rfl,h2,h3⟩:=h
  exact RDs.drop n h3
def RDs.rev {ds:List D}{vs:List V}(h:RDs K mg G ds vs):RDs K mg G ds.reverse vs.reverse:=by
 induction ds generalizing vs with
 | nil=>rw[RDs] at h; subst h; exact RDs.nil
 | cons d ds ih=>
  rw[RDs] at h
  obtain⟨x,r,rfl,h2,h3⟩:=h
  rw[List.reverse_cons,List.reverse_cons]
  exact RDs.app (ih h3) (RDs.cons h2 RDs.nil)
def RDs.at {ds:List D}{vs:List V}{i:Int}{d:D}(h:RDs K mg G ds vs)(e:atI ds i=some d):∃ v,atI vs i=some v/\RD K mg G d v:=by
 unfold atI at e ⊢
 rw[h.len]
 cases q:ixN ds.length i with
 | none=>rw[q] at e; cases e
 | some j=>
  rw[q] at e
  exact h.get e
def RDs.cut {ds:List D}{vs:List V}(lo hi:Option Int)(h:RDs K mg G ds vs):RDs K mg G ((ds.drop (HT.sIx ds.length 0 lo)).take (HT.sIx ds.length ds.length hi - HT.sIx ds.length 0 lo)) (cutV vs lo hi):=by
 unfold cutV
 rw[h.len]
 exact(h.drop _).take _
end
inductive B where
 | n | s (d:D) | o (d:D)
abbrev Env:=List B
def B.get:B->Option D
 | .n=>none
 | .s d=>some d
 | .o d=>some d
def Env.get (ρ:Env)(i:Nat):Option D:=match ρ,i with
 | [],_=>none
 | b::_,0=>b.get
 | _::r,i+1=>Env.get r i
def Env.get_eq:∀ (ρ:Env) (i:Nat),Env.get ρ i=(ρ[i]?).bind B.get
 | [],i=>by simp[Env.get]
 | b::r,0=>by simp[Env.get]
 | b::r,i+1=>by simp[Env.get,Env.get_eq r i]
abbrev DK:=D->Prop
abbrev XP:=Str->Prop
structure Fn where
 run:List D->DK->XP->Prop
 mono:∀ ds (Q Q':DK) (X X':XP),(∀ d,Q d->Q' d)->(∀ x,X x->X' x)->run ds Q X->run ds Q' X'
structure Ex where
 run:Env->DK->XP->Prop
 mono:∀ ρ (Q Q':DK) (X X':XP),(∀ d,Q d->Q' d)->(∀ x,X x->X' x)->run ρ Q X->run ρ Q' X'
structure Sm where
 run:Env->(Env->Prop)->DK->XP->Prop
 mono:∀ ρ (N N':Env->Prop) (Q Q':DK) (X X':XP),(∀ ρ,N ρ->N' ρ)->(∀ d,Q d->Q' d)->(∀ x,X x->X' x)->run ρ N Q X->run ρ N' Q' X'
def onV (o:Option D)(Q:DK):Prop:=match o with
 | some d=>Q d
 | none=>False
def Ex.c (d:D):Ex:=⟨fun _ Q _=>Q d,fun _ _ _ _ _ m _ q=>m _ q⟩
def Ex.v (i:Nat):Ex:=⟨fun ρ Q _=>onV (ρ.get i) Q,fun ρ Q Q' _ _ m _ q=>by
 show onV (ρ.get i) Q'
 have q':onV (ρ.get i) Q:=q
 cases e:ρ.get i with
 | none=>rw[e] at q'; exact q'
 | some d=>rw[e] at q'; exact m _ q'⟩
def runs:List Ex->Env->(List D->Prop)->XP->Prop
 | [],_,Q,_=>Q []
 | e::es,ρ,Q,X=>e.run ρ (fun d=>runs es ρ (fun ds=>Q (d::ds)) X) X
def z3o:∀ (es:List Ex) (ρ:Env) (Q Q':List D->Prop) (X X':XP),(∀ d,Q d->Q' d)->(∀ x,X x->X' x)->runs es ρ Q X->runs es ρ Q' X'
 | [],_,_,_,_,_,m,_,q=>m _ q
 | e::es,ρ,Q,Q',X,X',m,mx,q=>e.mono ρ _ _ X X' (fun d q1=>z3o es ρ _ _ X X' (fun ds q2=>m _ q2) mx q1) mx q
def Ex.op (f:Fn)(es:List Ex):Ex:=⟨fun ρ Q X=>runs es ρ (fun ds=>f.run ds Q X) X,fun ρ Q Q' X X' m mx q=>z3o es ρ _ _ X X' (fun ds q1=>f.mono ds Q Q' X X' m mx q1) mx q⟩
def tst (d:D)(A B:Prop):Prop:=match d with
 | .bl b=>(b=true->A)/\(b=false->B)
 | _=>False
def z34 {d:D}{A A' B B':Prop}(ha:A->A')(hb:B->B')(h:tst d A B):tst d A' B':=by
 cases d with
 | bl b=>exact⟨fun e=>ha (h.1 e),fun e=>hb (h.2 e)⟩
 | _=>exact h.elim
def z6c {d:D}{A B:Prop}(h:tst d A B):∃ b,d = .bl b/\(b=true->A)/\(b=false->B):=by
 cases d with
 | bl b=>exact⟨b,rfl,h⟩
 | _=>exact h.elim
def Ex.and (a b:Ex):Ex:=⟨fun ρ Q X=>a.run ρ (fun d=>tst d (b.run ρ Q X) (Q (.bl false))) X,fun ρ Q Q' X X' m mx q=>a.mono ρ _ _ X X' (fun d q1=>z34 (b.mono ρ Q Q' X X' m mx) (m _) q1) mx q⟩
def Ex.or (a b:Ex):Ex:=⟨fun ρ Q X=>a.run ρ (fun d=>tst d (Q (.bl true)) (b.run ρ Q X)) X,fun ρ Q Q' X X' m mx q=>a.mono ρ _ _ X X' (fun d q1=>z34 (m _) (b.mono ρ Q Q' X X' m mx) q1) mx q⟩
def Ex.not (a:Ex):Ex:=⟨fun ρ Q X=>a.run ρ (fun d=>match d with | .bl b=>Q (.bl (!b)) | _=>False) X,fun ρ Q Q' X X' m mx q=>a.mono ρ _ _ X X' (fun d q1=>by
 cases d with
 | bl b=>exact m _ q1
 | _=>exact q1.elim) mx q⟩
def Ex.ifx (c a b:Ex):Ex:=⟨fun ρ Q X=>c.run ρ (fun d=>tst d (a.run ρ Q X) (b.run ρ Q X)) X,fun ρ Q Q' X X' m mx q=>c.mono ρ _ _ X X' (fun d q1=>z34 (a.mono ρ Q Q' X X' m mx) (b.mono ρ Q Q' X X' m mx) q1) mx q⟩
inductive Tg where
 | nm (i:Nat) | tp (is:List Nat)
def z9c:List Nat->List D->Env->Env
 | i::is,d::ds,ρ=>z9c is ds (ρ.set i (.s d))
 | _,_,ρ=>ρ
def Tg.put (t:Tg)(d:D)(ρ:Env)(K:Env->Prop):Prop:=match t,d with
 | .nm i,d=>K (ρ.set i (.s d))
 | .tp is,.tup ds=>is.length=ds.length/\K (z9c is ds ρ)
 | _,_=>False
def Tg.put_mono {t:Tg}{d:D}{ρ:Env}{K K':Env->Prop}(m:∀ ρ,K ρ->K' ρ)(h:t.put d ρ K):t.put d ρ K':=by
 cases t with
 | nm i=>exact m _ h
 | tp is=>
  cases d with
  | tup ds=>exact⟨h.1,m _ h.2⟩
  | _=>exact h.elim
def z05:D->Option (List D)
 | .lst l=>some l
 | .tup l=>some l
 | .str x=>some (x.cps.toList.map fun c =>.str ⟨#[c]⟩)
 | _=>none
def onL (o:Option (List D))(Q:List D->Prop):Prop:=match o with
 | some l=>Q l
 | none=>False
def z6O {o:Option (List D)}{Q Q':List D->Prop}(m:∀ l,Q l->Q' l)(h:onL o Q):onL o Q':=by
 cases o with
 | none=>exact h
 | some l=>exact m _ h
def z3B (f:D->(Option D->Prop)->Prop):List D->(List D->Prop)->Prop
 | [],N=>N []
 | x::xs,N=>f x fun o=>z3B f xs fun r=>N (o.toList++r)
def z2o {f f':D->(Option D->Prop)->Prop}(hf:∀ x K K',(∀ o,K o->K' o)->f x K->f' x K'):∀ (xs:List D) (N N':List D->Prop),(∀ l,N l->N' l)->z3B f xs N->z3B f' xs N'
 | [],_,_,m,q=>m _ q
 | x::xs,N,N',m,q=>hf x _ _ (fun o q1=>z2o hf xs _ _ (fun r q2=>m _ q2) q1) q
def z0K (nt:Nat)(js:List Nat)(ρ:Env):Env:=List.replicate nt .n++js.map fun j=>(ρ[j]?).getD .n
def z3l (t:Tg)(c:Option Ex)(elt:Ex)(ρ:Env)(x:D)(K:Option D->Prop):Prop:=
 t.put x ρ fun ρ'=>match c with
  | none=>elt.run ρ' (fun d=>K (some d)) (fun _=>False)
  | some c=>c.run ρ' (fun b=>tst b (elt.run ρ' (fun d=>K (some d)) (fun _=>False)) (K none)) (fun _=>False)
def z33 {t:Tg}{c:Option Ex}{elt:Ex}{ρ:Env}(x:D)(K K':Option D->Prop)(m:∀ o,K o->K' o)(h:z3l t c elt ρ x K):z3l t c elt ρ x K':=by
 refine Tg.put_mono (fun ρ' q => ?_) h
 cases c with
 | none=>exact elt.mono ρ' _ _ _ _ (fun d q1=>m _ q1) (fun _ z=>z) q
 | some c=>exact c.mono ρ' _ _ _ _ (fun b q1=>z34 (elt.mono ρ' _ _ _ _ (fun d q2=>m _ q2) (fun _ z=>z)) (m _) q1) (fun _ z=>z) q
def Ex.comp (nt:Nat)(js:List Nat)(t:Tg)(src:Ex)(c:Option Ex)(elt:Ex):Ex:=
 ⟨fun ρ Q X=>src.run ρ (fun d=>onL (z05 d) fun l=>l.length < sizeLine/\z3B (z3l t c elt (z0K nt js ρ)) l fun r=>Q (.lst r)) X,fun ρ Q Q' X X' m mx q=>
  src.mono ρ _ _ X X' (fun d q1=>z6O (fun l q2=>⟨q2.1,z2o z33 l _ _ (fun r q3=>m _ q3) q2.2⟩) q1) mx q⟩
def Sm.skip:Sm:=⟨fun ρ N _ _=>N ρ,fun _ _ _ _ _ _ _ m _ _ q=>m _ q⟩
def Sm.seq (a b:Sm):Sm:=⟨fun ρ N Q X=>a.run ρ (fun ρ'=>b.run ρ' N Q X) Q X,fun ρ N N' Q Q' X X' mn m mx q=>a.mono ρ _ _ Q Q' X X' (fun ρ' q1=>b.mono ρ' N N' Q Q' X X' mn m mx q1) m mx q⟩
mutual
def noL:D->Bool
 | .lst _=>false
 | .tup l=>noLs l
 | .dct ks vs=>noLs vs
 | _=>true
def noLs:List D->Bool
 | []=>true
 | d::ds=>noL d && noLs ds
end
mutual
def noD:D->Bool
 | .dct _ _=>false
 | .tup l=>noDs l
 | .lst l=>noDs l
 | _=>true
def noDs:List D->Bool
 | []=>true
 | d::ds=>noD d && noDs ds
end
def zfi (d:D):B->Prop
 | .o (.lst _)=>noL d=true
 | .o (.dct _ _)=>noD d=true
 | _=>True
def Safe (d:D):Env->Prop
 | []=>True
 | b::r=>zfi d b/\Safe d r
def zdi (d:D)(ρ:Env):Prop:=match d with
 | .lst l=>∀ x∈l,Safe x ρ
 | .dct _ vs=>∀ x∈vs,Safe x ρ
 | _=>False
def Sm.set (i:Nat)(e:Ex):Sm:=⟨fun ρ N _ X=>e.run ρ (fun d=>Safe d (ρ.set i .n)/\N (ρ.set i (.s d))) X,fun ρ N N' Q Q' X X' mn m mx q=>e.mono ρ _ _ X X' (fun d q1=>⟨q1.1,mn _ q1.2⟩) mx q⟩
def Sm.own (i:Nat)(e:Ex):Sm:=⟨fun ρ N _ X=>e.run ρ (fun d=>zdi d (ρ.set i .n)/\N (ρ.set i (.o d))) X,fun ρ N N' Q Q' X X' mn m mx q=>e.mono ρ _ _ X X' (fun d q1=>⟨q1.1,mn _ q1.2⟩) mx q⟩
def demB:B->B
 | .o d =>.s d
 | b=>b
def dem:List Nat->Env->Env
 | [],ρ=>ρ
 | j::js,ρ=>dem js (ρ.set j (demB ((ρ[j]?).getD .n)))
def visB:B->B
 | .o _ =>.n
 | b=>b
def vis (ρ:Env):Env:=ρ.map visB
def Sm.setx (js:List Nat)(i:Nat)(e:Ex):Sm:=⟨fun ρ N _ X=>e.run (vis (dem js ρ)) (fun d=>N ((dem js ρ).set i (.s d))) X,fun ρ N N' Q Q' X X' mn m mx q=>e.mono _ _ _ X X' (fun d q1=>mn _ q1) mx q⟩
def Sm.ifs (c:Ex)(a b:Sm):Sm:=⟨fun ρ N Q X=>c.run ρ (fun d=>tst d (a.run ρ N Q X) (b.run ρ N Q X)) X,fun ρ N N' Q Q' X X' mn m mx q=>c.mono ρ _ _ X X' (fun d q1=>z34 (a.mono ρ N N' Q Q' X X' mn m mx) (b.mono ρ N N' Q Q' X X' mn m mx) q1) mx q⟩
def Sm.ret (e:Ex):Sm:=⟨fun ρ _ Q X=>e.run ρ Q X,fun ρ N N' Q Q' X X' mn m mx q=>e.mono ρ _ _ X X' m mx q⟩
def Sm.retN:Sm:=⟨fun _ _ Q _=>Q .non,fun ρ N N' Q Q' X X' mn m mx q=>m _ q⟩
def Sm.ex (e:Ex):Sm:=⟨fun ρ N _ X=>e.run ρ (fun _=>N ρ) X,fun ρ N N' Q Q' X X' mn m mx q=>e.mono ρ _ _ X X' (fun _ q1=>mn _ q1) mx q⟩
def Sm.raise (x:Str):Sm:=⟨fun _ _ _ X=>X x,fun ρ N N' Q Q' X X' mn m mx q=>mx _ q⟩
def wh (c:Ex)(b:Sm)(N:Env->Prop)(Q:DK)(X:XP):Nat->Env->Prop
 | 0,_=>False
 | n+1,ρ=>c.run ρ (fun d=>tst d (b.run ρ (wh c b N Q X n) Q X) (N ρ)) X
def zap {c:Ex}{b:Sm}{N N':Env->Prop}{Q Q':DK}{X X':XP}(mn:∀ ρ,N ρ->N' ρ)(m:∀ d,Q d->Q' d)(mx:∀ x,X x->X' x):∀ (n:Nat) (ρ:Env),wh c b N Q X n ρ->wh c b N' Q' X' n ρ
 | 0,_,q=>q
 | n+1,ρ,q=>c.mono ρ _ _ X X' (fun d q1=>z34 (b.mono ρ _ _ Q Q' X X' (fun ρ' q2=>zap mn m mx n ρ' q2) m mx) (mn ρ) q1) mx q
def Sm.wh (c:Ex)(b:Sm):Sm:=⟨fun ρ N Q X=>∃ n,Pu.wh c b N Q X n ρ,fun ρ N N' Q Q' X X' mn m mx ⟨n,q⟩=>⟨n,zap mn m mx n ρ q⟩⟩
def forL (t:Tg)(b:Sm)(N:Env->Prop)(Q:DK)(X:XP):List D->Env->Prop
 | [],ρ=>N ρ
 | x::xs,ρ=>t.put x ρ fun ρ'=>b.run ρ' (forL t b N Q X xs) Q X
def z5D {t:Tg}{b:Sm}{N N':Env->Prop}{Q Q':DK}{X X':XP}(mn:∀ ρ,N ρ->N' ρ)(m:∀ d,Q d->Q' d)(mx:∀ x,X x->X' x):∀ (l:List D) (ρ:Env),forL t b N Q X l ρ->forL t b N' Q' X' l ρ
 | [],_,q=>mn _ q
 | x::xs,ρ,q=>Tg.put_mono (fun ρ' q1=>b.mono ρ' _ _ Q Q' X X' (fun ρ2 q2=>z5D mn m mx xs ρ2 q2) m mx q1) q
def Sm.for_ (js:List Nat)(t:Tg)(src:Ex)(b:Sm):Sm:=⟨fun ρ N Q X=>src.run (vis (dem js ρ)) (fun d=>onL (z05 d) fun l=>forL t b N Q X l (dem js ρ)) X,fun ρ N N' Q Q' X X' mn m mx q=>src.mono _ _ _ X X' (fun d q1=>z6O (fun l q2=>z5D mn m mx l _ q2) q1) mx q⟩
def onR (ds:List D)(K:List D->Prop):Prop:=match ds with
 | [.int j]=>(-(2 ^ 62)<=j/\j < 2 ^ 62)/\K ((List.range j.toNat).map fun(k:Nat) =>.int (k:Int))
 | [.int i,.int j]=>((-(2 ^ 62)<=i/\i < 2 ^ 62) /\ -(2 ^ 62)<=j/\j < 2 ^ 62)/\K ((List.range (j - i).toNat).map fun(k:Nat) =>.int (i+(k:Int)))
 | _=>False
def z9t {ds:List D}{K K':List D->Prop}(m:∀ l,K l->K' l)(h:onR ds K):onR ds K':=by
 unfold onR at h ⊢
 split at h
 ·exact⟨h.1,m _ h.2⟩
 ·exact⟨h.1,m _ h.2⟩
 ·exact h.elim
def Sm.forr (es:List Ex)(t:Tg)(b:Sm):Sm:=⟨fun ρ N Q X=>runs es ρ (fun ds=>onR ds fun l=>forL t b N Q X l ρ) X,fun ρ N N' Q Q' X X' mn m mx q=>z3o es ρ _ _ X X' (fun d q1=>z9t (fun l q2=>z5D mn m mx l _ q2) q1) mx q⟩
def ownL (ρ:Env)(i:Nat)(K:List D->Prop):Prop:=match ρ[i]? with
 | some (.o (.lst l))=>K l
 | _=>False
def z7N {ρ:Env}{i:Nat}{K K':List D->Prop}(m:∀ l,K l->K' l)(h:ownL ρ i K):ownL ρ i K':=by
 unfold ownL at h ⊢
 split <;> rename_i e
 ·rw[e] at h; exact m _ h
 ·split at h
  ·rename_i l e'; exact(e l e').elim
  ·exact h
def Sm.app (i:Nat)(e:Ex):Sm:=⟨fun ρ N _ X=>ownL ρ i fun l=>e.run ρ (fun d=>l.length < sizeLine/\Safe d ρ/\N (ρ.set i (.o (.lst (l++[d]))))) X,fun ρ N N' Q Q' X X' mn m mx q=>z7N (fun l q1=>e.mono ρ _ _ X X' (fun d q2=>⟨q2.1,q2.2.1,mn _ q2.2.2⟩) mx q1) q⟩
def popL (l:List D)(K:List D->D->Prop):Prop:=match l[l.length - 1]? with
 | some d=>K l.dropLast d
 | none=>False
def zb2 {l:List D}{K K':List D->D->Prop}(m:∀ l d,K l d->K' l d)(h:popL l K):popL l K':=by
 unfold popL at h ⊢
 split <;> rename_i e
 ·rw[e] at h; exact m _ _ h
 ·rw[e] at h; exact h
def Sm.pop (i:Nat):Sm:=⟨fun ρ N _ _=>ownL ρ i fun l=>popL l fun l' _=>N (ρ.set i (.o (.lst l'))),fun ρ N N' Q Q' X X' mn m mx q=>z7N (fun l q1=>zb2 (fun _ _ q2=>mn _ q2) q1) q⟩
def isLs (d:D)(K:List D->Prop):Prop:=match d with
 | .lst l=>K l
 | _=>False
def zbr {d:D}{K K':List D->Prop}(m:∀ j,K j->K' j)(h:isLs d K):isLs d K':=by
 cases d with
 | lst l=>exact m _ h
 | _=>exact h.elim
def isI (d:D)(K:Int->Prop):Prop:=match d with
 | .int i=>K i
 | _=>False
def z6Y {d:D}{K K':Int->Prop}(m:∀ j,K j->K' j)(h:isI d K):isI d K':=by
 cases d with
 | int i=>exact m _ h
 | _=>exact h.elim
def Fn.mk' (np nn:Nat)(b:Sm):Fn:=⟨fun ds Q X=>ds.length=np/\b.run (ds.map B.s++List.replicate (nn - np) .n) (fun _=>Q .non) Q X,fun ds Q Q' X X' m mx q=>⟨q.1,b.mono _ _ _ Q Q' X X' (fun _ q1=>m _ q1) m mx q.2⟩⟩
def Fn.mkN (np nn:Nat)(b:Sm):Fn:=⟨fun ds Q _=>ds.length=np/\b.run (ds.map B.s++List.replicate (nn - np) .n) (fun _=>Q .non) Q (fun _=>False),fun ds Q Q' X X' m mx q=>⟨q.1,b.mono _ _ _ Q Q' _ _ (fun _ q1=>m _ q1) m (fun _ z=>z) q.2⟩⟩
def Sm.calm (b:Sm):Sm:=⟨fun ρ N Q _=>b.run ρ N Q (fun _=>False),fun ρ N N' Q Q' X X' mn m mx q=>b.mono ρ N N' Q Q' _ _ mn m (fun _ z=>z) q⟩
end Pu
namespace Pu
open PySem PySem.Spec PyProof.Rows L2
def AbE (K:W.Frag)(mg:Str->Option Value)(G:Hp)(ρ:Pu.Env)(σ:L2.St):Prop:=∀ i d,ρ.get i=some d->∃ v,σ[i]? = some (some v)/\RD K mg G d v
def Gr (G H G':Hp):Prop:=Same G G'/\∀ a o,G' a=some o->(∃ u,G a=some u)\/H a=none
def Gr.refl {G H:Hp}:Gr G H G:=⟨Same.refl',fun a o e =>.inl ⟨o,e⟩⟩
def Gr.trans {G H G1 H1 G2:Hp}(h:Gr G H G1)(k:Same H H1)(h':Gr G1 H1 G2):Gr G H G2:=⟨z07 h.1 h'.1,fun a o e=>by
 rcases h'.2 a o e with ⟨u,q⟩ | q
 ·exact h.2 a u q
 ·refine .inr ?_
  cases z:H a with
  | none=>rfl
  | some w=>rw[k a w z] at q; cases q⟩
def Gr.new {G H:Hp}{p:Addr}{o:HO}(g:Same G H)(hp:H p=none):Gr G H (upd G p o):=by
 have gp:G p=none:=by
  cases e:G p with
  | none=>rfl
  | some u=>rw[g p u e] at hp; cases hp
 refine⟨z0D gp o,fun a u e => ?_⟩
 by_cases ha:a=p
 ·subst ha; exact .inr hp
 ·rw[z09 ha] at e; exact .inl ⟨u,e⟩
def Kt (K:W.Frag)(mg:Str->Option Value)(G H:Hp)(Q0:DK)(Q:VK):Prop:=∀ d v G' H',Q0 d->Gr G H G'->Same G' H'->Same H H'->RD K mg G' d v->Q v H'
def Kts (K:W.Frag)(mg:Str->Option Value)(G H:Hp)(Q0:List D->Prop)(Q:List V->Hp->Prop):Prop:=∀ ds vs G' H',Q0 ds->Gr G H G'->Same G' H'->Same H H'->RDs K mg G' ds vs->Q vs H'
def Kx (mg:Str->Option Value)(H:Hp)(X0:XP)(E:XK):Prop:=∀ x C H',X0 x->mg x=some (.ref C)->Same H H'->E (.ref C) none H'
def tx (K:W.Frag)(mg:Str->Option Value)(E:XK)(e:Ex):TE:=fun σ H Q=>∃ G ρ Q0 X0,Same G H/\AbE K mg G ρ σ/\e.run ρ Q0 X0/\Kt K mg G H Q0 Q/\Kx mg H X0 E
def txa (K:W.Frag)(mg:Str->Option Value)(E:XK)(es:List Ex):TA:=fun σ H Q=>∃ G ρ Q0 X0,Same G H/\AbE K mg G ρ σ/\runs es ρ Q0 X0/\Kts K mg G H Q0 Q/\Kx mg H X0 E
def tt (K:W.Frag)(mg:Str->Option Value)(E:XK)(e:Ex):TT:=fun σ H Q=>∃ G ρ Q0 X0,Same G H/\AbE K mg G ρ σ/\e.run ρ Q0 X0/\(∀ d G' H',Q0 d->Gr G H G'->Same G' H'->Same H H'->∃ b,d = .bl b/\Q b H')/\Kx mg H X0 E
section
variable {K:W.Frag}{mg:Str->Option Value}{G G' H H':Hp}{ρ:Pu.Env}{σ:L2.St}{Q0:DK}{Q:VK}{X0:XP}{E:XK}
def AbE.same (h:AbE K mg G ρ σ)(g:Same G G'):AbE K mg G' ρ σ:=fun i d e=>by
 obtain⟨v,h1,h2⟩:=h i d e
 exact⟨v,h1,h2.same g⟩
def Kt.same (h:Kt K mg G H Q0 Q)(g:Gr G H G')(k:Same H H'):Kt K mg G' H' Q0 Q:=fun d v G1 H1 q a b c r=>h d v G1 H1 q (g.trans k a) b (z07 k c) r
def Kx.same (h:Kx mg H X0 E)(k:Same H H'):Kx mg H' X0 E:=fun x C H1 q m c=>h x C H1 q m (z07 k c)
def Kx.no {E:XK}:Kx mg H (fun _=>False) E:=fun _ _ _ z=>z.elim
def Kt.now {d:D}{v:V}(h:Kt K mg G H Q0 Q)(g:Same G H)(q:Q0 d)(r:RD K mg G d v):Q v H:=h d v G H q Gr.refl g Same.refl' r
def Kt.new {d:D}{p:Addr}{o:HO}{v:V}(h:Kt K mg G H Q0 Q)(g:Same G H)(hp:H p=none)(q:Q0 d)(r:RD K mg (upd G p o) d v):Q v (upd H p o):=by
 have gp:G p=none:=by
  cases e:G p with
  | none=>rfl
  | some u=>rw[g p u e] at hp; cases hp
 refine h d v (upd G p o) (upd H p o) q (Gr.new g hp) (fun b u e => ?_) (z0D hp o) r
 by_cases hb:b=p
 ·subst hb; rw[z0i] at e ⊢; exact e
 ·rw[z09 hb] at e ⊢; exact g b u e
def z22 (g:Same G H){p:Addr}(hp:H p=none):G p=none:=by
 cases e:G p with
 | none=>rfl
 | some u=>rw[g p u e] at hp; cases hp
end
def Lk2 (K:W.Frag)(mg:Str->Option Value)(F:Fn)(r:R2):Prop:=∀ (G H:Hp) (d1 d2:D) (v1 v2:V) (Q0:DK) (X0:XP) (Q:VK),Same G H->RD K mg G d1 v1->RD K mg G d2 v2->F.run [d1,d2] Q0 X0->Kt K mg G H Q0 Q->r v1 v2 H Q
def Lk1 (K:W.Frag)(mg:Str->Option Value)(F:Fn)(r:V->Hp->VK->Prop):Prop:=∀ (G H:Hp) (d:D) (v:V) (Q0:DK) (X0:XP) (Q:VK),Same G H->RD K mg G d v->F.run [d] Q0 X0->Kt K mg G H Q0 Q->r v H Q
def LkN (K:W.Frag)(mg:Str->Option Value)(F:Fn)(r:List V->Hp->VK->Prop):Prop:=∀ (G H:Hp) (ds:List D) (vs:List V) (Q0:DK) (X0:XP) (Q:VK),Same G H->RDs K mg G ds vs->F.run ds Q0 X0->Kt K mg G H Q0 Q->r vs H Q
section
variable {K:W.Frag}{mg:Str->Option Value}{E:XK}{σ:L2.St}{H:Hp}{Q:VK}{a b c:Ex}{F:Fn}{es:List Ex}
def tx2 {r:R2}(lk:Lk2 K mg F r)(h:tx K mg E (.op F [a,b]) σ H Q):tOp r (tx K mg E a) (tx K mg E b) σ H Q:=by
 obtain⟨G,ρ,Q0,X0,hs,ab,hr,hk,hx⟩:=h
 refine⟨G,ρ,fun d=>b.run ρ (fun d'=>F.run [d,d'] Q0 X0) X0,X0,hs,ab,hr,?_,hx⟩
 intro d v G1 H1 hb g1 g2 g3 rd
 refine⟨G1,ρ,fun d'=>F.run [d,d'] Q0 X0,X0,g2,ab.same g1.1,hb,?_,hx.same g3⟩
 intro d' v' G2 H2 hF k1 k2 k3 rd'
 exact lk G2 H2 d d' v v' Q0 X0 Q k2 (rd.same k1.1) rd' hF (hk.same (g1.trans g3 k1) (z07 g3 k3))
def tx1 {r:V->Hp->VK->Prop}(lk:Lk1 K mg F r)(h:tx K mg E (.op F [a]) σ H Q):tUn r (tx K mg E a) σ H Q:=by
 obtain⟨G,ρ,Q0,X0,hs,ab,hr,hk,hx⟩:=h
 refine⟨G,ρ,fun d=>F.run [d] Q0 X0,X0,hs,ab,hr,?_,hx⟩
 intro d v G1 H1 hF g1 g2 g3 rd
 exact lk G1 H1 d v Q0 X0 Q g2 rd hF (hk.same g1 g3)
def txN {r:List V->Hp->VK->Prop}(lk:LkN K mg F r)(h:tx K mg E (.op F es) σ H Q):tCB r (txa K mg E es) σ H Q:=by
 obtain⟨G,ρ,Q0,X0,hs,ab,hr,hk,hx⟩:=h
 refine⟨G,ρ,fun ds=>F.run ds Q0 X0,X0,hs,ab,hr,?_,hx⟩
 intro ds vs G1 H1 hF g1 g2 g3 rd
 exact lk G1 H1 ds vs Q0 X0 Q g2 rd hF (hk.same g1 g3)
end
def QE.imp {X:Cx}{e:Expr}{t t':TE}(h:QE X e t)(i:∀ σ H Q,t' σ H Q->t σ H Q):QE X e t':=⟨h.p.imp i⟩
def QT.imp {X:Cx}{e:Expr}{t t':TT}(h:QT X e t)(i:∀ σ H Q,t' σ H Q->t σ H Q):QT X e t':=⟨fun pins s σ H Q I q=>h.p pins s σ H Q I (i σ H Q q)⟩
def QA.imp {X:Cx}{e:List Expr}{t t':TA}(h:QA X e t)(i:∀ σ H Q,t' σ H Q->t σ H Q):QA X e t':=⟨fun pos pins s σ H Q I q=>h.p pos pins s σ H Q I (i σ H Q q)⟩
def QW.imp {X:Cx}{e:Expr}{t t':TT}(h:QW X e t)(i:∀ σ H Q,t' σ H Q->t σ H Q):QW X e t':=⟨fun w pins s σ H Q I q=>h.p w pins s σ H Q I (i σ H Q q)⟩
def QS.imp {X:Cx}{e:Stmt}{t t':TS}(h:QS X e t)(i:∀ D σ H,t' D σ H->t D σ H):QS X e t':=⟨fun pins s σ H D I q=>h.p pins s σ H D I (i D σ H q)⟩
def QSs.imp {X:Cx}{e:List Stmt}{t t':TS}(h:QSs X e t)(i:∀ D σ H,t' D σ H->t D σ H):QSs X e t':=⟨fun pins s σ H D I q=>h.p pins s σ H D I (i D σ H q)⟩
def QI.imp {X:Cx}{tg e:Expr}{t t':TI}(h:QI X tg e t)(i:∀ σ H R,t' σ H R->t σ H R):QI X tg e t':=⟨fun pins s σ H R I q=>h.p pins s σ H R I (i σ H R q)⟩
abbrev QX (X:Cx)(E:XK)(e:Expr)(x:Ex):Prop:=QE X e (tx X.K X.mg E x)
abbrev QXT (X:Cx)(E:XK)(e:Expr)(x:Ex):Prop:=QT X e (tt X.K X.mg E x)
abbrev QXW (X:Cx)(E:XK)(e:Expr)(x:Ex):Prop:=QW X e (tt X.K X.mg E x)
abbrev QXA (X:Cx)(E:XK)(es:List Expr)(x:List Ex):Prop:=QA X es (txa X.K X.mg E x)
section
variable {X:Cx}{E:XK}{e a b c:Expr}{x y z:Ex}{pos:Pos}{es:List Expr}{xs:List Ex}{rest:List Expr}
def qx_c {d:D}{v:V}(h:QE X e (tC v))(r:∀ G,RD X.K X.mg G d v):QX X E e (.c d):=QE.imp h fun σ H Q ⟨G,ρ,Q0,X0,hs,ab,hr,hk,hx⟩=>hk.now hs hr (r G)
def qx_v {i:Nat}(h:QE X e (tVar i)):QX X E e (.v i):=QE.imp h fun σ H Q ⟨G,ρ,Q0,X0,hs,ab,hr,hk,hx⟩=>by
 have hr':onV (ρ.get i) Q0:=hr
 cases q:ρ.get i with
 | none=>rw[q] at hr'; exact hr'.elim
 | some d=>
  rw[q] at hr'
  obtain⟨v,h1,h2⟩:=ab i d q
  exact⟨v,h1,hk.now hs hr' h2⟩
def z02 {i:Int}{j:Nat}:QX X E (.Constant (.int i) j pos) (.c (.int i)):=qx_c zfO fun _=>by rw[RD]
def z4C {i:Bool}{j:Nat}:QX X E (.Constant (.bool i) j pos) (.c (.bl i)):=qx_c zhQ fun _=>by rw[RD]
def z03 {op:Operator}{F:Fn}{r:R2}(ho:OpR X (binaryOp op) r)(lk:Lk2 X.K X.mg F r)(ha:QX X E a x)(hb:QX X E b y):QX X E (.BinOp a op b pos) (.op F [x,y]):=QE.imp (zhM ho ha hb) fun _ _ _ h=>tx2 lk h
def zaU {op:UnaryOp}{F:Fn}{r:V->Hp->VK->Prop}(ho:UnR X (unaryOp op) r)(lk:Lk1 X.K X.mg F r)(ha:QX X E a x):QX X E (.UnaryOp op a pos) (.op F [x]):=QE.imp (zhK ho ha) fun _ _ _ h=>tx1 lk h
def z4U {op:CmpOp}{F:Fn}{r:R2}(ho:OpR X (compareOp op) r)(lk:Lk2 X.K X.mg F r)(ha:QX X E a x)(hb:QX X E b y)(hm:behindInMarks op b=false):QX X E (.Compare a [op] [b] pos) (.op F [x,y]):=QE.imp (ze9 ho ha hb hm) fun _ _ _ h=>tx2 lk h
def zdM {t:TE}{σ:L2.St}{H:Hp}{Q:Bool->Hp->Prop}(m:∀ Q,tx X.K X.mg E x σ H Q->t σ H Q)(h:tt X.K X.mg E x σ H Q):zdR t σ H Q:=by
 obtain⟨G,ρ,Q0,X0,hs,ab,hr,hk,hx⟩:=h
 refine m _ ⟨G,ρ,Q0,X0,hs,ab,hr,fun d v G' H' q g1 g2 g3 rd => ?_,hx⟩
 obtain⟨b,rfl,q'⟩:=hk d G' H' q g1 g2 g3
 rw[RD] at rd
 exact⟨b,rd,q'⟩
def z1f {op:CmpOp}{F:Fn}{r:R2}(ho:OpR X (compareOp op) r)(lk:Lk2 X.K X.mg F r)(ha:QX X E a x)(hb:QX X E b y)(hm:behindInMarks op b=false):QXT X E (.Compare a [op] [b] pos) (.op F [x,y]):=QT.imp (ze4 ho ha hb hm) fun σ H Q h=>zdM (fun _ h=>tx2 lk h) h
def z3b (h:QX X E e x)(he:∀ whole,isTrue e X.env whole=(do let v <- whole; standAt e.pos; holding [v] (truthy v)):=by intro _; rfl):QXT X E e x:=QT.imp (zfG h he) fun σ H Q h=>by
 obtain⟨G,ρ,Q0,X0,hs,ab,hr,hk,hx⟩:=h
 refine⟨G,ρ,Q0,X0,hs,ab,hr,fun d v G' H' q g1 g2 g3 rd => ?_,hx⟩
 obtain⟨b,rfl,q'⟩:=hk d G' H' q g1 g2 g3
 rw[RD] at rd
 exact⟨b,rd,q'⟩
def zfC (ha:QX X E a x):QX X E (.UnaryOp .Not a pos) (.not x):=QE.imp (zfL ha) fun σ H Q ⟨G,ρ,Q0,X0,hs,ab,hr,hk,hx⟩=>by
 refine⟨G,ρ,_,X0,hs,ab,hr,fun d v G' H' q g1 g2 g3 rd => ?_,hx⟩
 cases d with
 | bl b=>
  rw[RD] at rd
  exact⟨b,rd,hk (.bl !b) (.bl !b) G' H' q g1 g2 g3 (by rw[RD])⟩
 | _=>exact q.elim
def z3a (ha:QXT X E a x):QXT X E (.UnaryOp .Not a pos) (.not x):=QT.imp (zfH ha) fun σ H Q ⟨G,ρ,Q0,X0,hs,ab,hr,hk,hx⟩=>by
 refine⟨G,ρ,_,X0,hs,ab,hr,fun d G' H' q g1 g2 g3 => ?_,hx⟩
 cases d with
 | bl b=>
  obtain⟨b',e,q'⟩:=hk (.bl !b) G' H' q g1 g2 g3
  cases e
  exact⟨b,rfl,q'⟩
 | _=>exact q.elim
def z7D {op}(h:QX X E a x):QX X E (.BoolOp op [a] pos) x:=zfK h
def z9l (ha:QX X E a x)(hb:QX X E (.BoolOp .And (b::rest) pos) y):QX X E (.BoolOp .And (a::b::rest) pos) (.and x y):=QE.imp (zfQ ha hb) fun σ H Q ⟨G,ρ,Q0,X0,hs,ab,hr,hk,hx⟩=>by
 refine⟨G,ρ,_,X0,hs,ab,hr,fun d v G' H' q g1 g2 g3 rd => ?_,hx⟩
 obtain⟨k,rfl,q1,q2⟩:=z6c q
 rw[RD] at rd
 refine⟨k,rd,?_⟩
 cases k with
 | true=>exact iteT ⟨G',ρ,Q0,X0,g2,ab.same g1.1,q1 rfl,hk.same g1 g3,hx.same g3⟩
 | false=>exact iteF (hk (.bl false) (.bl false) G' H' (q2 rfl) g1 g2 g3 (by rw[RD]))
def zhG (ha:QX X E a x)(hb:QX X E (.BoolOp .Or (b::rest) pos) y):QX X E (.BoolOp .Or (a::b::rest) pos) (.or x y):=QE.imp (zhL ha hb) fun σ H Q ⟨G,ρ,Q0,X0,hs,ab,hr,hk,hx⟩=>by
 refine⟨G,ρ,_,X0,hs,ab,hr,fun d v G' H' q g1 g2 g3 rd => ?_,hx⟩
 obtain⟨k,rfl,q1,q2⟩:=z6c q
 rw[RD] at rd
 refine⟨k,rd,?_⟩
 cases k with
 | true=>exact iteT (hk (.bl true) (.bl true) G' H' (q1 rfl) g1 g2 g3 (by rw[RD]))
 | false=>exact iteF ⟨G',ρ,Q0,X0,g2,ab.same g1.1,q2 rfl,hk.same g1 g3,hx.same g3⟩
def z4e (ha:QXT X E a x):QXW X E (.BoolOp .And [a] pos) x:=ze3 ha
def z6J (ha:QXT X E a x):QXW X E (.BoolOp .Or [a] pos) x:=zfE ha
def z5k (ha:QXT X E a x)(hb:QXW X E (.BoolOp .And (b::rest) pos) y):QXW X E (.BoolOp .And (a::b::rest) pos) (.and x y):=QW.imp (zfF ha hb) fun σ H Q ⟨G,ρ,Q0,X0,hs,ab,hr,hk,hx⟩=>by
 refine⟨G,ρ,_,X0,hs,ab,hr,fun d G' H' q g1 g2 g3 => ?_,hx⟩
 obtain⟨k,rfl,q1,q2⟩:=z6c q
 refine⟨k,rfl,?_⟩
 cases k with
 | true=>exact iteT ⟨G',ρ,Q0,X0,g2,ab.same g1.1,q1 rfl,fun d G2 H2 q k1 k2 k3=>hk d G2 H2 q (g1.trans g3 k1) k2 (z07 g3 k3),hx.same g3⟩
 | false=>
  obtain⟨b',e,q'⟩:=hk (.bl false) G' H' (q2 rfl) g1 g2 g3
  cases e
  exact iteF q'
def z7F (ha:QXT X E a x)(hb:QXW X E (.BoolOp .Or (b::rest) pos) y):QXW X E (.BoolOp .Or (a::b::rest) pos) (.or x y):=QW.imp (zhH ha hb) fun σ H Q ⟨G,ρ,Q0,X0,hs,ab,hr,hk,hx⟩=>by
 refine⟨G,ρ,_,X0,hs,ab,hr,fun d G' H' q g1 g2 g3 => ?_,hx⟩
 obtain⟨k,rfl,q1,q2⟩:=z6c q
 refine⟨k,rfl,?_⟩
 cases k with
 | false=>exact iteF ⟨G',ρ,Q0,X0,g2,ab.same g1.1,q2 rfl,fun d G2 H2 q k1 k2 k3=>hk d G2 H2 q (g1.trans g3 k1) k2 (z07 g3 k3),hx.same g3⟩
 | true=>
  obtain⟨b',e,q'⟩:=hk (.bl true) G' H' (q1 rfl) g1 g2 g3
  cases e
  exact iteT q'
def z04:QXA X E [] []:=QA.imp z9n fun σ H Q ⟨G,ρ,Q0,X0,hs,ab,hr,hk,hx⟩=>hk [] [] G H hr Gr.refl hs Same.refl' RDs.nil
def z01 (ha:QX X E e x)(hr:QXA X E es xs)(hs:starEach (e::es) X.env=(false,eval e X.env)::starEach es X.env:=by rfl):QXA X E (e::es) (x::xs):=QA.imp (z5o ha hr hs) fun σ H Q ⟨G,ρ,Q0,X0,hs,ab,hr,hk,hx⟩=>by
 refine⟨G,ρ,_,X0,hs,ab,hr,fun d v G' H' q g1 g2 g3 rd => ?_,hx⟩
 refine⟨G',ρ,_,X0,g2,ab.same g1.1,q,fun ds vs G2 H2 q' k1 k2 k3 rds => ?_,hx.same g3⟩
 exact hk (d::ds) (v::vs) G2 H2 q' (g1.trans g3 k1) k2 (z07 g3 k3) (RDs.cons (rd.same k1.1) rds)
def spP (K:W.Frag)(mg:Str->Option Value)(F:Fn):Sp:=fun vs H Q E=>∃ G ds Q0 X0,Same G H/\RDs K mg G ds vs/\F.run ds Q0 X0/\Kt K mg G H Q0 Q/\Kx mg H X0 E
def z0T {CX:CXT}{k:Nat}{ps:List Str}{F:Fn}{f:Str}{pp:Pos}(C:Cal X.prog X.w X.K X.mg X.base CX k f ps (spP X.K X.mg F))(hr:Room k X.A)(hx:z54 CX X E)(ha:QXA X E (e::es) xs)(hg:Gl X f:=by rfl)
  (hdb:(f == ("__debug__":Str))=false:=by decide) (he:starEach (e::es) X.env=(false,eval e X.env)::starEach es X.env:=by rfl) (hpl:(backTo pos (starEach es X.env)).any (·.1)=false:=by rfl):QX X E (.Call (.Name f pp) (e::es) [] pos) (.op F xs):=
 QE.imp (zhO C hr hx ha hg hdb he hpl) fun σ H Q ⟨G,ρ,Q0,X0,hs,ab,hr,hk,hx⟩=>by
  refine⟨G,ρ,_,X0,hs,ab,hr,fun ds vs G' H' q g1 g2 g3 rds => ?_,hx⟩
  show spP X.K X.mg F (vs++[]) H' Q E
  rw[List.append_nil]
  exact⟨G',ds,Q0,X0,g2,rds,q,hk.same g1 g3,hx.same g3⟩
def z2Z {f:Str}{pp:Pos}{id:String}{F:Fn}{r:List V->Hp->VK->Prop}(hc:z1T X (.builtin id) r)(lk:LkN X.K X.mg F r)(hg:Gl X f)(hm:X.mg f=none)(hv:bootBuiltins f=some (.builtin id))(ha:QXA X E (e::es) xs)(hn:f≠"__name__":=by decide)(hdb:(f == ("__debug__":Str))=false:=by decide)
  (he:starEach (e::es) X.env=(false,eval e X.env)::starEach es X.env:=by rfl) (hpl:(backTo pos (starEach es X.env)).any (·.1)=false:=by rfl):QX X E (.Call (.Name f pp) (e::es) [] pos) (.op F xs):=
 QE.imp (z6K hc hg hm hv ha hn hdb he hpl) fun _ _ _ h=>txN lk h
def z9k {f:Str}{pp:Pos}{id:String}{F:Fn}{r:List V->Hp->VK->Prop}(hc:z1T X (.type id) r)(lk:LkN X.K X.mg F r)(hg:Gl X f)(hm:X.mg f=none)(hv:bootBuiltins f=some (.type id))(ha:QXA X E (e::es) xs)(hn:f≠"__name__":=by decide)(hdb:(f == ("__debug__":Str))=false:=by decide)
  (he:starEach (e::es) X.env=(false,eval e X.env)::starEach es X.env:=by rfl) (hpl:(backTo pos (starEach es X.env)).any (·.1)=false:=by rfl):QX X E (.Call (.Name f pp) (e::es) [] pos) (.op F xs):=
 QE.imp (z4f hc hg hm hv ha hn hdb he hpl) fun _ _ _ h=>txN lk h
end
def z5O (K:W.Frag)(mg:Str->Option Value)(G H:Hp)(a:Addr):D->Prop
 | .lst ds=>∃ xs,H a=some (.lst xs)/\RDs K mg G ds xs
 | .dct ks vs=>∃ xs,RDs K mg G vs xs/\((∃ kvs:List (Key × V),H a=some (.dK kvs)/\ks=kvs.map (fun p=>kD p.1)/\xs=kvs.map (·.2))\/∃ kvs:List (List Key × V),H a=some (.dT kvs)/\ks=kvs.map (fun p =>.tup (p.1.map kD))/\xs=kvs.map (·.2))
 | _=>False
structure AbS (K:W.Frag)(mg:Str->Option Value)(H0 G0 G:Hp)(ρ:Pu.Env)(σ:L2.St)(H:Hp):Prop where
 len:σ.length=ρ.length
 s0:Same H0 H
 g0:Same G0 G
 g:Same G H
 nw:∀ a o,G a=some o->(∃ u,G0 a=some u)\/H0 a=none
 sh:∀ (i:Nat) (d:D),ρ[i]? = some (B.s d)->∃ v,σ[i]? = some (some v)/\RD K mg G d v
 ow:∀ (i:Nat) (d:D),ρ[i]? = some (B.o d)->∃ a,σ[i]? = some (some (V.ref a))/\G a=none/\H0 a=none/\z5O K mg G H a d
 ne:∀ (i j:Nat) (d d':D) (a:Addr),i≠j->ρ[i]? = some (B.o d)->ρ[j]? = some (B.o d')->σ[i]? = some (some (V.ref a))->σ[j]? = some (some (V.ref a))->False
open Classical in
def plus (G H:Hp)(O:Addr->Prop):Hp:=fun a=>if O a then H a else G a
open Classical in
def minus (G:Hp)(O:Addr->Prop):Hp:=fun a=>if O a then none else G a
section
variable {K:W.Frag}{mg:Str->Option Value}{H0 G0 G G' H H' H1:Hp}{ρ:Pu.Env}{σ:L2.St}{O:Addr->Prop}
def z4F (g:Same G H):Same (plus G H O) H:=fun a o e=>by
 unfold plus at e
 split at e
 ·exact e
 ·exact g a o e
def z3e (h:∀ a,O a->G a=none):Same G (plus G H O):=fun a o e=>by
 unfold plus
 split
 ·rename_i z; rw[h a z] at e; cases e
 ·exact e
def zb3 {a:Addr}(h:O a):plus G H O a=H a:=by unfold plus; rw[if_pos h]
def z2C:Same (minus G O) G:=fun a o e=>by
 unfold minus at e
 split at e
 ·cases e
 ·exact e
def z59 {a:Addr}(h:O a):minus G O a=none:=by unfold minus; rw[if_pos h]
def z7X {a:Addr}(h:¬ O a):minus G O a=G a:=by unfold minus; rw[if_neg h]
def z4m (g:Same G G')(h:∀ a,O a->G a=none):Same G (minus G' O):=fun a o e=>by
 by_cases z:O a
 ·rw[h a z] at e; cases e
 ·rw[z7X z]; exact g a o e
def z5O.same {a:Addr}{d:D}(h:z5O K mg G H a d)(g:Same G G')(k:∀ o,H a=some o->H1 a=some o):z5O K mg G' H1 a d:=by
 cases d with
 | lst ds=>
  obtain⟨xs,h1,h2⟩:=h
  exact⟨xs,k _ h1,h2.same g⟩
 | dct ks vs=>
  obtain⟨xs,h1,h2⟩:=h
  refine⟨xs,h1.same g,?_⟩
  rcases h2 with ⟨kvs,q,r⟩ | ⟨kvs,q,r⟩
  ·exact .inl ⟨kvs,k _ q,r⟩
  ·exact .inr ⟨kvs,k _ q,r⟩
 | _=>exact h.elim
def z5O.some {a:Addr}{d:D}(h:z5O K mg G H a d):∃ o,H a=some o:=by
 cases d with
 | lst ds=>obtain⟨xs,h1,h2⟩:=h; exact⟨_,h1⟩
 | dct ks vs=>
  obtain⟨xs,h1,h2⟩:=h
  rcases h2 with ⟨kvs,q,r⟩ | ⟨kvs,q,r⟩ <;> exact⟨_,q⟩
 | _=>exact h.elim
def z5O.rd {a:Addr}{d:D}(h:z5O K mg G H a d)(g:Same G G')(e:G' a=H a):RD K mg G' d (.ref a):=by
 cases d with
 | lst ds=>
  obtain⟨xs,h1,h2⟩:=h
  rw[RD]
  exact⟨a,xs,rfl,SqL.of (e.trans h1),h2.same g⟩
 | dct ks vs=>
  obtain⟨xs,h1,h2⟩:=h
  rw[RD]
  refine⟨a,xs,rfl,h1.same g,?_⟩
  rcases h2 with ⟨kvs,q,r⟩ | ⟨kvs,q,r⟩
  ·exact .inl ⟨kvs,e.trans q,r⟩
  ·exact .inr ⟨kvs,e.trans q,r⟩
 | _=>exact h.elim
def OK1 (G:Hp)(O:Addr->Prop)(bL bD:Prop):Prop:=∀ a,O a->G a=none\/((∃ xs,G a=some (.lst xs))/\bL)\/(((∃ kvs,G a=some (.dK kvs))\/∃ kvs,G a=some (.dT kvs))/\bD)
def z3d {a:Addr}{o u:HO}{bL bD:Prop}(hO:OK1 G O bL bD)(h:G a=some o)(h1:∀ xs,o = .lst xs->¬ bL)(h2:∀ k,o = .dK k->¬ bD)(h3:∀ k,o = .dT k->¬ bD):minus G O a=some o:=by
 by_cases z:O a
 ·rcases hO a z with q | ⟨⟨xs,q⟩,b⟩ | ⟨⟨k,q⟩ | ⟨k,q⟩,b⟩
  ·rw[q] at h; cases h
  ·rw[q] at h; cases h; exact(h1 _ rfl b).elim
  ·rw[q] at h; cases h; exact(h2 _ rfl b).elim
  ·rw[q] at h; cases h; exact(h3 _ rfl b).elim
 ·rw[z7X z]; exact h
mutual
def RD.minus {bL bD:Prop}(hO:OK1 G O bL bD):∀ (d:D) {v:V},(bL->noL d=true)->(bD->noD d=true)->RD K mg G d v->RD K mg (Pu.minus G O) d v
 | .non,_,_,_,h=>by simpa[RD] using h
 | .bl _,_,_,_,h=>by simpa[RD] using h
 | .int _,_,_,_,h=>by simpa[RD] using h
 | .str _,_,_,_,h=>by simpa[RD] using h
 | .fn _,_,_,_,h=>by rw[RD] at h ⊢; exact h
 | .exc _,_,_,_,h=>by
  rw[RD] at h ⊢
  obtain⟨ea,C,h1,h2,h3⟩:=h
  exact⟨ea,C,h1,z3d (u :=.lst []) hO h2 (fun _ z=>by cases z) (fun _ z=>by cases z) (fun _ z=>by cases z),h3⟩
 | .tup ds,_,nl,nd,h=>by
  rw[RD] at h ⊢
  obtain⟨a,xs,h1,h2,h3⟩:=h
  refine⟨a,xs,h1,?_,RDs.minus hO ds (fun b=>by have:=nl b; rwa [noL] at this) (fun b=>by have:=nd b; rwa [noD] at this) h3⟩
  rcases h2 with (h2 | ⟨o,h2⟩) | h2
  ·exact .inl (.inl (z3d (u :=.lst []) hO h2 (fun _ z=>by cases z) (fun _ z=>by cases z) (fun _ z=>by cases z)))
  ·exact .inl (.inr ⟨o,z3d (u :=.lst []) hO h2 (fun _ z=>by cases z) (fun _ z=>by cases z) (fun _ z=>by cases z)⟩)
  ·exact .inr h2
 | .lst ds,_,nl,nd,h=>by
  rw[RD] at h ⊢
  obtain⟨a,xs,h1,h2,h3⟩:=h
  have nb:¬ bL:=fun b=>by have:=nl b; rw[noL] at this; cases this
  refine⟨a,xs,h1,?_,RDs.minus hO ds (fun b=>(nb b).elim) (fun b=>by have:=nd b; rwa [noD] at this) h3⟩
  rcases h2 with (h2 | ⟨o,h2⟩) | h2
  ·exact .inl (.inl (z3d (u :=.lst []) hO h2 (fun _ _=>nb) (fun _ z=>by cases z) (fun _ z=>by cases z)))
  ·exact .inl (.inr ⟨o,z3d (u :=.lst []) hO h2 (fun _ z=>by cases z) (fun _ z=>by cases z) (fun _ z=>by cases z)⟩)
  ·exact .inr h2
 | .dct ks vs,_,nl,nd,h=>by
  rw[RD] at h ⊢
  obtain⟨a,xs,h1,h3,h4⟩:=h
  have nb:¬ bD:=fun b=>by have:=nd b; rw[noD] at this; cases this
  refine⟨a,xs,h1,RDs.minus hO vs (fun b=>by have:=nl b; rwa [noL] at this) (fun b=>(nb b).elim) h3,?_⟩
  rcases h4 with ⟨kvs,q,r⟩ | ⟨kvs,q,r⟩
  ·exact .inl ⟨kvs,z3d (u :=.lst []) hO q (fun _ z=>by cases z) (fun _ _=>nb) (fun _ _=>nb),r⟩
  ·exact .inr ⟨kvs,z3d (u :=.lst []) hO q (fun _ z=>by cases z) (fun _ _=>nb) (fun _ _=>nb),r⟩
def RDs.minus {bL bD:Prop}(hO:OK1 G O bL bD):∀ (ds:List D) {xs:List V},(bL->noLs ds=true)->(bD->noDs ds=true)->RDs K mg G ds xs->RDs K mg (Pu.minus G O) ds xs
 | [],_,_,_,h=>by simpa[RDs] using h
 | d::ds,_,nl,nd,h=>by
  rw[RDs] at h ⊢
  obtain⟨x,r,h1,h2,h3⟩:=h
  exact⟨x,r,h1,RD.minus hO d (fun b=>by have:=nl b; rw[noLs,Bool.and_eq_true] at this; exact this.1) (fun b=>by have:=nd b; rw[noDs,Bool.and_eq_true] at this; exact this.1) h2,
   RDs.minus hO ds (fun b=>by have:=nl b; rw[noLs,Bool.and_eq_true] at this; exact this.2) (fun b=>by have:=nd b; rw[noDs,Bool.and_eq_true] at this; exact this.2) h3⟩
end
def z2v (ρ:Pu.Env)(σ:L2.St)(a:Addr):Prop:=∃ (j:Nat) (d:D),ρ[j]? = some (B.o d)/\σ[j]? = some (some (V.ref a))
def AbS.free (h:AbS K mg H0 G0 G ρ σ H):∀ a,z2v ρ σ a->G a=none:=fun a ⟨j,d,e,q⟩=>by
 obtain⟨b,q',hb,_⟩:=h.ow j d e
 rw[q] at q'; cases q'
 exact hb
def AbS.owned0 (h:AbS K mg H0 G0 G ρ σ H):∀ a,z2v ρ σ a->H0 a=none:=fun a ⟨j,d,e,q⟩=>by
 obtain⟨b,q',hb,h0,_⟩:=h.ow j d e
 rw[q] at q'; cases q'
 exact h0
def AbS.nw1 {G1:Hp}(h:AbS K mg H0 G0 G ρ σ H)(g:Gr (plus G H (z2v ρ σ)) H G1):∀ a o,G1 a=some o->(∃ u,G0 a=some u)\/H0 a=none:=fun a o e=>by
 rcases g.2 a o e with ⟨u,q⟩ | q
 ·by_cases z:z2v ρ σ a
  ·exact .inr (h.owned0 a z)
  ·unfold plus at q; rw[if_neg z] at q; exact h.nw a u q
 ·refine .inr ?_
  cases z:H0 a with
  | none=>rfl
  | some w=>rw[h.s0 a w z] at q; cases q
def AbS.nw2 {G1:Hp}(h:AbS K mg H0 G0 G ρ σ H)(g:Gr G H G1):∀ a o,G1 a=some o->(∃ u,G0 a=some u)\/H0 a=none:=fun a o e=>by
 rcases g.2 a o e with ⟨u,q⟩ | q
 ·exact h.nw a u q
 ·refine .inr ?_
  cases z:H0 a with
  | none=>rfl
  | some w=>rw[h.s0 a w z] at q; cases q
def AbS.abe (h:AbS K mg H0 G0 G ρ σ H):AbE K mg (plus G H (z2v ρ σ)) ρ σ:=fun i d e=>by
 rw[Env.get_eq] at e
 cases q:ρ[i]? with
 | none=>rw[q] at e; cases e
 | some b=>
  rw[q] at e
  cases b with
  | n=>cases e
  | s d'=>
   cases e
   obtain⟨v,h1,h2⟩:=h.sh i d q
   exact⟨v,h1,h2.same (z3e h.free)⟩
  | o d'=>
   cases e
   obtain⟨a,h1,h2,h3,h4⟩:=h.ow i d q
   exact⟨.ref a,h1,h4.rd (z3e h.free) (zb3 ⟨i,d,q,h1⟩)⟩
def AbS.vis (h:AbS K mg H0 G0 G ρ σ H):AbE K mg G (vis ρ) σ:=fun i d e=>by
 rw[Env.get_eq] at e
 unfold Pu.vis at e
 rw[List.getElem?_map] at e
 cases q:ρ[i]? with
 | none=>rw[q] at e; cases e
 | some b=>
  rw[q] at e
  cases b with
  | n=>cases e
  | s d'=>
   cases e
   exact h.sh i d q
  | o d'=>cases e
def Safe.get {d:D}:∀ {ρ:Pu.Env}{j:Nat}{b:B},Safe d ρ->ρ[j]? = some b->zfi d b
 | [],_,_,_,e=>by simp at e
 | c::r,0,b,h,e=>by simp at e; subst e; exact h.1
 | c::r,j+1,b,h,e=>Safe.get (j:=j) h.2 (by simpa using e)
def zdv {G1:Hp}{d:D}{I:Nat->Prop}(h:AbS K mg H0 G0 G ρ σ H)(g2:Same G1 H1)(g3:Same H H1):
  OK1 G1 (fun a=>∃ (j:Nat) (d:D),I j/\ρ[j]? = some (B.o d)/\σ[j]? = some (some (V.ref a))) (∃ (j:Nat) (l:List D),I j/\ρ[j]? = some (B.o (.lst l))) (∃ (j:Nat) (k v:List D),I j/\ρ[j]? = some (B.o (.dct k v))):=fun a ⟨j,d',hI,e,q⟩=>by
 obtain⟨b,q',hb,h0,hw⟩:=h.ow j d' e
 rw[q] at q'; cases q'
 cases e1:G1 a with
 | none=>exact .inl rfl
 | some o=>
  have e2:=g2 a o e1
  cases d' with
  | lst ds=>
   obtain⟨xs,h1,h2⟩:=hw
   rw[g3 a _ h1] at e2
   cases e2
   exact .inr (.inl ⟨⟨xs,rfl⟩,j,ds,hI,e⟩)
  | dct ks vs=>
   obtain⟨xs,h1,h2⟩:=hw
   rcases h2 with ⟨kvs,z,r⟩ | ⟨kvs,z,r⟩
   ·rw[g3 a _ z] at e2
    cases e2
    exact .inr (.inr ⟨.inl ⟨kvs,rfl⟩,j,ks,vs,hI,e⟩)
   ·rw[g3 a _ z] at e2
    cases e2
    exact .inr (.inr ⟨.inr ⟨kvs,rfl⟩,j,ks,vs,hI,e⟩)
  | _=>exact hw.elim
def z6g {G1:Hp}{d:D}{v:V}{i:Nat}(h:AbS K mg H0 G0 G ρ σ H)(g2:Same G1 H1)(g3:Same H H1)(sf:Safe d (ρ.set i .n))(rd:RD K mg G1 d v):
  RD K mg (Pu.minus G1 (fun a=>∃ (j:Nat) (d:D),j≠i/\ρ[j]? = some (B.o d)/\σ[j]? = some (some (V.ref a)))) d v:=by
 refine RD.minus (zdv (d:=d) (I:=fun j=>j≠i) h g2 g3) d (fun⟨j,l,hj,e⟩ => ?_) (fun⟨j,k,v,hj,e⟩ => ?_) rd
 ·exact Safe.get sf (j:=j) (b :=.o (.lst l)) (by rw[List.getElem?_set_ne (Ne.symm hj)]; exact e)
 ·exact Safe.get sf (j:=j) (b :=.o (.dct k v)) (by rw[List.getElem?_set_ne (Ne.symm hj)]; exact e)
def z8B {G1:Hp}{d:D}{v:V}(h:AbS K mg H0 G0 G ρ σ H)(g2:Same G1 H1)(g3:Same H H1)(sf:Safe d ρ)(rd:RD K mg G1 d v):
  RD K mg (Pu.minus G1 (fun a=>∃ (j:Nat) (d:D),True/\ρ[j]? = some (B.o d)/\σ[j]? = some (some (V.ref a)))) d v:=by
 refine RD.minus (zdv (d:=d) (I:=fun _=>True) h g2 g3) d (fun⟨j,l,hj,e⟩ => ?_) (fun⟨j,k,v,hj,e⟩ => ?_) rd
 ·exact Safe.get sf (j:=j) (b :=.o (.lst l)) e
 ·exact Safe.get sf (j:=j) (b :=.o (.dct k v)) e
def AbS.put {G1:Hp}{i:Nat}{d:D}{v:V}(h:AbS K mg H0 G0 G ρ σ H)(nw:∀ a o,G1 a=some o->(∃ u,G0 a=some u)\/H0 a=none)(g1:Same G G1)(g2:Same G1 H1)(g3:Same H H1)(hO:∀ (j:Nat) (d':D) (a:Addr),j≠i->ρ[j]? = some (B.o d')->σ[j]? = some (some (V.ref a))->G1 a=none)(rd:RD K mg G1 d v):
  AbS K mg H0 G0 G1 (ρ.set i (.s d)) (σ.set i (some v)) H1 where
 len:=by simp[h.len]
 s0:=z07 h.s0 g3
 g0:=z07 h.g0 g1
 g:=g2
 nw:=nw
 sh:=fun j e q=>by
  by_cases hj:j=i
  ·subst hj
   have hl:j < ρ.length:=by
    have:=(List.getElem?_eq_some_iff.mp q).1
    simpa using this
   rw[List.getElem?_set_self hl] at q
   cases q
   exact⟨v,by rw[List.getElem?_set_self (by rw[h.len]; exact hl)],rd⟩
  ·rw[List.getElem?_set_ne (Ne.symm hj)] at q
   obtain⟨w,h1,h2⟩:=h.sh j e q
   exact⟨w,by rw[List.getElem?_set_ne (Ne.symm hj)]; exact h1,h2.same g1⟩
 ow:=fun j e q=>by
  by_cases hj:j=i
  ·subst hj
   have hl:j < ρ.length:=by
    have:=(List.getElem?_eq_some_iff.mp q).1
    simpa using this
   rw[List.getElem?_set_self hl] at q
   cases q
  ·rw[List.getElem?_set_ne (Ne.symm hj)] at q
   obtain⟨a,h1,h2,h3,h4⟩:=h.ow j e q
   exact⟨a,by rw[List.getElem?_set_ne (Ne.symm hj)]; exact h1,hO j e a hj q h1,h3,h4.same g1 (g3 a)⟩
 ne:=fun j k e e' a hjk q q' s s'=>by
  have hl:∀ {j:Nat}{e:D},(ρ.set i (.s d))[j]? = some (B.o e)->j≠i:=fun {j e} q hj=>by
   subst hj
   have hl:j < ρ.length:=by
    have:=(List.getElem?_eq_some_iff.mp q).1
    simpa using this
   rw[List.getElem?_set_self hl] at q
   cases q
  have hj:=hl q
  have hk:=hl q'
  rw[List.getElem?_set_ne (Ne.symm hj)] at q s
  rw[List.getElem?_set_ne (Ne.symm hk)] at q' s'
  exact h.ne j k e e' a hjk q q' s s'
def AbS.own {G1:Hp}{i:Nat}{d:D}{a:Addr}(h:AbS K mg H0 G0 G ρ σ H)(nw:∀ a o,G1 a=some o->(∃ u,G0 a=some u)\/H0 a=none)(g1:Same G G1)(g2:Same G1 H1)(g3:Same H H1)(hO:∀ (j:Nat) (d':D) (a:Addr),j≠i->ρ[j]? = some (B.o d')->σ[j]? = some (some (V.ref a))->G1 a=none)(hn:H a=none)(ga:G1 a=none)(hw:z5O K mg G1 H1 a d):
  AbS K mg H0 G0 G1 (ρ.set i (.o d)) (σ.set i (some (.ref a))) H1 where
 len:=by simp[h.len]
 s0:=z07 h.s0 g3
 g0:=z07 h.g0 g1
 g:=g2
 nw:=nw
 sh:=fun j e q=>by
  by_cases hj:j=i
  ·subst hj
   have hl:j < ρ.length:=by
    have:=(List.getElem?_eq_some_iff.mp q).1
    simpa using this
   rw[List.getElem?_set_self hl] at q
   cases q
  ·rw[List.getElem?_set_ne (Ne.symm hj)] at q
   obtain⟨w,h1,h2⟩:=h.sh j e q
   exact⟨w,by rw[List.getElem?_set_ne (Ne.symm hj)]; exact h1,h2.same g1⟩
 ow:=fun j e q=>by
  by_cases hj:j=i
  ·subst hj
   have hl:j < ρ.length:=by
    have:=(List.getElem?_eq_some_iff.mp q).1
    simpa using this
   rw[List.getElem?_set_self hl] at q
   cases q
   refine⟨a,by rw[List.getElem?_set_self (by rw[h.len]; exact hl)],ga,?_,hw⟩
   exact z22 h.s0 hn
  ·rw[List.getElem?_set_ne (Ne.symm hj)] at q
   obtain⟨b,h1,h2,h3,h4⟩:=h.ow j e q
   exact⟨b,by rw[List.getElem?_set_ne (Ne.symm hj)]; exact h1,hO j e b hj q h1,h3,h4.same g1 (g3 b)⟩
 ne:=fun j k e e' b hjk q q' s s'=>by
  have old:∀ {j:Nat}{e:D},j≠i->(ρ.set i (.o d))[j]? = some (B.o e)->(σ.set i (some (.ref a)))[j]? = some (some (V.ref b))->ρ[j]? = some (B.o e)/\σ[j]? = some (some (V.ref b)):=fun {j e} hj q s=>by
   rw[List.getElem?_set_ne (Ne.symm hj)] at q s
   exact⟨q,s⟩
  have new:∀ {j:Nat}{e:D},j=i->(ρ.set i (.o d))[j]? = some (B.o e)->(σ.set i (some (.ref a)))[j]? = some (some (V.ref b))->b=a:=fun {j e} hj q s=>by
   subst hj
   have hl:j < σ.length:=by
    have:=(List.getElem?_eq_some_iff.mp s).1
    simpa using this
   rw[List.getElem?_set_self hl] at s
   cases s; rfl
  have none:∀ {j:Nat}{e:D},ρ[j]? = some (B.o e)->σ[j]? = some (some (V.ref b))->b≠a:=fun {j e} q s z=>by
   obtain⟨b',h1,h2,h3,h4⟩:=h.ow j e q
   rw[s] at h1; cases h1
   obtain⟨o,ho⟩:=h4.some
   rw[z,hn] at ho; cases ho
  by_cases hj:j=i
  ·have hb:=new hj q s
   have hk:k≠i:=fun z=>hjk (hj.trans z.symm)
   obtain⟨q1,s1⟩:=old hk q' s'
   exact none q1 s1 hb
  ·obtain⟨q1,s1⟩:=old hj q s
   by_cases hk:k=i
   ·exact none q1 s1 (new hk q' s')
   ·obtain⟨q2,s2⟩:=old hk q' s'
    exact h.ne j k e e' b hjk q1 q2 s1 s2
def AbS.wr {G1:Hp}{i:Nat}{d d':D}{a:Addr}{o:HO}(h:AbS K mg H0 G0 G ρ σ H)(nw:∀ a o,G1 a=some o->(∃ u,G0 a=some u)\/H0 a=none)(g1:Same G G1)(g2:Same G1 H1)(g3:Same H H1)(hO:∀ (j:Nat) (d':D) (a:Addr),ρ[j]? = some (B.o d')->σ[j]? = some (some (V.ref a))->G1 a=none)(hi:ρ[i]? = some (B.o d))(hs:σ[i]? = some (some (V.ref a)))
  (hw:z5O K mg G1 (upd H1 a o) a d'):AbS K mg H0 G0 G1 (ρ.set i (.o d')) σ (upd H1 a o):=by
 obtain⟨a',e1,ga,h0a,hw0⟩:=h.ow i d hi
 rw[hs] at e1; cases e1
 have hl:i < ρ.length:=(List.getElem?_eq_some_iff.mp hi).1
 refine⟨by simp[h.len],fun b u e => ?_,z07 h.g0 g1,fun b u e => ?_,nw,fun j e q => ?_,fun j e q => ?_,fun j k e e' b hjk q q' s s' => ?_⟩
 ·have hb:b≠a:=fun z=>by rw[z,h0a] at e; cases e
  rw[z09 hb]; exact g3 b u (h.s0 b u e)
 ·have hb:b≠a:=fun z=>by rw[z,hO i d a hi hs] at e; cases e
  rw[z09 hb]; exact g2 b u e
 ·by_cases hj:j=i
  ·subst hj
   rw[List.getElem?_set_self hl] at q; cases q
  ·rw[List.getElem?_set_ne (Ne.symm hj)] at q
   obtain⟨w,h1,h2⟩:=h.sh j e q
   exact⟨w,h1,h2.same g1⟩
 ·by_cases hj:j=i
  ·subst hj
   rw[List.getElem?_set_self hl] at q; cases q
   exact⟨a,hs,hO j d a hi hs,h0a,hw⟩
  ·rw[List.getElem?_set_ne (Ne.symm hj)] at q
   obtain⟨b,h1,h2,h3,h4⟩:=h.ow j e q
   have hb:b≠a:=fun z=>by subst z; exact h.ne j i e d b hj q hi h1 hs
   exact⟨b,h1,hO j e b q h1,h3,h4.same g1 (fun u e=>by rw[z09 hb]; exact g3 b u e)⟩
 ·have old:∀ {j:Nat}{e:D},(ρ.set i (.o d'))[j]? = some (B.o e)->∃ e',ρ[j]? = some (B.o e'):=fun {j e} q=>by
   by_cases hj:j=i
   ·subst hj; exact⟨d,hi⟩
   ·rw[List.getElem?_set_ne (Ne.symm hj)] at q; exact⟨e,q⟩
  obtain⟨x,q1⟩:=old q
  obtain⟨y,q2⟩:=old q'
  exact h.ne j k x y b hjk q1 q2 s s'
def AbS.dem1 (h:AbS K mg H0 G0 G ρ σ H)(j:Nat):∃ G',AbS K mg H0 G0 G' (ρ.set j (demB ((ρ[j]?).getD .n))) σ H/\Same G G':=by
 cases q:ρ[j]? with
 | none=>
  have:ρ.set j (demB ((none:Option B).getD .n))=ρ:=by
   apply List.set_eq_of_length_le
   exact List.getElem?_eq_none_iff.mp q
  rw[this]
  exact⟨G,h,Same.refl'⟩
 | some b=>
  have hl:j < ρ.length:=(List.getElem?_eq_some_iff.mp q).1
  have same:∀ b',b=b'->demB b'=b'->∃ G',AbS K mg H0 G0 G' (ρ.set j (demB ((some b).getD .n))) σ H/\Same G G':=fun b' e e'=>by
   subst e
   have:ρ.set j (demB ((some b).getD .n))=ρ:=by
    show ρ.set j (demB b)=ρ
    rw[e']
    apply List.ext_getElem?
    intro k
    by_cases hk:k=j
    ·subst hk; rw[List.getElem?_set_self hl,q]
    ·rw[List.getElem?_set_ne (Ne.symm hk)]
   rw[this]
   exact⟨G,h,Same.refl'⟩
  cases b with
  | n=>exact same .n rfl rfl
  | s d=>exact same (.s d) rfl rfl
  | o d=>
   obtain⟨a,s1,ga,h0a,hw⟩:=h.ow j d q
   show ∃ G',AbS K mg H0 G0 G' (ρ.set j (.s d)) σ H/\Same G G'
   have lp:Same G (plus G H (· = a)):=z3e (fun b z=>by rw[z]; exact ga)
   refine⟨plus G H (· = a),⟨by simp[h.len],h.s0,z07 h.g0 lp,z4F h.g,fun b o e=>(by
     by_cases hb:b=a
     ·exact .inr (by rw[hb]; exact h0a)
     ·unfold plus at e; rw[if_neg hb] at e; exact h.nw b o e),fun k e z => ?_,fun k e z => ?_,fun k l e e' b hkl z z' s s' => ?_⟩,lp⟩
   ·by_cases hk:k=j
    ·subst hk
     rw[List.getElem?_set_self hl] at z; cases z
     exact⟨.ref a,s1,hw.rd lp (zb3 rfl)⟩
    ·rw[List.getElem?_set_ne (Ne.symm hk)] at z
     obtain⟨w,h1,h2⟩:=h.sh k e z
     exact⟨w,h1,h2.same lp⟩
   ·by_cases hk:k=j
    ·subst hk
     rw[List.getElem?_set_self hl] at z; cases z
    ·rw[List.getElem?_set_ne (Ne.symm hk)] at z
     obtain⟨b,h1,h2,h3,h4⟩:=h.ow k e z
     have hb:b≠a:=fun y=>by subst y; exact h.ne k j e d b hk z q h1 s1
     refine⟨b,h1,?_,h3,h4.same lp (fun _ e=>e)⟩
     unfold plus
     rw[if_neg hb]; exact h2
   ·have old:∀ {k:Nat}{e:D},(ρ.set j (.s d))[k]? = some (B.o e)->ρ[k]? = some (B.o e):=fun {k e} z=>by
     by_cases hk:k=j
     ·subst hk; rw[List.getElem?_set_self hl] at z; cases z
     ·rw[List.getElem?_set_ne (Ne.symm hk)] at z; exact z
    exact h.ne k l e e' b hkl (old z) (old z') s s'
def AbS.dem (js:List Nat):∀ {G:Hp}{ρ:Pu.Env},AbS K mg H0 G0 G ρ σ H->∃ G',AbS K mg H0 G0 G' (dem js ρ) σ H/\Same G G':=by
 induction js with
 | nil=>intro G ρ h; exact⟨G,h,Same.refl'⟩
 | cons j js ih=>
  intro G ρ h
  obtain⟨G1,h1,g1⟩:=h.dem1 j
  obtain⟨G2,h2,g2⟩:=ih h1
  exact⟨G2,h2,z07 g1 g2⟩
end
end Pu
namespace Pu
open PySem PySem.Spec PyProof.Rows L2
def Kn (K:W.Frag)(mg:Str->Option Value)(H0 G0 G:Hp)(N0:Pu.Env->Prop)(N:L2.St->Hp->Prop):Prop:=∀ ρ' σ' H' G',N0 ρ'->AbS K mg H0 G0 G' ρ' σ' H'->Same G G'->N σ' H'
def Kr (K:W.Frag)(mg:Str->Option Value)(H0 G0:Hp)(R0:DK)(R:VK):Prop:=∀ d v G' H',R0 d->Gr G0 H0 G'->Same G' H'->Same H0 H'->RD K mg G' d v->R v H'
def ts (K:W.Frag)(mg:Str->Option Value)(E:XK)(t:Sm):TS:=fun D σ H=>∃ H0 G0 G ρ N0 R0 X0,AbS K mg H0 G0 G ρ σ H/\t.run ρ N0 R0 X0/\Kn K mg H0 G0 G N0 D.nx/\Kr K mg H0 G0 R0 D.rt/\Kx mg H0 X0 E
def Kn.same {K:W.Frag}{mg:Str->Option Value}{H0 G0 G G1:Hp}{N0:Pu.Env->Prop}{N:L2.St->Hp->Prop}(h:Kn K mg H0 G0 G N0 N)(g:Same G G1):Kn K mg H0 G0 G1 N0 N:=fun ρ' σ' H' G' a b c=>h ρ' σ' H' G' a b (z07 g c)
abbrev QZ (X:Cx)(E:XK)(st:Stmt)(t:Sm):Prop:=QS X st (ts X.K X.mg E t)
abbrev QZs (X:Cx)(E:XK)(st:List Stmt)(t:Sm):Prop:=QSs X st (ts X.K X.mg E t)
section
variable {X:Cx}{E:XK}{st:Stmt}{rest body la lb:List Stmt}{t u:Sm}{e a b c:Expr}{x y z:Ex}{pos:Pos}
def z1u:QZs X E [] .skip:=QSs.imp ze6 fun D σ H ⟨H0,G0,G,ρ,N0,R0,X0,ab,hr,hn,hR,hx⟩=>hn ρ σ H G hr ab Same.refl'
def z0b (h:QZ X E st t):QZs X E [st] t:=ze5 h
def z06 (h:QZ X E st t)(h':QZs X E rest u):QZs X E (st::rest) (.seq t u):=QSs.imp (zcm h h') fun D σ H ⟨H0,G0,G,ρ,N0,R0,X0,ab,hr,hn,hR,hx⟩=>
 ⟨H0,G0,G,ρ,fun ρ'=>u.run ρ' N0 R0 X0,R0,X0,ab,hr,fun ρ' σ' H' G' q ab' g=>⟨H0,G0,G',ρ',N0,R0,X0,ab',q,hn.same g,hR,hx⟩,hR,hx⟩
def zf3 {K:W.Frag}{mg:Str->Option Value}{H0 G0 G H:Hp}{ρ:Pu.Env}{σ:L2.St}{Q0:DK}{X0:XP}{Q:VK}(ab:AbS K mg H0 G0 G ρ σ H)(hr:x.run ρ Q0 X0)(hx:Kx mg H0 X0 E)(hk:Kt K mg (plus G H (z2v ρ σ)) H Q0 Q):tx K mg E x σ H Q:=
 ⟨plus G H (z2v ρ σ),ρ,Q0,X0,z4F ab.g,ab.abe,hr,hk,hx.same ab.s0⟩
def AbS.back {K:W.Frag}{mg:Str->Option Value}{H0 G0 G G1 H H1:Hp}{ρ:Pu.Env}{σ:L2.St}(ab:AbS K mg H0 G0 G ρ σ H)(g1:Gr (plus G H (z2v ρ σ)) H G1)(g2:Same G1 H1)(g3:Same H H1):AbS K mg H0 G0 (minus G1 (z2v ρ σ)) ρ σ H1/\Same G (minus G1 (z2v ρ σ)):=by
 have hf:=ab.free
 have lm:Same G (minus G1 (z2v ρ σ)):=z4m (z07 (z3e hf) g1.1) hf
 exact⟨⟨ab.len,z07 ab.s0 g3,z07 ab.g0 lm,z07 z2C g2,fun a o e=>ab.nw1 g1 a o (z2C a o e),fun i d e=>by
   obtain⟨v,h1,h2⟩:=ab.sh i d e
   exact⟨v,h1,h2.same lm⟩,fun i d e=>by
   obtain⟨a,h1,h2,h3,h4⟩:=ab.ow i d e
   exact⟨a,h1,z59 ⟨i,d,e,h1⟩,h3,h4.same lm (g3 a)⟩,ab.ne⟩,lm⟩
def zf4 {K:W.Frag}{mg:Str->Option Value}{H0 G0 G H:Hp}{ρ:Pu.Env}{σ:L2.St}{A B:Prop}{X0:XP}{Q:Bool->Hp->Prop}(ab:AbS K mg H0 G0 G ρ σ H)(hr:x.run ρ (fun d=>tst d A B) X0)(hx:Kx mg H0 X0 E)
  (ha:A->∀ H' G',AbS K mg H0 G0 G' ρ σ H'->Same G G'->Q true H') (hb:B->∀ H' G',AbS K mg H0 G0 G' ρ σ H'->Same G G'->Q false H'):tt K mg E x σ H Q:=by
 refine⟨plus G H (z2v ρ σ),ρ,_,X0,z4F ab.g,ab.abe,hr,fun d G1 H1 q g1 g2 g3 => ?_,hx.same ab.s0⟩
 obtain⟨b,rfl,q1,q2⟩:=z6c q
 refine⟨b,rfl,?_⟩
 obtain⟨ab',lm⟩:=ab.back g1 g2 g3
 cases b with
 | true=>exact ha (q1 rfl) H1 _ ab' lm
 | false=>exact hb (q2 rfl) H1 _ ab' lm
def z2P (hc:QXT X E c z)(ha:QZs X E la t)(hb:QZs X E lb u):QZ X E (.If c la lb pos) (.ifs z t u):=QS.imp (zhI hc ha hb) fun D σ H ⟨H0,G0,G,ρ,N0,R0,X0,ab,hr,hn,hR,hx⟩=>by
 refine zf4 ab hr hx (fun q H' G' ab' g => ?_) (fun q H' G' ab' g => ?_)
 ·exact iteT ⟨H0,G0,G',ρ,N0,R0,X0,ab',q,hn.same g,hR,hx⟩
 ·exact iteF ⟨H0,G0,G',ρ,N0,R0,X0,ab',q,hn.same g,hR,hx⟩
def z0m (he:QX X E e x):QZ X E (.Return (some e) pos) (.ret x):=QS.imp (zfI he) fun D σ H ⟨H0,G0,G,ρ,N0,R0,X0,ab,hr,hn,hR,hx⟩=>
 zf3 ab hr hx fun d v G1 H1 q g1 g2 g3 rd=>hR d v G1 H1 q ⟨z07 ab.g0 (z07 (z3e ab.free) g1.1),ab.nw1 g1⟩ g2 (z07 ab.s0 g3) rd
def z3J (i:Nat)(ρ:Pu.Env)(σ:L2.St)(a:Addr):Prop:=∃ (j:Nat) (d:D),j≠i/\ρ[j]? = some (B.o d)/\σ[j]? = some (some (V.ref a))
def z0n {i:Nat}{tg:Expr}(h:QS X (.Assign [tg] e pos) (tAsg (tx X.K X.mg E x) (z63 i))):QZ X E (.Assign [tg] e pos) (.set i x):=QS.imp h fun D σ H ⟨H0,G0,G,ρ,N0,R0,X0,ab,hr,hn,hR,hx⟩=>
 zf3 ab hr hx fun d v G1 H1 q g1 g2 g3 rd=>by
  have hf:∀ a,z3J i ρ σ a->G a=none:=fun a ⟨j,d,_,h1,h2⟩=>ab.free a ⟨j,d,h1,h2⟩
  have lm:Same G (minus G1 (z3J i ρ σ)):=z4m (z07 (z3e ab.free) g1.1) hf
  exact hn (ρ.set i (.s d)) (σ.set i (some v)) H1 _ q.2 (ab.put (fun a o e=>ab.nw1 g1 a o (z2C a o e)) lm (z07 z2C g2) g3 (fun j d' a hj e s=>z59 ⟨j,d',hj,e,s⟩) (z6g ab g2 g3 q.1 rd)) lm
def Kf (K:W.Frag)(mg:Str->Option Value)(G H:Hp)(Q0:DK)(Q:VK):Prop:=∀ d a G' H',Q0 d->Gr G H G'->Same G' H'->Same H H'->H a=none->G' a=none->z5O K mg G' H' a d->Q (.ref a) H'
def tf (K:W.Frag)(mg:Str->Option Value)(E:XK)(e:Ex):TE:=fun σ H Q=>∃ G ρ Q0 X0,Same G H/\AbE K mg G ρ σ/\e.run ρ Q0 X0/\Kf K mg G H Q0 Q/\Kx mg H X0 E
abbrev QF (X:Cx)(E:XK)(e:Expr)(x:Ex):Prop:=QE X e (tf X.K X.mg E x)
def Kt.kf {K:W.Frag}{mg:Str->Option Value}{G H:Hp}{Q0:DK}{Q:VK}(h:Kt K mg G H Q0 Q):Kf K mg G H Q0 Q:=fun d a G' H' q g1 g2 g3 hn gn hw=>by
 obtain⟨o,ho⟩:=hw.some
 have lp:Same G' (upd G' a o):=z0D gn o
 refine h d (.ref a) (upd G' a o) H' q ⟨z07 g1.1 lp,fun b u e => ?_⟩ (fun b u e => ?_) g3 (hw.rd lp (by rw[z0i]; exact ho.symm))
 ·by_cases hb:b=a
  ·subst hb; exact .inr hn
  ·rw[z09 hb] at e; exact g1.2 b u e
 ·by_cases hb:b=a
  ·subst hb; rw[z0i] at e; rw[ho]; exact e
  ·rw[z09 hb] at e; exact g2 b u e
def QF.qx (h:QF X E e x):QX X E e x:=QE.imp h fun σ H Q ⟨G,ρ,Q0,X0,hs,ab,hr,hk,hx⟩=>⟨G,ρ,Q0,X0,hs,ab,hr,hk.kf,hx⟩
def zdp {i:Nat}{tg:Expr}(h:QS X (.Assign [tg] e pos) (tAsg (tf X.K X.mg E x) (z63 i))):QZ X E (.Assign [tg] e pos) (.own i x):=QS.imp h fun D σ H ⟨H0,G0,G,ρ,N0,R0,X0,ab,hr,hn,hR,hx⟩=>by
 refine⟨plus G H (z2v ρ σ),ρ,_,X0,z4F ab.g,ab.abe,hr,fun d a G1 H1 q g1 g2 g3 ha ga hw => ?_,hx.same ab.s0⟩
 have hf:∀ a,z3J i ρ σ a->G a=none:=fun a ⟨j,d,_,h1,h2⟩=>ab.free a ⟨j,d,h1,h2⟩
 have lm:Same G (minus G1 (z3J i ρ σ)):=z4m (z07 (z3e ab.free) g1.1) hf
 have z05:∀ (l:List Pu.D) (xs:List V),(∀ x∈l,Safe x (ρ.set i .n))->RDs X.K X.mg G1 l xs->RDs X.K X.mg (minus G1 (z3J i ρ σ)) l xs:=by
  intro l
  induction l with
  | nil=>intro xs _ h; rw[RDs] at h ⊢; exact h
  | cons y l ih=>
   intro xs hs h
   rw[RDs] at h ⊢
   obtain⟨v,r,h1,h2,h3⟩:=h
   exact⟨v,r,h1,z6g ab g2 g3 (hs y List.mem_cons_self) h2,ih r (fun z hz=>hs z (List.mem_cons_of_mem _ hz)) h3⟩
 have na:minus G1 (z3J i ρ σ) a=none:=by
  unfold minus
  split
  ·rfl
  ·exact ga
 refine hn (ρ.set i (.o d)) (σ.set i (some (.ref a))) H1 _ q.2 (ab.own (fun a o e=>ab.nw1 g1 a o (z2C a o e)) lm (z07 z2C g2) g3 (fun j d' a hj e s=>z59 ⟨j,d',hj,e,s⟩) ha na ?_) lm
 have q1:=q.1
 cases d with
 | lst l=>
  obtain⟨xs,h1,h2⟩:=hw
  exact⟨xs,h1,z05 l xs q1 h2⟩
 | dct ks vs=>
  obtain⟨xs,h1,h2⟩:=hw
  exact⟨xs,z05 vs xs q1 h1,h2⟩
 | _=>exact q1.elim
end
section
variable {X:Cx}{E:XK}{st:Stmt}{rest body la lb:List Stmt}{t u:Sm}{e a b c tg iter:Expr}{x y z:Ex}{pos:Pos}
def z9u {o:Option (List D)}{Q:List D->Prop}(h:onL o Q):∃ l,o=some l/\Q l:=by
 cases o with
 | none=>exact h.elim
 | some l=>exact⟨l,rfl,h⟩
def z9i (hp:PassesOwn (model X.prog X.w) X.A X.env X.xe)(hc:QXT X E c z)(hb:QZs X E body t):QZ X E (.While c body [] pos) (.wh z t):=QS.imp (zcn hp hc hb) fun D σ H ⟨H0,G0,G,ρ,N0,R0,X0,ab,⟨n,hr⟩,hn,hR,hx⟩=>by
 refine⟨fun m σ' H'=>∃ G' ρ',AbS X.K X.mg H0 G0 G' ρ' σ' H'/\Same G G'/\wh z t N0 R0 X0 m ρ',⟨n,G,ρ,ab,Same.refl',hr⟩,?_⟩
 rintro m σ1 H1 ⟨G1,ρ1,ab1,g1,h1⟩
 cases m with
 | zero=>exact h1.elim
 | succ m=>
  refine zf4 ab1 h1 hx (fun q H2 G2 ab2 g2 => ?_) (fun q H2 G2 ab2 g2 => ?_)
  ·refine iteT ⟨fun σ' H'=>∃ G' ρ',AbS X.K X.mg H0 G0 G' ρ' σ' H'/\Same G G'/\wh z t N0 R0 X0 m ρ',fun σ' H' w=>⟨m,Nat.lt_succ_self _,w⟩,?_⟩
   exact⟨H0,G0,G2,ρ1,wh z t N0 R0 X0 m,R0,X0,ab2,q,fun ρ' σ' H' G' w ab' g'=>⟨G',ρ',ab',z07 g1 (z07 g2 g'),w⟩,hR,hx⟩
  ·exact iteF (hn ρ1 σ1 H2 G2 q ab2 (z07 g1 g2))
def Walk (K:W.Frag)(mg:Str->Option Value)(G:Hp)(l:List D)(J:It):Prop:=∀ (i:Nat) (G1 H:Hp),Same G G1->Same G1 H->
 (∀ d,l[i]? = some d->J.go i H/\∀ v H',J.yld i H v H'->Same H H'/\∃ G2,Gr G1 H G2/\Same G2 H'/\RD K mg G2 d v)/\(l.length<=i->J.stop i H)
def ti (K:W.Frag)(mg:Str->Option Value)(E:XK)(e:Ex):TI:=fun σ H R=>∃ G ρ Q0 X0,Same G H/\AbE K mg G ρ σ/\e.run ρ Q0 X0/\(∀ d,Q0 d->∃ l,z05 d=some l)/\(∀ d G' H',Q0 d->Gr G H G'->Same G' H'->Same H H'->∀ l J,z05 d=some l->Walk K mg G' l J->R J H')/\Kx mg H X0 E
abbrev QXI (X:Cx)(E:XK)(tg e:Expr)(x:Ex):Prop:=QI X tg e (ti X.K X.mg E x)
def tgt (K:W.Frag):Tg->TG
 | .nm i=>z63 i
 | .tp is=>gTup K is.length (is.foldr (fun i r=>zh5 (z63 i) r) gNil)
def z5A {K:W.Frag}:∀ (is:List Nat) (vs:List V) (σ:L2.St) (H:Hp) (Q:L2.St->Hp->Prop),is.length=vs.length->Q ((is.zip vs).foldl (fun σ p=>σ.set p.1 (some p.2)) σ) H->(is.foldr (fun i r=>zh5 (z63 i) r) gNil) vs σ H Q
 | [],[],_,_,_,_,q=>⟨rfl,q⟩
 | [],_::_,_,_,_,h,_=>by simp at h
 | _::_,[],_,_,_,h,_=>by simp at h
 | i::is,v::vs,σ,H,Q,h,q=>⟨v,vs,rfl,z5A (K:=K) is vs _ H Q (by simpa using h) q⟩
def AbS.putAll {K:W.Frag}{mg:Str->Option Value}{H0 G0 H:Hp}:∀ (is:List Nat) (ds:List D) (vs:List V) {G:Hp}{ρ:Pu.Env}{σ:L2.St},is.length=ds.length->RDs K mg G ds vs->AbS K mg H0 G0 G ρ σ H->
  AbS K mg H0 G0 G (z9c is ds ρ) ((is.zip vs).foldl (fun σ p=>σ.set p.1 (some p.2)) σ) H
 | [],[],vs,G,ρ,σ,_,h,ab=>by rw[RDs] at h; subst h; exact ab
 | [],_::_,_,_,_,_,h,_,_=>by simp at h
 | _::_,[],_,_,_,_,h,_,_=>by simp at h
 | i::is,d::ds,vs,G,ρ,σ,h,r,ab=>by
  rw[RDs] at r
  obtain⟨v,vs',rfl,h1,h2⟩:=r
  exact AbS.putAll is ds vs' (by simpa using h) h2 (ab.put ab.nw Same.refl' ab.g Same.refl' (fun j d' a hj e s=>ab.free a ⟨j,d',e,s⟩) h1)
def zdO {K:W.Frag}{mg:Str->Option Value}{H0 G0 G H:Hp}{ρ:Pu.Env}{σ:L2.St}{tg:Tg}{d:D}{v:V}{N0:Pu.Env->Prop}{N:L2.St->Hp->Prop}(ab:AbS K mg H0 G0 G ρ σ H)(rd:RD K mg G d v)(hp:tg.put d ρ N0)(hn:∀ ρ' σ',N0 ρ'->AbS K mg H0 G0 G ρ' σ' H->N σ' H):tgt K tg v σ H N:=by
 cases tg with
 | nm i=>exact hn _ _ hp (ab.put ab.nw Same.refl' ab.g Same.refl' (fun j d' a hj e s=>ab.free a ⟨j,d',e,s⟩) rd)
 | tp is=>
  cases d with
  | tup ds=>
   obtain⟨hl,hp⟩:=hp
   rw[RD] at rd
   obtain⟨a,xs,rfl,h1,h2⟩:=rd
   exact⟨a,xs,rfl,z1r ab.g h1,by rw[h2.len,hl],z5A (K:=K) is xs σ H N (by rw[h2.len,hl]) (hn _ _ hp (ab.putAll is ds xs hl h2))⟩
  | _=>exact hp.elim
def AbS.over {K:W.Frag}{mg:Str->Option Value}{H0 G0 G G2 H H2:Hp}{ρ:Pu.Env}{σ:L2.St}(ab:AbS K mg H0 G0 G ρ σ H)(g2:Gr G H G2)(k2:Same G2 H2)(s2:Same H H2):AbS K mg H0 G0 G2 ρ σ H2 where
 len:=ab.len
 s0:=z07 ab.s0 s2
 g0:=z07 ab.g0 g2.1
 g:=k2
 nw:=ab.nw2 g2
 sh:=fun i d e=>by
  obtain⟨v,h1,h2⟩:=ab.sh i d e
  exact⟨v,h1,h2.same g2.1⟩
 ow:=fun i d e=>by
  obtain⟨a,h1,h2,h3,h4⟩:=ab.ow i d e
  refine⟨a,h1,?_,h3,h4.same g2.1 (s2 a)⟩
  cases z:G2 a with
  | none=>rfl
  | some o=>
   obtain⟨u,hu⟩:=h4.some
   rcases g2.2 a o z with ⟨w,q⟩ | q
   ·rw[h2] at q; cases q
   ·rw[hu] at q; cases q
 ne:=ab.ne
def z5C {K:W.Frag}{mg:Str->Option Value}{H0 G0 G H:Hp}{ρ:Pu.Env}{σ:L2.St}{l:List D}{J:It}{tg:Tg}{N0:Pu.Env->Prop}{R0:DK}{X0:XP}{De:Ends}(ab:AbS K mg H0 G0 G ρ σ H)(hw:Walk K mg G l J)(hr:forL tg t N0 R0 X0 l ρ)
  (hn:Kn K mg H0 G0 G N0 De.nx) (hR:Kr K mg H0 G0 R0 De.rt) (hx:Kx mg H0 X0 E):
  ∃ W:Nat->Nat->L2.St->Hp->Prop,(∃ m,W 0 m σ H)/\∀ i m σ H,W i m σ H->
   (J.stop i H/\De.nx σ H)\/(J.go i H/\∃ N:L2.St->Hp->Prop,(∀ σ' H',N σ' H'->∃ m',m' < m/\W (i+1) m' σ' H')/\∀ x H',J.yld i H x H'->tgt K tg x σ H' fun σ2 H2=>ts K mg E t { De with nx:=N,ct:=N,bk:=De.nx } σ2 H2):=by
 refine⟨fun i m σ H=>m=l.length - i/\i<=l.length/\∃ G1 ρ1,AbS K mg H0 G0 G1 ρ1 σ H/\Same G G1/\forL tg t N0 R0 X0 (l.drop i) ρ1,⟨l.length,by simp,Nat.zero_le _,G,ρ,ab,Same.refl',by simpa using hr⟩,?_⟩
 rintro i m σ1 H1 ⟨rfl,hi,G1,ρ1,ab1,g1,h1⟩
 obtain⟨w1,w2⟩:=hw i G1 H1 g1 ab1.g
 by_cases hlt:i < l.length
 ·have e:l[i]? = some l[i]:=by simp[hlt]
  obtain⟨go,yl⟩:=w1 _ e
  rw[List.drop_eq_getElem_cons hlt] at h1
  refine .inr ⟨go,fun σ' H'=>∃ G2 ρ2,AbS K mg H0 G0 G2 ρ2 σ' H'/\Same G G2/\forL tg t N0 R0 X0 (l.drop (i+1)) ρ2,fun σ' H' w=>⟨l.length - (i+1),by omega,rfl,hlt,w⟩,fun v H2 y => ?_⟩
  obtain⟨s2,G2,g2,k2,rd⟩:=yl v H2 y
  have ab2:=ab1.over g2 k2 s2
  refine zdO ab2 rd h1 fun ρ3 σ3 hb ab3 => ?_
  exact⟨H0,G0,G2,ρ3,_,R0,X0,ab3,hb,fun ρ' σ' H' G' w ab' g'=>⟨G',ρ',ab',z07 g1 (z07 g2.1 g'),w⟩,hR,hx⟩
 ·have e:i=l.length:=by omega
  subst e
  rw[List.drop_length] at h1
  exact .inl ⟨w2 (Nat.le_refl _),hn ρ1 σ1 H1 G1 h1 ab1 g1⟩
def z9j {js:List Nat}{g:Tg}(hp:PassesOwn (model X.prog X.w) X.A X.env X.xe)(hc:X.calm=true)(hi:QXI X E tg iter x)(hg:QG X tg (tgt X.K g))(hb:QZs X E body t)(hs:∀ x,foldedSetIterable iter X.env x=pure x:=by intro _; rfl):
  QZ X E (.For tg iter body [] pos) (.for_ js g x t):=QS.imp (zdr hp hc hi hg hb hs) fun D σ H ⟨H0,G0,G,ρ,N0,R0,X0,ab,hr,hn,hR,hx⟩=>by
 obtain⟨G',ab',g'⟩:=ab.dem js
 refine⟨G',vis (dem js ρ),_,X0,ab'.g,ab'.vis,hr,fun d q=>(z9u q).imp fun _ z=>z.1,fun d G1 H1 q g1 g2 g3 l J el hw => ?_,hx.same ab.s0⟩
 have q':onL (z05 d) fun l=>forL g t N0 R0 X0 l (dem js ρ):=q
 rw[el] at q'
 exact z5C (E:=E) (ab'.over g1 g2 g3) hw q' (hn.same (z07 g' g1.1)) hR hx
def z3E {K:W.Frag}{mg:Str->Option Value}{G:Hp}{lo:Int}{n:Nat}:Walk K mg G ((List.range n).map fun(k:Nat)=>D.int (lo+(k:Int))) (Itr lo n):=fun i G1 H g1 g2=>by
 refine⟨fun d e => ?_,fun hi=>(show n<=i by simpa using hi)⟩
 obtain⟨h,e'⟩:=List.getElem?_eq_some_iff.mp e
 have hi:i < n:=by simpa using h
 refine⟨hi,fun v H' y => ?_⟩
 obtain⟨rfl,rfl⟩:=y
 refine⟨Same.refl',G1,Gr.refl,g2,?_⟩
 rw[<- e']
 simp only[List.getElem_map,List.getElem_range]
 rw[RD]
def z7L:Fn:=⟨fun ds Q _=>onR ds fun l=>Q (.lst l),fun ds Q Q' X X' m _ q=>z9t (fun _ q=>m _ q) q⟩
def z1e {K:W.Frag}{mg:Str->Option Value}{G:Hp}{i:Int}{v:V}(h:RD K mg G (.int i) v):v = .int i:=by rw[RD] at h; exact h
def rds1 {K:W.Frag}{mg:Str->Option Value}{G:Hp}{d:D}{vs:List V}(h:RDs K mg G [d] vs):∃ v,vs=[v]/\RD K mg G d v:=by
 rw[RDs] at h
 obtain⟨x,r,rfl,h1,h2⟩:=h
 rw[RDs] at h2
 subst h2
 exact⟨x,rfl,h1⟩
def rds2 {K:W.Frag}{mg:Str->Option Value}{G:Hp}{d e:D}{vs:List V}(h:RDs K mg G [d,e] vs):∃ v w,vs=[v,w]/\RD K mg G d v/\RD K mg G e w:=by
 rw[RDs] at h
 obtain⟨x,r,rfl,h1,h2⟩:=h
 obtain⟨y,rfl,h3⟩:=rds1 h2
 exact⟨x,y,rfl,h1,h3⟩
def z9s {K:W.Frag}{mg:Str->Option Value}{G:Hp}{ds:List D}{vs:List V}{Kk:List D->Prop}(rds:RDs K mg G ds vs)(h:onR ds Kk):
  (∃ j:Int,vs=[.int j] /\ -(2 ^ 62)<=j/\j < 2 ^ 62/\Kk ((List.range j.toNat).map fun(k:Nat)=>D.int (0+(k:Int))))\/∃ i j:Int,vs=[.int i,.int j]/\(-(2 ^ 62)<=i/\i < 2 ^ 62 /\ -(2 ^ 62)<=j/\j < 2 ^ 62)/\Kk ((List.range (j - i).toNat).map fun(k:Nat)=>D.int (i+(k:Int))):=by
 unfold onR at h
 split at h
 ·obtain⟨v,rfl,r1⟩:=rds1 rds
  refine .inl ⟨_,by rw[z1e r1],h.1.1,h.1.2,?_⟩
  simpa using h.2
 ·obtain⟨v,w,rfl,r1,r2⟩:=rds2 rds
  exact .inr ⟨_,_,by rw[z1e r1,z1e r2],⟨h.1.1.1,h.1.1.2,h.1.2.1,h.1.2.2⟩,h.2⟩
 ·exact h.elim
def zbZ {K:W.Frag}{mg:Str->Option Value}{es:List Ex}{σ:L2.St}{H:Hp}{R:It->Hp->Prop}(h:ti K mg E (.op z7L es) σ H R):txa K mg E es σ H fun vs H1=>(∃ j:Int,vs=[.int j] /\ -(2 ^ 62)<=j/\j < 2 ^ 62/\R (Itr 0 j.toNat) H1)\/∃ i j:Int,vs=[.int i,.int j]/\(-(2 ^ 62)<=i/\i < 2 ^ 62 /\ -(2 ^ 62)<=j/\j < 2 ^ 62)/\R (Itr i (j - i).toNat) H1:=by
 obtain⟨G,ρ,Q0,X0,hs,ab,hr,_,hk,hx⟩:=h
 refine⟨G,ρ,fun ds=>z7L.run ds Q0 X0,X0,hs,ab,hr,fun ds vs G1 H1 q g1 g2 g3 rds => ?_,hx⟩
 rcases z9s rds (show onR ds (fun l=>Q0 (.lst l)) from q) with ⟨j,e,h1,h2,q'⟩ | ⟨i,j,e,h1,q'⟩
 ·exact .inl ⟨j,e,h1,h2,hk _ G1 H1 q' g1 g2 g3 _ _ rfl z3E⟩
 ·exact .inr ⟨i,j,e,h1,hk _ G1 H1 q' g1 g2 g3 _ _ rfl z3E⟩
def z8w {K:W.Frag}{mg:Str->Option Value}{es:List Ex}{n:Nat}{σ:L2.St}{H:Hp}{Q Q':List V->Hp->Prop}(hl:es.length=n)(m:∀ vs H1,vs.length=n->Q vs H1->Q' vs H1)(h:txa K mg E es σ H Q):txa K mg E es σ H Q':=by
 obtain⟨G,ρ,Q0,X0,hs,ab,hr,hk,hx⟩:=h
 have len:∀ (es:List Ex) (Q:List D->Prop),runs es ρ Q X0->runs es ρ (fun ds=>ds.length=es.length/\Q ds) X0:=by
  intro es
  induction es with
  | nil=>intro Q h; exact⟨rfl,h⟩
  | cons e es ih=>
   intro Q h
   exact e.mono ρ _ _ X0 X0 (fun d q=>z3o es ρ _ _ X0 X0 (fun ds q=>⟨by simp[q.1],q.2⟩) (fun _ z=>z) (ih _ q)) (fun _ z=>z) h
 exact⟨G,ρ,_,X0,hs,ab,len es Q0 hr,fun ds vs G1 H1 q g1 g2 g3 rds=>m vs H1 (by rw[rds.len,q.1,hl]) (hk ds vs G1 H1 q.2 g1 g2 g3 rds),hx⟩
def za0 {p:Pos}(hg:Gl X "range")(hm:X.mg "range"=none)(ha:QXA X E [a,b] [x,y])(hs:starEach [a,b] X.env=[(false,eval a X.env),(false,eval b X.env)]:=by rfl)(hs2:starEach [b] X.env=[(false,eval b X.env)]:=by rfl):QXI X E tg (.Call (.Name "range" p) [a,b] [] pos) (.op z7L [x,y]):=QI.imp (z7G hg hm ha hs hs2) fun σ H R h=>
 z8w (n:=2) rfl (fun vs H1 hl q=>by
  rcases q with ⟨j,e,_⟩ | q
  ·rw[e] at hl; simp at hl
  ·exact q) (zbZ h)
def zaT {g:Tg}{es:List Ex}{wi:TI}(hp:PassesOwn (model X.prog X.w) X.A X.env X.xe)(hc:X.calm=true)(hg:QG X tg (tgt X.K g))(hb:QZs X E body t)
  (hri:∀ σ H R,(txa X.K X.mg E es σ H fun vs H1=>(∃ j:Int,vs=[.int j] /\ -(2 ^ 62)<=j/\j < 2 ^ 62/\R (Itr 0 j.toNat) H1)\/∃ i j:Int,vs=[.int i,.int j]/\(-(2 ^ 62)<=i/\i < 2 ^ 62 /\ -(2 ^ 62)<=j/\j < 2 ^ 62)/\R (Itr i (j - i).toNat) H1)->wi σ H R) (hi':QI X tg iter wi)
  (hs:∀ x,foldedSetIterable iter X.env x=pure x:=by intro _; rfl):
  QZ X E (.For tg iter body [] pos) (.forr es g t):=QS.imp (zdr hp hc hi' hg hb hs) fun De σ H ⟨H0,G0,G,ρ,N0,R0,X0,ab,hr,hn,hR,hx⟩=>by
 refine hri σ H _ ⟨plus G H (z2v ρ σ),ρ,fun ds=>onR ds fun l=>forL g t N0 R0 X0 l ρ,X0,z4F ab.g,ab.abe,hr,fun ds vs G1 H1 q g1 g2 g3 rds => ?_,hx.same ab.s0⟩
 obtain⟨ab',lm⟩:=ab.back g1 g2 g3
 rcases z9s rds q with ⟨j,e,h1,h2,q'⟩ | ⟨i,j,e,h1,q'⟩
 ·exact .inl ⟨j,e,h1,h2,z5C (E:=E) ab' z3E q' (hn.same lm) hR hx⟩
 ·exact .inr ⟨i,j,e,h1,z5C (E:=E) ab' z3E q' (hn.same lm) hR hx⟩
def z6I {g:Tg}{p pos2:Pos}(hp:PassesOwn (model X.prog X.w) X.A X.env X.xe)(hc:X.calm=true)(hgr:Gl X "range")(hm:X.mg "range"=none)(ha:QXA X E [a] [x])(hg:QG X tg (tgt X.K g))(hb:QZs X E body t)(hst:starEach [a] X.env=[(false,eval a X.env)]:=by rfl)
  (hs:∀ x,foldedSetIterable (.Call (.Name "range" p) [a] [] pos2) X.env x=pure x:=by intro _; rfl):QZ X E (.For tg (.Call (.Name "range" p) [a] [] pos2) body [] pos) (.forr [x] g t):=
 zaT hp hc hg hb (fun σ H R h=>z8w (n:=1) rfl (fun vs H1 hl q=>by
  rcases q with q | ⟨i,j,e,_⟩
  ·exact q
  ·rw[e] at hl; simp at hl) h) (zaW hgr hm ha hst) hs
def zcj {g:Tg}{p pos2:Pos}(hp:PassesOwn (model X.prog X.w) X.A X.env X.xe)(hc:X.calm=true)(hgr:Gl X "range")(hm:X.mg "range"=none)(ha:QXA X E [a,b] [x,y])(hg:QG X tg (tgt X.K g))(hb:QZs X E body t)(hst:starEach [a,b] X.env=[(false,eval a X.env),(false,eval b X.env)]:=by rfl)(hst2:starEach [b] X.env=[(false,eval b X.env)]:=by rfl)
  (hs:∀ x,foldedSetIterable (.Call (.Name "range" p) [a,b] [] pos2) X.env x=pure x:=by intro _; rfl):QZ X E (.For tg (.Call (.Name "range" p) [a,b] [] pos2) body [] pos) (.forr [x,y] g t):=
 zaT hp hc hg hb (fun σ H R h=>z8w (n:=2) rfl (fun vs H1 hl q=>by
  rcases q with ⟨j,e,_⟩ | q
  ·rw[e] at hl; simp at hl
  ·exact q) h) (z7G hgr hm ha hst hst2) hs
def iAny (K:W.Frag)(tl:TE):TI:=fun σ H R=>tl σ H fun x H1=>(∃ a,x = .ref a/\(∃ xs,SqL K H1 a xs)/\R (Itl K a) H1)\/(∃ a,x = .ref a/\(∃ xs,SqT K H1 a xs)/\R (Itt K a) H1)\/∃ y,x = .str y/\R (Its y) H1
def zfJ {l:Expr}{tl:TE}(hl:QE X l tl):QI X tg l (iAny X.K tl):=by
 constructor
 intro pins s σ H R I h
 refine thn (hl.p pins s σ H _ I h) fun v s1 ⟨x,H1,I1,r1,q1⟩ => ?_
 have fp:∀ b∈[s1.heap.objs.size],FpOk X pins H1 b:=fun b hb=>by
  have e:b=s1.heap.objs.size:=by simpa using hb
  subst e
  exact I1.fpOk (Nat.le_refl _) (I1.hok.fresh (Nat.le_refl _))
 rcases q1 with ⟨a,e,⟨xs,hq⟩,q⟩ | ⟨a,e,⟨xs,hq⟩,q⟩ | ⟨y,rfl,q⟩
 ·subst e
  cases r1
  obtain⟨its,rv,p,hz⟩:=I1.list hq
  refine wpAny_pyIter_list p.isList ?_
  exact⟨s1.heap.objs.size,[s1.heap.objs.size],_,_,H1,rfl,I1.kept (t':=s1.toks) fun b o e=>Heap.get?_push_of_some _ e,zau a _,⟨_,Heap.get?_push_size _ rfl,rfl,rfl⟩,fp,q⟩
 ·subst e
  cases r1
  obtain⟨its,rv,p,hz⟩:=I1.tuple hq
  refine wpAny_pyIter_tuple (show s1.heap.IsTuple a its.toArray from p) ?_
  exact⟨s1.heap.objs.size,[s1.heap.objs.size],_,_,H1,rfl,I1.kept (t':=s1.toks) fun b o e=>Heap.get?_push_of_some _ e,z9Q a _,⟨_,Heap.get?_push_size _ rfl,rfl,rfl⟩,fp,q⟩
 ·obtain⟨t,rfl⟩:=r1
  cases ha:y.cps.all (· < 128)
  ·exact wpAny_pyIter_wide ha ⟨s1.heap.objs.size,[s1.heap.objs.size],_,_,H1,rfl,I1.kept (t':=s1.toks) fun b o e=>Heap.get?_push_of_some _ e,z94 y t _ (by decide) (fun A' hA=>Walks.strWide hA _ y t) (fun A i s Q E st h=>wpAny_pyIter_striter_wide st h),⟨Nat.zero_le _,_,Heap.get?_push_size _ rfl,rfl,rfl⟩,fp,q⟩
  ·exact wpAny_pyIter_ascii ha ⟨s1.heap.objs.size,[s1.heap.objs.size],_,_,H1,rfl,I1.kept (t':=s1.toks) fun b o e=>Heap.get?_push_of_some _ e,z94 y t _ (by decide) (fun A' hA=>Walks.strAscii hA _ y t) (fun A i s Q E st h=>wpAny_pyIter_striter_ascii st h),⟨Nat.zero_le _,_,Heap.get?_push_size _ rfl,rfl,rfl⟩,fp,q⟩
def zaq {K:W.Frag}{mg:Str->Option Value}{G:Hp}{a:Addr}{xs:List V}{l:List D}(h:SqL K G a xs)(r:RDs K mg G l xs):Walk K mg G l (Itl K a):=fun i G1 H g1 g2=>by
 have hH:=z1G (z07 g1 g2) h
 refine⟨fun d e => ?_,fun hi=>⟨xs,hH,by rw[r.len]; exact hi⟩⟩
 obtain⟨v,ev,rv⟩:=r.get e
 refine⟨⟨xs,v,hH,ev⟩,fun v' H' y => ?_⟩
 obtain⟨rfl,y⟩:=y
 have:=y xs hH
 rw[ev] at this
 cases this
 exact⟨Same.refl',G1,Gr.refl,g2,rv.same g1⟩
def zbV {K:W.Frag}{mg:Str->Option Value}{G:Hp}{a:Addr}{xs:List V}{l:List D}(h:SqT K G a xs)(r:RDs K mg G l xs):Walk K mg G l (Itt K a):=fun i G1 H g1 g2=>by
 have hH:=z1r (z07 g1 g2) h
 refine⟨fun d e => ?_,fun hi=>⟨xs,hH,by rw[r.len]; exact hi⟩⟩
 obtain⟨v,ev,rv⟩:=r.get e
 refine⟨⟨xs,v,hH,ev⟩,fun v' H' y => ?_⟩
 obtain⟨rfl,y⟩:=y
 have:=y xs hH
 rw[ev] at this
 cases this
 exact⟨Same.refl',G1,Gr.refl,g2,rv.same g1⟩
def zbW {K:W.Frag}{mg:Str->Option Value}{G:Hp}{y:Str}:Walk K mg G (y.cps.toList.map fun c =>.str ⟨#[c]⟩) (Its y):=fun i G1 H g1 g2=>by
 refine⟨fun d e => ?_,fun hi=>(show y.cps.size<=i by simpa using hi)⟩
 rw[List.getElem?_map] at e
 cases q:y.cps.toList[i]? with
 | none=>rw[q] at e; cases e
 | some c=>
  rw[q] at e
  cases e
  have hi:i < y.cps.size:=by
   have:=(List.getElem?_eq_some_iff.mp q).1
   simpa using this
  refine⟨hi,fun v H' yl => ?_⟩
  obtain⟨rfl,c',ec,rfl⟩:=yl
  have:c'=c:=by
   have q':y.cps[i]? = some c:=by simpa using q
   rw[q'] at ec; exact(Option.some.inj ec).symm
  subst this
  exact⟨Same.refl',G1,Gr.refl,g2,by rw[RD]⟩
def qi_x (h:QX X E iter x):QXI X E tg iter x:=QI.imp (zfJ h) fun σ H R ⟨G,ρ,Q0,X0,hs,ab,hr,hz,hk,hx⟩=>by
 refine⟨G,ρ,Q0,X0,hs,ab,hr,fun d v G1 H1 q g1 g2 g3 rd => ?_,hx⟩
 cases d with
 | lst l=>
  rw[RD] at rd
  obtain⟨a,xs,rfl,h1,h2⟩:=rd
  exact .inl ⟨a,rfl,⟨xs,z1G g2 h1⟩,hk _ G1 H1 q g1 g2 g3 l _ rfl (zaq h1 h2)⟩
 | tup l=>
  rw[RD] at rd
  obtain⟨a,xs,rfl,h1,h2⟩:=rd
  exact .inr (.inl ⟨a,rfl,⟨xs,z1r g2 h1⟩,hk _ G1 H1 q g1 g2 g3 l _ rfl (zbV h1 h2)⟩)
 | str y=>
  rw[RD] at rd
  subst rd
  exact .inr (.inr ⟨y,rfl,hk _ G1 H1 q g1 g2 g3 _ _ rfl zbW⟩)
 | _=>
  obtain⟨l,e⟩:=hz _ q
  cases e
end
section
variable {K:W.Frag}{mg:Str->Option Value}{H0 G0 G G1 H H1:Hp}{ρ:Pu.Env}{σ:L2.St}{i:Nat}
def z7M {Kk:List D->Prop}(h:ownL ρ i Kk):∃ l,ρ[i]? = some (B.o (.lst l))/\Kk l:=by
 unfold ownL at h
 split at h
 ·rename_i l e; exact⟨l,e,h⟩
 ·exact h.elim
def zcB:(fun a=>∃ (j:Nat) (d:D),True/\ρ[j]? = some (B.o d)/\σ[j]? = some (some (V.ref a)))=z2v ρ σ:=by
 funext a
 exact propext ⟨fun⟨j,d,_,h⟩=>⟨j,d,h⟩,fun⟨j,d,h⟩=>⟨j,d,trivial,h⟩⟩
def z9Y {d:D}{v:V}(h:AbS K mg H0 G0 G ρ σ H)(g2:Same G1 H1)(g3:Same H H1)(sf:Safe d ρ)(rd:RD K mg G1 d v):RD K mg (minus G1 (z2v ρ σ)) d v:=by
 have:=z8B h g2 g3 sf rd
 rw[zcB] at this
 exact this
def AbS.wrB {l l':List D}{a:Addr}{ys:List V}(ab:AbS K mg H0 G0 G ρ σ H)(g1:Gr (plus G H (z2v ρ σ)) H G1)(g2:Same G1 H1)(g3:Same H H1)(hi:ρ[i]? = some (B.o (.lst l)))(hs:σ[i]? = some (some (V.ref a)))(hr:RDs K mg (minus G1 (z2v ρ σ)) l' ys):
  AbS K mg H0 G0 (minus G1 (z2v ρ σ)) (ρ.set i (.o (.lst l'))) σ (upd H1 a (.lst ys))/\Same G (minus G1 (z2v ρ σ)):=by
 have lm:Same G (minus G1 (z2v ρ σ)):=z4m (z07 (z3e ab.free) g1.1) ab.free
 exact⟨ab.wr (fun a o e=>ab.nw1 g1 a o (z2C a o e)) lm (z07 z2C g2) g3 (fun j d' a e s=>z59 ⟨j,d',e,s⟩) hi hs ⟨ys,z0i,hr⟩,lm⟩
end
section
variable {X:Cx}{E:XK}{st:Stmt}{t:Sm}{e o tg:Expr}{x y z:Ex}{pos cpos apos:Pos}{i j:Nat}
def zdq (ho:QE X o (tVar i))(ha:QXA X E [e] [x])
  (hs:swapsWith (.Call (.Attribute o "append" apos) [e] [] cpos) none pos.line X.env=pure false:=by rfl)
  (hbase:attributeBase o "append" X.env (eval o X.env)=eval o X.env:=by rfl)
  (hfew:((backTo cpos (starEach [e] X.env)).all (fun x => !x.1) && (backToKw cpos (keywordEach [] X.env)).all (fun x=>x.1.isSome)
   && decide ([e].length+([]:List Keyword).length+(if ([]:List Keyword).isEmpty then 0 else 1) < 30))=true:=by rfl)
  (hline:(apos.endLine == cpos.line)=true:=by rfl) (hst:starEach [e] X.env=(false,eval e X.env)::starEach [] X.env:=by rfl) (hplain:(backTo cpos (starEach [] X.env)).any (·.1)=false:=by rfl):
  QZ X E (.Expr (.Call (.Attribute o "append" apos) [e] [] cpos) pos) (.app i x):=
 QS.imp (zaV (zhP PySem.F.plainAttrs_list PySem.F.slot_list_append PySem.F.type_list_append z5Z ho ha hbase hfew hline hst hplain) hs) fun De σ H ⟨H0,G0,G,ρ,N0,R0,X0,ab,hr,hn,hR,hx⟩=>by
  obtain⟨l,hl,hr⟩:=z7M hr
  obtain⟨a,s1,ga,h0,xs,hw,hrd⟩:=ab.ow i _ hl
  refine⟨.ref a,s1,.inl ⟨rfl,xs,SqL.of hw⟩,?_⟩
  refine⟨plus G H (z2v ρ σ),ρ,fun ds=>∃ d,ds=[d]/\l.length < sizeLine/\Safe d ρ/\N0 (ρ.set i (.o (.lst (l++[d])))),X0,z4F ab.g,ab.abe,x.mono ρ _ _ X0 X0 (fun d q=>⟨d,rfl,q⟩) (fun _ z=>z) hr,?_,hx.same ab.s0⟩
  rintro ds vs G1 H1 ⟨d,rfl,hsz,sf,hN⟩ g1 g2 g3 rds
  obtain⟨v,rfl,rd⟩:=rds1 rds
  refine⟨a,xs,v,rfl,rfl,g3 _ _ hw,by rw[hrd.len]; exact hsz,?_⟩
  have lm:Same G (minus G1 (z2v ρ σ)):=z4m (z07 (z3e ab.free) g1.1) ab.free
  obtain⟨ab',g'⟩:=ab.wrB (i:=i) (l':=l++[d]) (ys:=xs++[v]) g1 g2 g3 hl s1 ((hrd.same lm).app (RDs.cons (z9Y ab g2 g3 sf rd) RDs.nil))
  exact hn _ σ _ _ hN ab' g'
def RDs.last {K:W.Frag}{mg:Str->Option Value}{G:Hp}{l:List D}{xs:List V}(h:RDs K mg G l xs):RDs K mg G l.dropLast xs.dropLast:=by
 rw[List.dropLast_eq_take,List.dropLast_eq_take,h.len]
 exact h.take _
def zb1 {l:List D}{Kk:List D->D->Prop}(h:popL l Kk):∃ d,l[l.length - 1]? = some d/\Kk l.dropLast d:=by
 unfold popL at h
 split at h
 ·rename_i d e; exact⟨d,e,h⟩
 ·exact h.elim
def zeY {K:W.Frag}{mg:Str->Option Value}{H0 G0 G H:Hp}{ρ:Pu.Env}{σ:L2.St}{l l':List D}{a:Addr}{ys:List V}(ab:AbS K mg H0 G0 G ρ σ H)(hi:ρ[i]? = some (B.o (.lst l)))(hs:σ[i]? = some (some (V.ref a)))(hr:RDs K mg G l' ys):AbS K mg H0 G0 G (ρ.set i (.o (.lst l'))) σ (upd H a (.lst ys)):=
 ab.wr ab.nw Same.refl' ab.g Same.refl' (fun j d' a e s=>ab.free a ⟨j,d',e,s⟩) hi hs ⟨ys,z0i,hr⟩
def zfA (ho:QE X o (tVar i))(hs:swapsWith (.Call (.Attribute o "pop" apos) [] [] cpos) none pos.line X.env=pure false:=by rfl)(hbase:attributeBase o "pop" X.env (eval o X.env)=eval o X.env:=by rfl)(hline:(apos.endLine == cpos.line)=true:=by rfl):
  QZ X E (.Expr (.Call (.Attribute o "pop" apos) [] [] cpos) pos) (.pop i):=
 QS.imp (zaV (zfP PySem.F.plainAttrs_list PySem.F.slot_list_pop PySem.F.type_list_pop zgL ho hbase hline) hs) fun De σ H ⟨H0,G0,G,ρ,N0,R0,X0,ab,hr,hn,hR,hx⟩=>by
  obtain⟨l,hl,hr⟩:=z7M hr
  obtain⟨d,hd,hN⟩:=zb1 hr
  obtain⟨a,s1,ga,h0,xs,hw,hrd⟩:=ab.ow i _ hl
  refine⟨.ref a,s1,.inl ⟨rfl,xs,SqL.of hw⟩,?_⟩
  obtain⟨v,hv,rv⟩:=hrd.get hd
  exact⟨a,xs,v,rfl,rfl,hw,by rw[hrd.len]; exact hv,hn _ σ _ G hN (zeY ab hl s1 hrd.last) Same.refl'⟩
def zd0 {d:D}{Kk:Int->Prop}(h:isI d Kk):∃ k,d = .int k/\Kk k:=by
 cases d with
 | int k=>exact⟨k,rfl,h⟩
 | _=>exact h.elim
end
section
variable {P:Program}{w:World}{K:W.Frag}{mg:Str->Option Value}{base:Heap}{N:List Str}{qual:Str}{f:Addr}
def z99 {G H:Hp}{ds:List D}{vs:List V}{np nn:Nat}(hs:Same G H)(r:RDs K mg G ds vs)(hl:ds.length=np)(hN:N.length=nn):AbS K mg H G G (ds.map B.s++List.replicate (nn - np) .n) (L2.start N vs) H:=by
 have hn:∀ (i:Nat) (b:B),(ds.map B.s++List.replicate (nn - np) .n)[i]? = some b->(∃ d,b = .s d/\ds[i]? = some d)\/b = .n:=fun i b e=>by
  by_cases hi:i < ds.length
  ·rw[List.getElem?_append_left (by simpa using hi),List.getElem?_map] at e
   rw[List.getElem?_eq_getElem hi] at e ⊢
   cases e
   exact .inl ⟨_,rfl,rfl⟩
  ·rw[List.getElem?_append_right (by simpa using hi)] at e
   have:=List.getElem?_eq_some_iff.mp e
   obtain⟨h1,h2⟩:=this
   simp at h2
   exact .inr h2.symm
 refine⟨?_,Same.refl',Same.refl',hs,fun a o e =>.inl ⟨o,e⟩,fun i d e => ?_,fun i d e => ?_,fun i j d d' a _ e => ?_⟩
 ·unfold L2.start
  rw[List.length_append,List.length_append,List.length_map,List.length_map,List.length_replicate,List.length_replicate,r.len,hl,hN]
 ·rcases hn i _ e with ⟨d',e1,e2⟩ | e1
  ·cases e1
   obtain⟨v,h1,h2⟩:=r.get e2
   refine⟨v,?_,h2⟩
   unfold L2.start
   have hi:i < vs.length:=(List.getElem?_eq_some_iff.mp h1).1
   rw[List.getElem?_append_left (by simpa using hi),List.getElem?_map,h1]
   rfl
  ·cases e1
 ·rcases hn i _ e with ⟨d',e1,e2⟩ | e1 <;> cases e1
 ·rcases hn i _ e with ⟨d',e1,e2⟩ | e1 <;> cases e1
def fnN {x:Str}{st:Stmt}{fd:FuncData}{ps:List Str}{k np nn:Nat}{b:Sm}(F:Fun K x qual st f fd)(S:z0q N ps (z00 st))(hp:ps.length=np)(hN:N.length=nn)
  (hb:∀ (cdv:Value) (A:Around) (outer:List PySem.Env) (s:Shared) (H:Hp) (E:XK),Room k (A.deeper (envOfC qual (z00 st) s.heap.objs.size f cdv))->QZs ((cxOf (CXe P w) P w K mg base N qual (z00 st) f cdv A outer s H E).wish fun _ _=>False) E0 (z2g st) b):
  FnOk P w K mg base (CXe P w) (k+1) f fd ps (spP K mg (Fn.mkN np nn b)):=by
 refine F.okN S (fun vs H Q E ⟨G,ds,Q0,X0,hs,rds,⟨hl,hr⟩,hk,hx⟩=>by rw[rds.len,hl,hp]) fun cdv A outer s H vs Q E hroom ⟨G,ds,Q0,X0,hs,rds,⟨hl,hr⟩,hk,hx⟩=>⟨_,hb cdv A outer s H E hroom,?_⟩
 refine⟨H,G,G,_,fun _=>Q0 .non,Q0,fun _=>False,z99 hs rds hl hN,hr,fun ρ' σ' H' G' q ab _ => ?_,hk,Kx.no⟩
 exact hk .non .non G' H' q ⟨ab.g0,ab.nw⟩ ab.g ab.s0 (by rw[RD])
end
def Tg.slots:Tg->List Nat
 | .nm i=>[i]
 | .tp is=>is
section
variable {K:W.Frag}{mg:Str->Option Value}{G G1 H H1:Hp}{ρ:Pu.Env}{σ:L2.St}
def AbE.put {i:Nat}{d:D}{v:V}(h:AbE K mg G ρ σ)(hi:i < σ.length)(r:RD K mg G d v):AbE K mg G (ρ.set i (.s d)) (σ.set i (some v)):=fun j e q=>by
 rw[Env.get_eq] at q
 by_cases hj:j=i
 ·subst hj
  cases z:(ρ.set j (.s d))[j]? with
  | none=>rw[z] at q; cases q
  | some b=>
   have hl:j < ρ.length:=by
    have:=(List.getElem?_eq_some_iff.mp z).1
    simpa using this
   rw[List.getElem?_set_self hl] at q
   cases q
   exact⟨v,by rw[List.getElem?_set_self hi],r⟩
 ·rw[List.getElem?_set_ne (Ne.symm hj), <- Env.get_eq] at q
  obtain⟨w,h1,h2⟩:=h j e q
  exact⟨w,by rw[List.getElem?_set_ne (Ne.symm hj)]; exact h1,h2⟩
def AbE.keep {i:Nat}{v:V}(h:AbE K mg G ρ σ)(hn:ρ.get i=none):AbE K mg G ρ (σ.set i (some v)):=fun j e q=>by
 have hj:j≠i:=fun z=>by rw[z,hn] at q; cases q
 obtain⟨w,h1,h2⟩:=h j e q
 exact⟨w,by rw[List.getElem?_set_ne (Ne.symm hj)]; exact h1,h2⟩
def AbE.putAll {base:Pu.Env}:∀ (is:List Nat) (ds:List D) (vs:List V) {ρ:Pu.Env}{σ:L2.St},is.length=ds.length->RDs K mg G ds vs->(∀ i∈is,i < σ.length)->(∀ i∈is,base.get i=none)->AbE K mg G ρ σ->AbE K mg G base σ->
  AbE K mg G (z9c is ds ρ) ((is.zip vs).foldl (fun σ p=>σ.set p.1 (some p.2)) σ)/\AbE K mg G base ((is.zip vs).foldl (fun σ p=>σ.set p.1 (some p.2)) σ)/\((is.zip vs).foldl (fun σ p=>σ.set p.1 (some p.2)) σ).length=σ.length
 | [],[],vs,ρ,σ,_,h,_,_,ab,bb=>by rw[RDs] at h; subst h; exact⟨ab,bb,rfl⟩
 | [],_::_,_,_,_,h,_,_,_,_,_=>by simp at h
 | _::_,[],_,_,_,h,_,_,_,_,_=>by simp at h
 | i::is,d::ds,vs,ρ,σ,h,r,hl,hn,ab,bb=>by
  rw[RDs] at r
  obtain⟨v,vs',rfl,h1,h2⟩:=r
  obtain⟨a1,a2,a3⟩:=AbE.putAll (base:=base) is ds vs' (ρ:=ρ.set i (.s d)) (σ:=σ.set i (some v)) (by simpa using h) h2 (fun j hj=>by rw[List.length_set]; exact hl j (List.mem_cons_of_mem _ hj)) (fun j hj=>hn j (List.mem_cons_of_mem _ hj)) (ab.put (hl i List.mem_cons_self) h1) (bb.keep (hn i List.mem_cons_self))
  exact⟨a1,a2,by rw[List.zip_cons_cons,List.foldl_cons,a3,List.length_set]⟩
def zc0 {tg:Tg}{d:D}{v:V}{N0:Pu.Env->Prop}{N:L2.St->Hp->Prop}(ab:AbE K mg G ρ σ)(g:Same G H)(rd:RD K mg G d v)(hl:∀ i∈tg.slots,i < σ.length)(hf:∀ i∈tg.slots,ρ.get i=none)(hp:tg.put d ρ N0)
  (hn:∀ ρ' σ',N0 ρ'->AbE K mg G ρ' σ'->AbE K mg G ρ σ'->σ'.length=σ.length->N σ' H):tgt K tg v σ H N:=by
 cases tg with
 | nm i=>
  have h1:=hl i (by simp[Tg.slots])
  have h2:=hf i (by simp[Tg.slots])
  exact hn _ _ hp (ab.put h1 rd) (ab.keep h2) (by simp)
 | tp is=>
  cases d with
  | tup ds=>
   obtain⟨hle,hp⟩:=hp
   rw[RD] at rd
   obtain⟨a,xs,rfl,h1,h2⟩:=rd
   obtain⟨a1,a2,a3⟩:=AbE.putAll (base:=ρ) is ds xs (ρ:=ρ) (σ:=σ) hle h2 hl hf ab ab
   exact⟨a,xs,rfl,z1r g h1,by rw[h2.len,hle],z5A (K:=K) is xs σ H N (by rw[h2.len,hle]) (hn _ _ hp a1 a2 a3)⟩
  | _=>exact hp.elim
def z6r {nt:Nat}{js:List Nat}(h:AbE K mg G ρ σ):AbE K mg G (z0K nt js ρ) (List.replicate nt none++js.map fun j=>(σ[j]?).getD none):=fun i d e=>by
 rw[Env.get_eq] at e
 unfold z0K at e
 by_cases hi:i < nt
 ·rw[List.getElem?_append_left (by simpa using hi),List.getElem?_replicate,if_pos hi] at e
  cases e
 ·rw[List.getElem?_append_right (by simpa using hi),List.length_replicate,List.getElem?_map] at e
  rw[List.getElem?_append_right (by simpa using hi),List.length_replicate,List.getElem?_map]
  cases q:js[i - nt]? with
  | none=>rw[q] at e; cases e
  | some j=>
   rw[q] at e
   have e':((ρ[j]?).getD .n).get=some d:=e
   have e2:ρ.get j=some d:=by
    rw[Env.get_eq]
    cases z:ρ[j]? with
    | none=>rw[z] at e'; cases e'
    | some b=>rw[z] at e'; exact e'
   obtain⟨v,h1,h2⟩:=h j d e2
   refine⟨v,?_,h2⟩
   show some ((σ[j]?).getD none)=some (some v)
   rw[h1]; rfl
def z8f {nt:Nat}{js:List Nat}{i:Nat}(hi:i < nt):(z0K nt js ρ).get i=none:=by
 rw[Env.get_eq]
 unfold z0K
 rw[List.getElem?_append_left (by simpa using hi),List.getElem?_replicate,if_pos hi]
 rfl
def TcOk (K:W.Frag)(mg:Str->Option Value)(c:Option Ex)(tc:TT):Prop:=match c with
 | none=>tc=z7r
 | some c=>tc=tt K mg E0 c
def zcT {nt:Nat}{js:List Nat}{tg:Tg}{c:Option Ex}{elt:Ex}{l:List D}{J:It}{tc:TT}{Q0:List D->Prop}{Q:VK}(hts:∀ i∈tg.slots,i < nt)(ab:AbE K mg G ρ σ)(g:Same G H)(hw:Walk K mg G l J)(hsz:l.length < sizeLine)
  (hr:z3B (z3l tg c elt (z0K nt js ρ)) l Q0)
  (htc:TcOk K mg c tc)
  (hk:∀ rs ys p G2 H2,Q0 rs->Gr G H G2->Same G2 H2->Same H H2->RDs K mg G2 rs ys->H2 p=none->Q (.ref p) (upd H2 p (.lst ys))):
  LcG J (tgt K tg) tc (tx K mg E0 elt) Q (List.replicate nt none++js.map fun j=>(σ[j]?).getD none) H:=by
 refine⟨fun i m ys σ' H'=>m=l.length - i/\i<=l.length/\ys.length<=i/\σ'.length=nt+js.length/\∃ G' rs,Gr G H G'/\Same G' H'/\Same H H'/\RDs K mg G' rs ys/\AbE K mg G' (z0K nt js ρ) σ'/\z3B (z3l tg c elt (z0K nt js ρ)) (l.drop i) fun r=>Q0 (rs++r),
  ⟨l.length,by simp,Nat.zero_le _,by simp,by simp,G,[],Gr.refl,g,Same.refl',RDs.nil,z6r ab,by simpa using hr⟩,?_⟩
 rintro i m ys σ1 H1 ⟨rfl,hi,hyl,hsl,G1,rs,g1,g2,g3,rds,ab1,h1⟩
 refine⟨by omega,?_⟩
 obtain⟨w1,w2⟩:=hw i G1 H1 g1.1 g2
 by_cases hlt:i < l.length
 ·have e:l[i]? = some l[i]:=by simp[hlt]
  obtain⟨go,yl⟩:=w1 _ e
  rw[List.drop_eq_getElem_cons hlt] at h1
  have h1':z3l tg c elt (z0K nt js ρ) l[i] (fun o=>z3B (z3l tg c elt (z0K nt js ρ)) (l.drop (i+1)) fun r=>Q0 (rs++(o.toList++r))):=h1
  unfold z3l at h1'
  refine .inr ⟨go,fun v H2 y => ?_⟩
  obtain⟨s2,G2,k1,k2,rd⟩:=yl v H2 y
  refine zc0 (ab1.same k1.1) k2 rd (fun j hj=>by rw[hsl]; have:=hts j hj; omega) (fun j hj=>z8f (hts j hj)) h1' fun ρ3 σ3 hb ab3 bb3 hl3 => ?_
  have el:∀ {G3 H3:Hp},Gr G2 H2 G3->Same G3 H3->Same H2 H3->(elt.run ρ3 (fun d=>z3B (z3l tg c elt (z0K nt js ρ)) (l.drop (i+1)) fun r=>Q0 (rs++((some d:Option D).toList++r))) fun _=>False)->
    tx K mg E0 elt σ3 H3 fun y H4=>∃ m',m' < l.length - i/\m'=l.length - (i+1)/\i+1<=l.length/\(ys++[y]).length<=i+1/\σ3.length=nt+js.length/\∃ G' rs',Gr G H G'/\Same G' H4/\Same H H4/\RDs K mg G' rs' (ys++[y])/\AbE K mg G' (z0K nt js ρ) σ3/\z3B (z3l tg c elt (z0K nt js ρ)) (l.drop (i+1)) fun r=>Q0 (rs'++r):=fun {G3 H3} k3 k4 k5 he=>by
   refine⟨G3,ρ3,_,fun _=>False,k4,ab3.same k3.1,he,fun d v' G4 H4 q n1 n2 n3 rd' => ?_,Kx.no⟩
   refine⟨l.length - (i+1),by omega,rfl,hlt,by simp; omega,by rw[hl3,hsl],G4,rs++[d],g1.trans g3 (k1.trans s2 (k3.trans k5 n1)),n2,z07 g3 (z07 s2 (z07 k5 n3)),((rds.same (z07 k1.1 (z07 k3.1 n1.1))).app (RDs.cons rd' RDs.nil)),bb3.same (z07 k3.1 n1.1),?_⟩
   refine z2o z33 _ _ _ (fun r q => ?_) q
   simpa using q
  cases c with
  | none=>
   have:tc=z7r:=htc
   subst this
   unfold z7r; dsimp only
   rw[if_pos rfl]
   exact el Gr.refl k2 Same.refl' hb
  | some c=>
   have:tc=tt K mg E0 c:=htc
   subst this
   refine⟨G2,ρ3,_,fun _=>False,k2,ab3,hb,fun d G3 H3 q k3 k4 k5 => ?_,Kx.no⟩
   obtain⟨b,rfl,q1,q2⟩:=z6c q
   refine⟨b,rfl,?_⟩
   cases b with
   | true=>exact iteT (el k3 k4 k5 (q1 rfl))
   | false=>
    refine iteF ⟨l.length - (i+1),by omega,rfl,hlt,by omega,by rw[hl3,hsl],G3,rs,g1.trans g3 (k1.trans s2 k3),k4,z07 g3 (z07 s2 k5),rds.same (z07 k1.1 k3.1),bb3.same k3.1,?_⟩
    refine z2o z33 _ _ _ (fun r q => ?_) (q2 rfl)
    simpa using q
 ·have e:i=l.length:=by omega
  subst e
  rw[List.drop_length] at h1
  refine .inl ⟨w2 (Nat.le_refl _),fun p hp=>hk rs ys p G1 H1 ?_ g1 g2 g3 rds hp⟩
  have h1':Q0 (rs++[]):=h1
  simpa using h1'
def zdP {E:XK}{nt:Nat}{js:List Nat}{tg:Tg}{src:Ex}{c:Option Ex}{elt:Ex}{tc:TT}{Q:VK}(hts:∀ i∈tg.slots,i < nt)(htc:TcOk K mg c tc)(h:tf K mg E (.comp nt js tg src c elt) σ H Q):tLcG (ti K mg E src) (tgt K tg) tc (tx K mg E0 elt) nt js σ H Q:=by
 obtain⟨G,ρ,Q0,X0,hs,ab,hr,hk,hx⟩:=h
 refine⟨G,ρ,_,X0,hs,ab,hr,fun d q=>(z9u q).imp fun _ z=>z.1,fun d G1 H1 q g1 g2 g3 l J el hw => ?_,hx⟩
 have q':onL (z05 d) fun l=>l.length < sizeLine/\z3B (z3l tg c elt (z0K nt js ρ)) l fun r=>Q0 (.lst r):=q
 rw[el] at q'
 refine zcT hts (ab.same g1.1) g2 hw q'.1 q'.2 htc fun rs ys p G2 H2 hq k1 k2 k3 rds hp => ?_
 have hn:∀ {A:Hp},Same A H2->A p=none:=fun s=>z22 s hp
 refine hk (.lst rs) p G2 (upd H2 p (.lst ys)) hq (g1.trans g3 k1) (z07 k2 (z0D hp _)) (z07 g3 (z07 k3 (z0D hp _))) (hn (z07 g3 k3)) (hn k2) ⟨ys,z0i,rds⟩
end
section
variable {X:Cx}{E:XK}{elt iter target:Expr}{ct:Option Expr}{pos spos py:Pos}{scope:Scope}{N':List Str}{nt:Nat}{js:List Nat}{tg:Tg}{src x:Ex}{c:Option Ex}{y:Str}{iy:Nat}
def CtOk (X:Cx)(scope:Scope)(N':List Str)(ct:Option Expr)(c:Option Ex):Prop:=match ct,c with
 | none,none=>True
 | some e,some x=>∀ (C:Addr) (s:Shared) (H:Hp) (fp:List Addr),QXT (X.compG scope N' C s H fp) E0 e x
 | _,_=>False
def CtQ (X:Cx)(scope:Scope)(N':List Str)(ct:Option Expr)(tc:TT):Prop:=match ct with
      | none=>tc=z7r
      | some c=>∀ (C:Addr) (s:Shared) (H:Hp) (fp:List Addr),QT (X.compG scope N' C s H fp) c tc
def zd8 (h:CtOk X scope N' ct c):∃ tc:TT,CtQ X scope N' ct tc/\TcOk X.K X.mg c tc:=by
 cases ct with
 | none=>
  cases c with
  | none=>exact⟨z7r,rfl,rfl⟩
  | some c=>exact h.elim
 | some e=>
  cases c with
  | none=>exact h.elim
  | some c=>exact⟨tt X.K X.mg E0 c,h,rfl⟩
def z5m (hc:X.calm=true)(hi:QXI X E target iter src)(hk:scope.kind = .function)(cp:z3D X N' nt js scope)(hts:tg.slots.all (· < nt)=true)
  (hg:∀ (C:Addr) (s:Shared) (H:Hp) (fp:List Addr),QG (X.compG scope N' C s H fp) target (tgt X.K tg)) (ht:CtOk X scope N' ct c)
  (he:∀ (C:Addr) (s:Shared) (H:Hp) (fp:List Addr),QX (X.compG scope N' C s H fp) E0 elt x) (hs:∀ x,foldedSetIterable iter X.env x=pure x:=by intro _; rfl):QF X E (.ListComp elt [⟨target,iter,ct.toList,0⟩] scope pos) (.comp nt js tg src c x):=by
 obtain⟨tc,h1,h2⟩:=zd8 ht
 exact QE.imp (zfN hc hi hk cp hg h1 he hs) fun σ H Q h=>zdP (fun i hi=>of_decide_eq_true (List.all_eq_true.mp hts i hi)) h2 h
def z7H {i:Nat}{z:Str}{pos:Pos}(hN:X.N.Nodup)(hi:X.N[i]? = some z)(hx:X.env.scope.names.lookup z=some .local):QG X (.Name z pos) (tgt X.K (.nm i)):=zhJ hN hi hx
def pTup:Fn:=⟨fun ds Q _=>ds.length<=sizeLine/\Q (.tup ds),fun ds Q Q' X X' m _ q=>⟨q.1,m _ q.2⟩⟩
def pLst:Fn:=⟨fun ds Q _=>ds.length<=sizeLine/\Q (.lst ds),fun ds Q Q' X X' m _ q=>⟨q.1,m _ q.2⟩⟩
def z5j {es:List Expr}{xs:List Ex}{x1}(h:QXA X E es xs):QX X E (.Tuple es x1 pos) (.op pTup xs):=QE.imp (⟨zfZ h.p⟩:QE X (.Tuple es x1 pos) _) fun σ H Q ⟨G,ρ,Q0,X0,hs,ab,hr,hk,hx⟩=>by
 refine⟨G,ρ,_,X0,hs,ab,hr,fun ds vs G1 H1 q g1 g2 g3 rds=>⟨by rw[rds.len]; exact q.1,fun p hp => ?_⟩,hx⟩
 refine(hk.same g1 g3).new g2 hp q.2 ?_
 rw[RD]
 exact⟨p,vs,rfl,SqT.of z0i,rds.same (z0D (z22 g2 hp) _)⟩
def z9m {es:List Expr}{xs:List Ex}(h:QXA X E es xs):QF X E (.List es pos) (.op pLst xs):=QE.imp (zfM h) fun σ H Q ⟨G,ρ,Q0,X0,hs,ab,hr,hk,hx⟩=>by
 refine⟨G,ρ,_,X0,hs,ab,hr,fun ds vs G1 H1 q g1 g2 g3 rds=>⟨by rw[rds.len]; exact q.1,fun p hp => ?_⟩,hx⟩
 exact hk (.lst ds) p G1 (upd H1 p (.lst vs)) q.2 g1 (z07 g2 (z0D hp _)) (z07 g3 (z0D hp _)) (z22 g3 hp) (z22 g2 hp) ⟨vs,z0i,rds⟩
end
def fn2 (g:D->D->DK->Prop)(m:∀ a b (Q Q':DK),(∀ d,Q d->Q' d)->g a b Q->g a b Q'):Fn:=⟨fun ds Q _=>match ds with
 | [a,b]=>g a b Q
 | _=>False,fun ds Q Q' X X' mm _ q=>by
 match ds,q with
 | [a,b],q=>exact m a b Q Q' mm q
 | [],q=>exact q.elim
 | [_],q=>exact q.elim
 | _::_::_::_,q=>exact q.elim⟩
def fn1 (g:D->DK->Prop)(m:∀ a (Q Q':DK),(∀ d,Q d->Q' d)->g a Q->g a Q'):Fn:=⟨fun ds Q _=>match ds with
 | [a]=>g a Q
 | _=>False,fun ds Q Q' X X' mm _ q=>by
 match ds,q with
 | [a],q=>exact m a Q Q' mm q
 | [],q=>exact q.elim
 | _::_::_,q=>exact q.elim⟩
def z9r {o:Option D}{Q Q':DK}(m:∀ d,Q d->Q' d)(h:onV o Q):onV o Q':=by
 cases o with
 | none=>exact h
 | some d=>exact m _ h
def z9q {o:Option D}{Q:DK}(h:onV o Q):∃ d,o=some d/\Q d:=by
 cases o with
 | none=>exact h.elim
 | some d=>exact⟨d,rfl,h⟩
def gAdd (a b:D)(Q:DK):Prop:=match a,b with
 | .int i,.int j=>Q (.int (i+j))
 | .str x,.str y=>x.length+y.length<=sizeLine/\Q (.str (x++y))
 | .lst l,.lst m=>l.length+m.length<=sizeLine/\Q (.lst (l++m))
 | .tup l,.tup m=>l.length+m.length<=sizeLine/\Q (.tup (l++m))
 | _,_=>False
def zbA (a b:D)(Q Q':DK)(m:∀ d,Q d->Q' d)(h:gAdd a b Q):gAdd a b Q':=by
 unfold gAdd at h ⊢
 split at h
 ·exact m _ h
 ·exact⟨h.1,m _ h.2⟩
 ·exact⟨h.1,m _ h.2⟩
 ·exact⟨h.1,m _ h.2⟩
 ·exact h.elim
def pAdd:Fn:=fn2 gAdd zbA
def gI (g:Int->Int->DK->Prop)(a b:D)(Q:DK):Prop:=match a,b with
 | .int i,.int j=>g i j Q
 | _,_=>False
def zeO {g:Int->Int->DK->Prop}(hg:∀ i j (Q Q':DK),(∀ d,Q d->Q' d)->g i j Q->g i j Q')(a b:D)(Q Q':DK)(m:∀ d,Q d->Q' d)(h:gI g a b Q):gI g a b Q':=by
 unfold gI at h ⊢
 split at h
 ·exact hg _ _ _ _ m h
 ·exact h.elim
def fnI (g:Int->Int->DK->Prop)(hg:∀ i j (Q Q':DK),(∀ d,Q d->Q' d)->g i j Q->g i j Q'):Fn:=fn2 (gI g) (zeO hg)
def pSub:Fn:=fnI (fun i j Q=>Q (.int (i - j))) fun _ _ _ _ m h=>m _ h
def z30:Fn:=fnI (fun i j Q=>zhu i j/\Q (.int (i.fdiv j))) fun _ _ _ _ m h=>⟨h.1,m _ h.2⟩
def pMod:Fn:=fnI (fun i j Q=>j≠0/\Q (.int (i.fmod j))) fun _ _ _ _ m h=>⟨h.1,m _ h.2⟩
def pPow:Fn:=fnI (fun i j Q=>CPow i j/\Q (.int (i ^ j.toNat))) fun _ _ _ _ m h=>⟨h.1,m _ h.2⟩
def gNeg (a:D)(Q:DK):Prop:=match a with
 | .int i=>Q (.int (-i))
 | _=>False
def pNeg:Fn:=fn1 gNeg fun a Q Q' m h=>by
 unfold gNeg at h ⊢
 split at h
 ·exact m _ h
 ·exact h.elim
section
variable {X:Cx}{K:W.Frag}{mg:Str->Option Value}
def r2 (K:W.Frag)(mg:Str->Option Value)(F:Fn):R2:=fun v1 v2 H Q=>∃ G d1 d2 Q0 X0,Same G H/\RD K mg G d1 v1/\RD K mg G d2 v2/\F.run [d1,d2] Q0 X0/\Kt K mg G H Q0 Q
def r1 (K:W.Frag)(mg:Str->Option Value)(F:Fn):V->Hp->VK->Prop:=fun v H Q=>∃ G d Q0 X0,Same G H/\RD K mg G d v/\F.run [d] Q0 X0/\Kt K mg G H Q0 Q
def rN (K:W.Frag)(mg:Str->Option Value)(F:Fn):List V->Hp->VK->Prop:=fun vs H Q=>∃ G ds Q0 X0,Same G H/\RDs K mg G ds vs/\F.run ds Q0 X0/\Kt K mg G H Q0 Q
def lk2 {F:Fn}:Lk2 K mg F (r2 K mg F):=fun G H d1 d2 v1 v2 Q0 X0 Q a b c d e=>⟨G,d1,d2,Q0,X0,a,b,c,d,e⟩
def lk1 {F:Fn}:Lk1 K mg F (r1 K mg F):=fun G H d v Q0 X0 Q a b c d=>⟨G,_,Q0,X0,a,b,c,d⟩
def lkN {F:Fn}:LkN K mg F (rN K mg F):=fun G H d v Q0 X0 Q a b c d=>⟨G,_,Q0,X0,a,b,c,d⟩
def zda {prog:Program}{w:World}{A:Around}{E:Value->Shared->Prop}{s:Shared}{t b:Addr}{ws:List Value}{Q:Value->Shared->Prop}(ht:IsTup s.heap t ([]:List Value).toArray)(hb:IsTup s.heap b ws.toArray)(h:Q (.ref b) s):wpAny (model prog w) A (binaryOp .Add (.ref t) (.ref b)) Q E s:=by
 obtain⟨⟨cls,dd,data,sl⟩,ho,hc,n,hd⟩:=id ht
 obtain⟨⟨cls2,dd2,data2,sl2⟩,ho2,hc2,n2,hd2⟩:=id hb
 simp only at hc hd hc2 hd2
 subst hc hd hc2 hd2
 exact concat_meets ⟨_,ho,rfl⟩ ⟨_,ho2,rfl⟩ noFill_tuple_add seq_tuple_add PySem.F.slot_tuple_add PySem.F.entry_tuple_add (PySem.F.args_tuple_add_2 _ _)
   (tuple_addW0 t b _ ws.toArray n n2 dd dd2 sl sl2 (by simp)) ⟨ho,ho2,h⟩
def zcD:OpR X (binaryOp .Add) (fun x y H Q=>∃ a b ys,x = .ref a/\y = .ref b/\SqT X.K H a []/\SqT X.K H b ys/\Q (.ref b) H):=by
 intro pins s σ H x y v u Q I rx ry h
 obtain⟨a,b,ys,rfl,rfl,ha,hb,q⟩:=h
 cases rx
 cases ry
 obtain⟨its,r1,p1,_⟩:=I.tuple ha
 obtain⟨its2,r2,p2,_⟩:=I.tuple hb
 cases r1
 exact zda p1 p2 ⟨.ref b,H,I,rfl,q⟩
def zhF (K:W.Frag):R2:=fun x y H Q=>∃ l b xs zs,x = .ref l/\y = .ref b/\SqL K H l xs/\SqL K H b zs/\xs.length+zs.length<=sizeLine/\∀ p,H p=none->Q (.ref p) (upd H p (.lst (xs++zs)))
def zeu:OpR X (binaryOp .Add) (zhF X.K):=by
 intro pins s σ H x y v u Q I rx ry h
 obtain⟨l,b,xs,zs,rfl,rfl,hH,hB,hz,q⟩:=h
 cases rx
 cases ry
 obtain⟨its,r,⟨⟨cls,dd,data,sl⟩,n,e,hc,_,hd⟩,z1⟩:=I.list hH
 obtain⟨its2,r2,⟨⟨cls2,dd2,data2,sl2⟩,n2,e2,hc2,_,hd2⟩,z2⟩:=I.list hB
 dsimp only at hc hd hc2 hd2
 subst hc hd hc2 hd2
 have l1:=r.length
 have l2:=r2.length
 have ea:its.toArray++its2.toArray=(its++its2).toArray:=by simp
 refine concat_meets ⟨_,e,rfl⟩ ⟨_,e2,rfl⟩ noFill_list_add seq_list_add PySem.F.slot_list_add PySem.F.entry_list_add (PySem.F.args_list_add_2 _ _) (list_addW l b its.toArray its2.toArray n n2 dd dd2 sl sl2 (by simp only[List.size_toArray]; omega)) ⟨e,e2,?_⟩
 rw[ea]
 exact⟨.ref _,_,I.lnew (t':=s.toks) (r.append r2) (by rw[List.length_append]; omega),rfl,q _ I.fresh⟩
def z2s {G:Hp}{l:List D}{v:V}(h:RD K mg G (.tup l) v):∃ a xs,v = .ref a/\SqT K G a xs/\RDs K mg G l xs:=by rw[RD] at h; exact h
def z2h {G:Hp}{l:List D}{v:V}(h:RD K mg G (.lst l) v):∃ a xs,v = .ref a/\SqL K G a xs/\RDs K mg G l xs:=by rw[RD] at h; exact h
def z3Q {G:Hp}{x:Str}{v:V}(h:RD K mg G (.str x) v):v = .str x:=by rw[RD] at h; exact h
def z8C {G:Hp}{x:Bool}{v:V}(h:RD K mg G (.bl x) v):v = .bl x:=by rw[RD] at h; exact h
def zaQ {G:Hp}{v:V}(h:RD K mg G .non v):v = .non:=by rw[RD] at h; exact h
def RD.newT {G H:Hp}{p:Addr}{l:List D}{xs:List V}(r:RDs K mg G l xs)(g:Same G H)(hp:H p=none):RD K mg (upd G p (.tup xs)) (.tup l) (.ref p):=by
 rw[RD]
 exact⟨p,xs,rfl,SqT.of z0i,r.same (z0D (z22 g hp) _)⟩
def RD.newL {G H:Hp}{p:Addr}{l:List D}{xs:List V}(r:RDs K mg G l xs)(g:Same G H)(hp:H p=none):RD K mg (upd G p (.lst xs)) (.lst l) (.ref p):=by
 rw[RD]
 exact⟨p,xs,rfl,SqL.of z0i,r.same (z0D (z22 g hp) _)⟩
def RD.ofT {G:Hp}{a:Addr}{l:List D}{xs:List V}(h:SqT K G a xs)(r:RDs K mg G l xs):RD K mg G (.tup l) (.ref a):=by rw[RD]; exact⟨a,xs,rfl,h,r⟩
def RD.ofL {G:Hp}{a:Addr}{l:List D}{xs:List V}(h:SqL K G a xs)(r:RDs K mg G l xs):RD K mg G (.lst l) (.ref a):=by rw[RD]; exact⟨a,xs,rfl,h,r⟩
def RD.int' {G:Hp}{i:Int}:RD K mg G (.int i) (.int i):=by rw[RD]
def RD.bl' {G:Hp}{i:Bool}:RD K mg G (.bl i) (.bl i):=by rw[RD]
def RD.str' {G:Hp}{i:Str}:RD K mg G (.str i) (.str i):=by rw[RD]
def RDs.ne_nil {G:Hp}{l:List D}{xs:List V}(r:RDs K mg G l xs):xs=[]↔l=[]:=by
 have:=r.len
 constructor
 ·rintro rfl; exact List.length_eq_zero_iff.mp this.symm
 ·rintro rfl; exact List.length_eq_zero_iff.mp this
def z1v:OpR X (binaryOp .Add) (r2 X.K X.mg pAdd):=by
 intro pins s σ H x y v u Q I rx ry ⟨G,d1,d2,Q0,X0,g,h1,h2,hr,hk⟩
 have hr':gAdd d1 d2 Q0:=hr
 unfold gAdd at hr'
 split at hr'
 ·exact zgi pins s σ H x y v u Q I rx ry ⟨_,_,z1e h1,z1e h2,hk.now g hr' RD.int'⟩
 ·exact za4 pins s σ H x y v u Q I rx ry ⟨_,_,z3Q h1,z3Q h2,hr'.1,hk.now g hr'.2 RD.str'⟩
 ·obtain⟨a,xs,rfl,s1,r1⟩:=z2h h1
  obtain⟨b,zs,rfl,s2,r2⟩:=z2h h2
  exact zeu pins s σ H _ _ v u Q I rx ry ⟨a,b,xs,zs,rfl,rfl,z1G g s1,z1G g s2,by rw[r1.len,r2.len]; exact hr'.1,fun p hp=>hk.new g hp hr'.2 (RD.newL (r1.app r2) g hp)⟩
 ·obtain⟨a,xs,rfl,s1,r1⟩:=z2s h1
  obtain⟨b,zs,rfl,s2,r2⟩:=z2s h2
  by_cases hx:xs=[]
  ·subst hx
   have e:=r1.ne_nil.mp rfl
   subst e
   exact zcD pins s σ H _ _ v u Q I rx ry ⟨a,b,zs,rfl,rfl,z1r g s1,z1r g s2,hk.now g hr'.2 (RD.ofT s2 r2)⟩
  ·refine zet pins s σ H _ _ v u Q I rx ry ⟨a,b,xs,zs,rfl,rfl,z1r g s1,z1r g s2,hx,by rw[r1.len,r2.len]; exact hr'.1,fun e => ?_,fun e p hp=>hk.new g hp hr'.2 (RD.newT (r1.app r2) g hp)⟩
   have e:=r2.ne_nil.mp e
   subst e
   refine hk.now g hr'.2 ?_
   rw[List.append_nil]
   exact RD.ofT s1 r1
 ·exact hr'.elim
def zbz {g:Int->Int->DK->Prop}{a b:D}{Q:DK}(h:gI g a b Q):∃ i j,a = .int i/\b = .int j/\g i j Q:=by
 unfold gI at h
 split at h
 ·exact⟨_,_,rfl,rfl,h⟩
 ·exact h.elim
def zcH {f:Value->Value->Sem Value}{C:Int->Int->Prop}{gv:Int->Int->Int}{hg}(h:OpR X f (rI C fun i j =>.int (gv i j))):OpR X f (r2 X.K X.mg (fnI (fun i j Q=>C i j/\Q (.int (gv i j))) hg)):=h.imp fun x y H Q ⟨G,d1,d2,Q0,X0,g,h1,h2,hr,hk⟩=>by
 obtain⟨i,j,rfl,rfl,c,q⟩:=zbz (show gI (fun i j Q=>C i j/\Q (.int (gv i j))) d1 d2 Q0 from hr)
 exact⟨i,j,z1e h1,z1e h2,c,hk.now g q RD.int'⟩
def z1H:OpR X (binaryOp .Sub) (r2 X.K X.mg pSub):=zgb.imp fun x y H Q ⟨G,d1,d2,Q0,X0,g,h1,h2,hr,hk⟩=>by
 obtain⟨i,j,rfl,rfl,q⟩:=zbz (show gI (fun i j Q=>Q (.int (i - j))) d1 d2 Q0 from hr)
 exact⟨i,j,z1e h1,z1e h2,hk.now g q RD.int'⟩
def z1s:OpR X (binaryOp .FloorDiv) (r2 X.K X.mg z30):=zcH zcC
def z1I:OpR X (binaryOp .Mod) (r2 X.K X.mg pMod):=zcH zes
def z7V:OpR X (binaryOp .Pow) (r2 X.K X.mg pPow):=zcH zgc
def z7O:UnR X (unaryOp .USub) (r1 X.K X.mg pNeg):=by
 intro pins s σ H x v Q I rx ⟨G,d,Q0,X0,g,h1,hr,hk⟩
 have hr':gNeg d Q0:=hr
 unfold gNeg at hr'
 split at hr'
 ·exact zf0 pins s σ H x v Q I rx ⟨_,z1e h1,hk.now g hr' RD.int'⟩
 ·exact hr'.elim
def z0y:Fn:=fnI (fun i j Q=>zeX i j/\Q (.int (i*j))) fun _ _ _ _ m h=>⟨h.1,m _ h.2⟩
def z0k:OpR X (binaryOp .Mult) (r2 X.K X.mg z0y):=zcH zer
end
end Pu
namespace HT
open PySem PyProof.Rows
section
open PySem.SeqAt
open PySem.AutoSeq1 (wpAny_loadPart')
open PySem.MeetsSeq PySem.MeetsSeq2 PySem.MeetsSeq3
def zch (A:Around)(s:Shared)(a:Int)(t:Tok)(c:Int)(u:Tok)(prog:Program)(w:World)(E:Value->Shared->Prop)(Q:Value->Shared->Prop)(h:Q (.bool (decide (c < a))) s):
  wpAny (model prog w) A (richCompare .Gt (.int a t) (.int c u)) Q E s:=
 (PyProof.Rows.gt_int h:wpAny (model prog w) A (compareOp .Gt (.int a t) (.int c u)) Q E s)
def z6B (l b:Addr)(z05 items2:Array Value)(n n2:Nat)(dd dd2:Option Addr)(sl sl2:Array (Option Value))(ns ms:List Int)(hi:IntsAre z05.toList ns)(hj:IntsAre items2.toList ms):
  Meets (Builtin.«tuple.__gt__» ⟨[.ref l,.ref b],[]⟩)
   (fun _ R s=>s.heap.get? l=some { cls :=.type "tuple",dict:=dd,data :=.seq z05 n,slots:=sl }/\s.heap.get? b=some { cls :=.type "tuple",dict:=dd2,data :=.seq items2 n2,slots:=sl2 }/\
    R (.ok (.ret (.bool (z0r ms ns)))) s):=
 .of_wp fun prog w A R s h=>by
  obtain⟨hp,g,d,tk,os⟩:=s; obtain⟨hl,hb,h⟩:=h
  have f2:=AutoSeq1.sub_tuple_tuple
  have z1:z05.size=ns.length:=by rw[<- hi.length]; simp
  have z2:items2.size=ms.length:=by rw[<- hj.length]; simp
  wp_walk using wpAny_loadPart' hl,wpAny_loadPart' hb,wpAny_forIn_list _ (fun rest b s'=>b.1=none/\s'=⟨hp,g,d,tk,os⟩/\∃ (vs ws:List Value) (ns' ms':List Int),rest=vs.zip ws/\
   IntsAre vs ns'/\IntsAre ws ms'/\ns'.length+items2.size=ms'.length+z05.size/\R (.ok (.ret (.bool (z0r ms' ns')))) ⟨hp,g,d,tk,os⟩) _
  case turn=>
   rintro⟨y,x⟩ rest b s' ⟨hb',rfl,vs,ws,ns',ms',hz,hvi,hwi,hlen,hR⟩
   cases hvi with
   | nil=>rw[List.zip_nil_left] at hz; cases hz
   | cons a t hvi'=>
    cases hwi with
    | nil=>rw[List.zip_nil_right] at hz; cases hz
    | cons c u hwi'=>
     rw[List.zip_cons_cons] at hz
     injection hz with hyx hrest
     injection hyx with hy hx
     subst hy hx
     rw[z1o] at hR
     simp only[List.length_cons] at hlen
     obtain⟨e,he,hiff⟩:=z78 A.in1 ⟨hp,g,d,tk,os⟩ a t c u
     refine wpAny_bind (he prog w _ _ ?_)
     cases e with
     | true=>
      rw[if_pos (hiff.mp rfl).symm] at hR
      wp_walk
      exact⟨rfl,rfl,_,_,_,_,hrest,hvi',hwi',by omega,hR⟩
     | false=>
      rw[if_neg (fun q=>absurd (hiff.mpr (Eq.symm q)) Bool.false_ne_true)] at hR
      have hri:=zch A.in1 ⟨hp,g,d,tk,os⟩ a t c u prog w
      wp_walk using hri
      exact⟨_,rfl,by simpa using hR⟩
  case fin=>
   rintro⟨b1,b2⟩ s' ⟨hb',rfl,vs,ws,ns',ms',hz,hvi,hwi,hlen,hR⟩
   simp only at hb'
   subst hb'
   have hv:z0r ms' ns'=decide (items2.size < z05.size):=by
    cases hvi with
    | nil=>
     cases hwi with
     | nil=>
      simp only[List.length_nil] at hlen
      rw[z2k]
      exact(decide_eq_false (by omega)).symm
     | cons c u hw=>
      simp only[List.length_nil,List.length_cons] at hlen
      rw[z2T]
      exact(decide_eq_false (by omega)).symm
    | cons a t hv=>
     cases hwi with
     | nil=>
      simp only[List.length_nil,List.length_cons] at hlen
      rw[z2S]
      exact(decide_eq_true (by omega)).symm
     | cons c u hw=>
      rw[List.zip_cons_cons] at hz
      cases hz
   rw[hv] at hR
   wp_walk
   exact⟨_,rfl,by simpa[Builtin.Tuple.tupleCompareSizes] using hR⟩
  case h=>
   exact⟨rfl,rfl,z05.toList,items2.toList,ns,ms,rfl,hi,hj,by omega,h⟩
def zcg (A:Around)(s:Shared)(a:Int)(t:Tok)(c:Int)(u:Tok)(prog:Program)(w:World)(E:Value->Shared->Prop)(Q:Value->Shared->Prop)(h:Q (.bool (decide (a<=c))) s):
  wpAny (model prog w) A (richCompare .LtE (.int a t) (.int c u)) Q E s:=
 (PyProof.Rows.le_int h:wpAny (model prog w) A (compareOp .LtE (.int a t) (.int c u)) Q E s)
def z6A (l b:Addr)(z05 items2:Array Value)(n n2:Nat)(dd dd2:Option Addr)(sl sl2:Array (Option Value))(ns ms:List Int)(hi:IntsAre z05.toList ns)(hj:IntsAre items2.toList ms):
  Meets (Builtin.«tuple.__le__» ⟨[.ref l,.ref b],[]⟩)
   (fun _ R s=>s.heap.get? l=some { cls :=.type "tuple",dict:=dd,data :=.seq z05 n,slots:=sl }/\s.heap.get? b=some { cls :=.type "tuple",dict:=dd2,data :=.seq items2 n2,slots:=sl2 }/\
    R (.ok (.ret (.bool (!z0r ms ns)))) s):=
 .of_wp fun prog w A R s h=>by
  obtain⟨hp,g,d,tk,os⟩:=s; obtain⟨hl,hb,h⟩:=h
  have f2:=AutoSeq1.sub_tuple_tuple
  have z1:z05.size=ns.length:=by rw[<- hi.length]; simp
  have z2:items2.size=ms.length:=by rw[<- hj.length]; simp
  wp_walk using wpAny_loadPart' hl,wpAny_loadPart' hb,wpAny_forIn_list _ (fun rest b s'=>b.1=none/\s'=⟨hp,g,d,tk,os⟩/\∃ (vs ws:List Value) (ns' ms':List Int),rest=vs.zip ws/\
   IntsAre vs ns'/\IntsAre ws ms'/\ns'.length+items2.size=ms'.length+z05.size/\R (.ok (.ret (.bool (!z0r ms' ns')))) ⟨hp,g,d,tk,os⟩) _
  case turn=>
   rintro⟨y,x⟩ rest b s' ⟨hb',rfl,vs,ws,ns',ms',hz,hvi,hwi,hlen,hR⟩
   cases hvi with
   | nil=>rw[List.zip_nil_left] at hz; cases hz
   | cons a t hvi'=>
    cases hwi with
    | nil=>rw[List.zip_nil_right] at hz; cases hz
    | cons c u hwi'=>
     rw[List.zip_cons_cons] at hz
     injection hz with hyx hrest
     injection hyx with hy hx
     subst hy hx
     rw[z1o] at hR
     simp only[List.length_cons] at hlen
     obtain⟨e,he,hiff⟩:=z78 A.in1 ⟨hp,g,d,tk,os⟩ a t c u
     refine wpAny_bind (he prog w _ _ ?_)
     cases e with
     | true=>
      rw[if_pos (hiff.mp rfl).symm] at hR
      wp_walk
      exact⟨rfl,rfl,_,_,_,_,hrest,hvi',hwi',by omega,hR⟩
     | false=>
      have hne:¬ c=a:=fun q=>absurd (hiff.mpr (Eq.symm q)) Bool.false_ne_true
      rw[if_neg hne] at hR
      have hri:=zcg A.in1 ⟨hp,g,d,tk,os⟩ a t c u prog w
      have ed:(!decide (c < a))=decide (a<=c):=by
       rw[<- decide_not,decide_eq_decide]; omega
      rw[ed] at hR
      wp_walk using hri
      exact⟨_,rfl,by simpa using hR⟩
  case fin=>
   rintro⟨b1,b2⟩ s' ⟨hb',rfl,vs,ws,ns',ms',hz,hvi,hwi,hlen,hR⟩
   simp only at hb'
   subst hb'
   have hv:(!z0r ms' ns')=decide (z05.size<=items2.size):=by
    cases hvi with
    | nil=>
     cases hwi with
     | nil=>
      simp only[List.length_nil] at hlen
      rw[z2k]
      exact(decide_eq_true (by omega)).symm
     | cons c u hw=>
      simp only[List.length_nil,List.length_cons] at hlen
      rw[z2T]
      exact(decide_eq_true (by omega)).symm
    | cons a t hv=>
     cases hwi with
     | nil=>
      simp only[List.length_nil,List.length_cons] at hlen
      rw[z2S]
      exact(decide_eq_false (by omega)).symm
     | cons c u hw=>
      rw[List.zip_cons_cons] at hz
      cases hz
   rw[hv] at hR
   wp_walk
   exact⟨_,rfl,by simpa[Builtin.Tuple.tupleCompareSizes] using hR⟩
  case h=>
   exact⟨rfl,rfl,z05.toList,items2.toList,ns,ms,rfl,hi,hj,by omega,h⟩
end
section
variable {prog:Program}{w:World}{A:Around}{E:Value->Shared->Prop}{s:Shared}
def zae {l b:Addr}{z05 items2:Array Value}{ns ms:List Int}{Q:Value->Shared->Prop}(hl:IsTup s.heap l z05)(hb:IsTup s.heap b items2)(hi:IntsAre z05.toList ns)(hj:IntsAre items2.toList ms)
  (hu:A.units < cLine) (h:Q (.bool (z0r ms ns)) s):wpAny (model prog w) A (compareOp .Gt (.ref l) (.ref b)) Q E s:=by
 obtain⟨⟨cls,dd,data,sl⟩,ho,hc,n,hd⟩:=id hl
 obtain⟨⟨cls2,dd2,data2,sl2⟩,ho2,hc2,n2,hd2⟩:=id hb
 simp only at hc hd hc2 hd2
 subst hc hd hc2 hd2
 exact richCompare_meets_room (op :=.Gt) ⟨_,ho,rfl⟩ ⟨_,ho2,rfl⟩ PySem.F.slot_tuple_gt PySem.F.entry_tuple_gt (PySem.F.args_tuple_gt_2 _ _) (z6B l b z05 items2 n n2 dd dd2 sl sl2 ns ms hi hj)
  ⟨ho,ho2,show Value.bool (z0r ms ns)≠Value.notImplemented/\Q (.bool (z0r ms ns)) s from ⟨(fun x=>nomatch x),h⟩⟩ hu
def zaa {l b:Addr}{z05 items2:Array Value}{ns ms:List Int}{Q:Value->Shared->Prop}(hl:IsTup s.heap l z05)(hb:IsTup s.heap b items2)(hi:IntsAre z05.toList ns)(hj:IntsAre items2.toList ms)
  (hu:A.units < cLine) (h:Q (.bool (!z0r ms ns)) s):wpAny (model prog w) A (compareOp .LtE (.ref l) (.ref b)) Q E s:=by
 obtain⟨⟨cls,dd,data,sl⟩,ho,hc,n,hd⟩:=id hl
 obtain⟨⟨cls2,dd2,data2,sl2⟩,ho2,hc2,n2,hd2⟩:=id hb
 simp only at hc hd hc2 hd2
 subst hc hd hc2 hd2
 exact richCompare_meets_room (op :=.LtE) ⟨_,ho,rfl⟩ ⟨_,ho2,rfl⟩ PySem.F.slot_tuple_le PySem.F.entry_tuple_le (PySem.F.args_tuple_le_2 _ _) (z6A l b z05 items2 n n2 dd dd2 sl sl2 ns ms hi hj)
  ⟨ho,ho2,show Value.bool (!z0r ms ns)≠Value.notImplemented/\Q (.bool (!z0r ms ns)) s from ⟨(fun x=>nomatch x),h⟩⟩ hu
end
end HT
namespace Pu
open PySem PySem.Spec PyProof.Rows L2
def ints? : List D->Option (List Int)
 | []=>some []
 | .int i::r=>match ints? r with
  | some l=>some (i::l)
  | none=>none
 | _::_=>none
def z5w:∀ {l:List D}{ns:List Int},ints? l=some ns->l=ns.map D.int
 | [],ns,h=>by
  have:ns=[]:=by simpa[ints?] using h.symm
  subst this; rfl
 | .int i::r,ns,h=>by
  unfold ints? at h
  cases q:ints? r with
  | none=>rw[q] at h; cases h
  | some l=>
   rw[q] at h
   cases h
   rw[z5w q]; rfl
 | .non::_,_,h=>by simp[ints?] at h
 | .bl _::_,_,h=>by simp[ints?] at h
 | .str _::_,_,h=>by simp[ints?] at h
 | .tup _::_,_,h=>by simp[ints?] at h
 | .lst _::_,_,h=>by simp[ints?] at h
 | .dct _ _::_,_,h=>by simp[ints?] at h
 | .fn _::_,_,h=>by simp[ints?] at h
 | .exc _::_,_,h=>by simp[ints?] at h
def onI (o:Option (List Int))(Q:List Int->Prop):Prop:=match o with
 | some l=>Q l
 | none=>False
def z9w {o:Option (List Int)}{Q Q':List Int->Prop}(m:∀ d,Q d->Q' d)(h:onI o Q):onI o Q':=by
 cases o with
 | none=>exact h
 | some d=>exact m _ h
def z9v {o:Option (List Int)}{Q:List Int->Prop}(h:onI o Q):∃ d,o=some d/\Q d:=by
 cases o with
 | none=>exact h.elim
 | some d=>exact⟨d,rfl,h⟩
def gCmp (f:Int->Int->Bool)(t:List Int->List Int->Bool)(a b:D)(Q:DK):Prop:=match a,b with
 | .int i,.int j=>Q (.bl (f i j))
 | .tup l,.tup m=>onI (ints? l) fun ns=>onI (ints? m) fun ms=>Q (.bl (t ns ms))
 | _,_=>False
def z5B {f:Int->Int->Bool}{t:List Int->List Int->Bool}(a b:D)(Q Q':DK)(m:∀ d,Q d->Q' d)(h:gCmp f t a b Q):gCmp f t a b Q':=by
 unfold gCmp at h ⊢
 split at h
 ·exact m _ h
 ·exact z9w (fun _ h=>z9w (fun _ h=>m _ h) h) h
 ·exact h.elim
def pLt:Fn:=fn2 (gCmp (fun i j=>decide (i < j)) fun ns ms=>HT.z0r ns ms) z5B
def pGt:Fn:=fn2 (gCmp (fun i j=>decide (j < i)) fun ns ms=>HT.z0r ms ns) z5B
def pLe:Fn:=fn2 (gCmp (fun i j=>decide (i<=j)) fun ns ms => !HT.z0r ms ns) z5B
section
variable {X:Cx}{K:W.Frag}{mg:Str->Option Value}
def z4d {G:Hp}:∀ (ns:List Int) {xs:List V},RDs K mg G (ns.map D.int) xs->xs=ns.map V.int
 | [],xs,h=>by rw[List.map_nil,RDs] at h; subst h; rfl
 | n::ns,xs,h=>by
  rw[List.map_cons,RDs] at h
  obtain⟨x,r,rfl,h1,h2⟩:=h
  rw[z1e h1,z4d ns h2]; rfl
def z6Z {G:Hp}:∀ (ns:List Int),RDs K mg G (ns.map D.int) (ns.map V.int)
 | []=>RDs.nil
 | n::ns=>RDs.cons RD.int' (z6Z ns)
def zew {op:CmpOp}{f:Int->Int->Bool}{t:List Int->List Int->Bool}{hm}(hi:OpR X (compareOp op) (rI0 fun i j =>.bl (f i j)))(ht:OpR X (compareOp op) (fun x y H Q=>∃ a b ns ms,x = .ref a/\y = .ref b/\SqT X.K H a (ns.map V.int)/\SqT X.K H b (ms.map V.int)/\Q (.bl (t ns ms)) H)):
  OpR X (compareOp op) (r2 X.K X.mg (fn2 (gCmp f t) hm)):=by
 intro pins s σ H x y v u Q I rx ry ⟨G,d1,d2,Q0,X0,g,h1,h2,hr,hk⟩
 have hr':gCmp f t d1 d2 Q0:=hr
 unfold gCmp at hr'
 split at hr'
 ·exact hi pins s σ H x y v u Q I rx ry ⟨_,_,z1e h1,z1e h2,hk.now g hr' RD.bl'⟩
 ·obtain⟨ns,e1,hr'⟩:=z9v hr'
  obtain⟨ms,e2,hr'⟩:=z9v hr'
  obtain⟨a,xs,rfl,s1,r1⟩:=z2s h1
  obtain⟨b,ys,rfl,s2,r2⟩:=z2s h2
  rw[z5w e1] at r1
  rw[z5w e2] at r2
  rw[z4d ns r1] at s1
  rw[z4d ms r2] at s2
  exact ht pins s σ H _ _ v u Q I rx ry ⟨a,b,ns,ms,rfl,rfl,z1r g s1,z1r g s2,hk.now g hr' RD.bl'⟩
 ·exact hr'.elim
def z8M (hu:X.A.units+64 < cLine):OpR X (compareOp .Lt) (r2 X.K X.mg pLt):=zew zi3 (zge (by omega))
def zgg (hu:X.A.units < cLine):OpR X (compareOp .Gt) (fun x y H Q=>∃ a b ns ms,x = .ref a/\y = .ref b/\SqT X.K H a (ns.map V.int)/\SqT X.K H b (ms.map V.int)/\Q (.bl (HT.z0r ms ns)) H):=by
 intro pins s σ H x y v u Q I rx ry h
 obtain⟨a,b,ns,ms,rfl,rfl,ha,hb,q⟩:=h
 cases rx
 cases ry
 obtain⟨its,r1,p1,_⟩:=I.tuple ha
 obtain⟨its2,r2,p2,_⟩:=I.tuple hb
 exact HT.zae p1 p2 (z2n r1) (z2n r2) hu ⟨.bl (HT.z0r ms ns),H,I,rfl,q⟩
def zgf (hu:X.A.units < cLine):OpR X (compareOp .LtE) (fun x y H Q=>∃ a b ns ms,x = .ref a/\y = .ref b/\SqT X.K H a (ns.map V.int)/\SqT X.K H b (ms.map V.int)/\Q (.bl (!HT.z0r ms ns)) H):=by
 intro pins s σ H x y v u Q I rx ry h
 obtain⟨a,b,ns,ms,rfl,rfl,ha,hb,q⟩:=h
 cases rx
 cases ry
 obtain⟨its,r1,p1,_⟩:=I.tuple ha
 obtain⟨its2,r2,p2,_⟩:=I.tuple hb
 exact HT.zaa p1 p2 (z2n r1) (z2n r2) hu ⟨.bl (!HT.z0r ms ns),H,I,rfl,q⟩
def z7U (hu:X.A.units+64 < cLine):OpR X (compareOp .Gt) (r2 X.K X.mg pGt):=zew zi5 (zgg (by omega))
def zgn (hu:X.A.units+64 < cLine):OpR X (compareOp .LtE) (r2 X.K X.mg pLe):=zew zi4 (zgf (by omega))
def pGeI:Fn:=fnI (fun i j Q=>Q (.bl (decide (j<=i)))) fun _ _ _ _ m h=>m _ h
end
mutual
def py:D->PyData
 | .non =>.none
 | .bl b =>.bool b
 | .int i =>.int i
 | .str x =>.str x
 | .tup l =>.tuple (pys l)
 | .lst l =>.list (pys l)
 | _ =>.none
def pys:List D->List PyData
 | []=>[]
 | d::ds=>py d::pys ds
end
def Da:Nat->D->Prop
 | _,.non=>True
 | _,.bl _=>True
 | _,.int _=>True
 | _,.str x=>PyData.strOk x=true
 | 0,.tup _=>False
 | n+1,.tup l=>∀ d∈l,Da n d
 | 0,.lst _=>False
 | n+1,.lst l=>∀ d∈l,Da n d
 | _,.dct _ _=>False
 | _,.fn _=>False
 | _,.exc _=>False
section
variable {X:Cx}{K:W.Frag}{mg:Str->Option Value}
def Da.tup {n:Nat}{l:List D}:Da (n+1) (.tup l)↔∀ d∈l,Da n d:=by rw[Da]
def Da.lst {n:Nat}{l:List D}:Da (n+1) (.lst l)↔∀ d∈l,Da n d:=by rw[Da]
def Da.int {n:Nat}{i:Int}:Da n (.int i):=by cases n <;> (rw[Da]; trivial)
def Da.str {n:Nat}{x:Str}:Da n (.str x)↔PyData.strOk x=true:=by cases n <;> rw[Da]
def Da.canLay:∀ (n:Nat) (d:D),Da n d->(py d).canLay0=true/\(py d).depth<=n:=by
 intro n
 induction n with
 | zero=>
  intro d h
  cases d with
  | non=>exact⟨rfl,Nat.le_refl _⟩
  | bl _=>exact⟨rfl,Nat.le_refl _⟩
  | int _=>exact⟨rfl,Nat.le_refl _⟩
  | str x=>exact⟨by rw[py,PyData.canLay0]; exact Da.str.mp h,by rw[py,PyData.depth]; exact Nat.le_refl _⟩
  | _=>rw[Da] at h; exact h.elim
 | succ n ih=>
  have all:∀ l:List D,(∀ d∈l,Da n d)->PyData.canLayAll0 (pys l)=true/\PyData.depthAll (pys l)<=n:=by
   intro l
   induction l with
   | nil=>intro _; exact⟨rfl,Nat.zero_le _⟩
   | cons d l ihl=>
    intro h
    obtain⟨a1,a2⟩:=ih d (h d List.mem_cons_self)
    obtain⟨b1,b2⟩:=ihl fun x hx=>h x (List.mem_cons_of_mem _ hx)
    rw[pys,PyData.canLayAll0,PyData.depthAll,a1,b1]
    exact⟨rfl,Nat.max_le.mpr ⟨a2,b2⟩⟩
  intro d h
  cases d with
  | non=>exact⟨rfl,Nat.zero_le _⟩
  | bl _=>exact⟨rfl,Nat.zero_le _⟩
  | int _=>exact⟨rfl,Nat.zero_le _⟩
  | str x=>exact⟨by rw[py,PyData.canLay0]; exact Da.str.mp h,by rw[py,PyData.depth]; exact Nat.zero_le _⟩
  | tup l=>
   obtain⟨a,b⟩:=all l (Da.tup.mp h)
   exact⟨by rw[py,PyData.canLay0]; exact a,by rw[py,PyData.depth]; omega⟩
  | lst l=>
   obtain⟨a,b⟩:=all l (Da.lst.mp h)
   exact⟨by rw[py,PyData.canLay0]; exact a,by rw[py,PyData.depth]; omega⟩
  | _=>rw[Da] at h; exact h.elim
def Da.shaped {n:Nat}{d:D}(h:Da n d)(hn:n<=64):PySem.SeqAt.shaped (py d)=true:=by
 obtain⟨a,b⟩:=Da.canLay n d h
 unfold PySem.SeqAt.shaped
 rw[a,decide_eq_true (Nat.le_trans b hn)]
 rfl
def Da.rp {G:Hp}:∀ (n:Nat) (d:D) {v:V},Da n d->RD K mg G d v->Rp K G (py d) v:=by
 intro n
 induction n with
 | zero=>
  intro d v h r
  cases d with
  | non=>rw[py,Rp]; exact zaQ r
  | bl _=>rw[py,Rp]; exact z8C r
  | int _=>rw[py,Rp]; exact z1e r
  | str x=>rw[py,Rp]; exact z3Q r
  | _=>rw[Da] at h; exact h.elim
 | succ n ih=>
  have all:∀ (l:List D) {xs:List V},(∀ d∈l,Da n d)->RDs K mg G l xs->RpL K G (pys l) xs:=by
   intro l
   induction l with
   | nil=>intro xs _ r; rw[RDs] at r; subst r; rw[pys,RpL]
   | cons d l ihl=>
    intro xs h r
    rw[RDs] at r
    obtain⟨x,r',rfl,r1,r2⟩:=r
    rw[pys,RpL]
    exact⟨x,r',rfl,ih d (h d List.mem_cons_self) r1,ihl (fun x hx=>h x (List.mem_cons_of_mem _ hx)) r2⟩
  intro d v h r
  cases d with
  | non=>rw[py,Rp]; exact zaQ r
  | bl _=>rw[py,Rp]; exact z8C r
  | int _=>rw[py,Rp]; exact z1e r
  | str x=>rw[py,Rp]; exact z3Q r
  | tup l=>
   obtain⟨a,xs,rfl,h1,h2⟩:=z2s r
   rw[py,Rp]
   exact⟨a,xs,rfl,h1,all l (Da.tup.mp h) h2⟩
  | lst l=>
   obtain⟨a,xs,rfl,h1,h2⟩:=z2h r
   rw[py,Rp]
   exact⟨a,xs,rfl,h1,all l (Da.lst.mp h) h2⟩
  | _=>rw[Da] at h; exact h.elim
end
def deq (a b:D):Bool:=PyData.eqv (py a) (py b)
def gEq (neg:Bool)(a b:D)(Q:DK):Prop:=match a,b with
 | .int i,.int j=>Q (.bl (if neg then !decide (i=j) else decide (i=j)))
 | .str x,.str y=>Q (.bl (if neg then !decide (x=y) else decide (x=y)))
 | .bl x,.bl y=>Q (.bl (if neg then !decide (x=y) else decide (x=y)))
 | a,b=>Da 60 a/\Da 60 b/\Q (.bl (if neg then !deq a b else deq a b))
def z77 {neg:Bool}(a b:D)(Q Q':DK)(m:∀ d,Q d->Q' d)(h:gEq neg a b Q):gEq neg a b Q':=by
 unfold gEq at h ⊢
 split at h
 ·exact m _ h
 ·exact m _ h
 ·exact m _ h
 ·exact⟨h.1,h.2.1,m _ h.2.2⟩
def pEq:Fn:=fn2 (gEq false) z77
def pNe:Fn:=fn2 (gEq true) z77
section
variable {X:Cx}{K:W.Frag}{mg:Str->Option Value}
def z8V {p q:Prop}[Decidable p][Decidable q](h:p↔q):decide p=decide q:=by rw[decide_eq_decide]; exact h
def zdw {op:CmpOp}{neg:Bool}(h1:OpR X (compareOp op) (fun x y H Q=>scal x y=true/\Q (.bl (if neg then !decide (x=y) else decide (x=y))) H))(h2:OpR X (compareOp op) (rEqD X.K neg)):OpR X (compareOp op) (r2 X.K X.mg (fn2 (gEq neg) z77)):=by
 intro pins s σ H x y v u Q I rx ry ⟨G,d1,d2,Q0,X0,g,r1,r2,hr,hk⟩
 have hr':gEq neg d1 d2 Q0:=hr
 unfold gEq at hr'
 split at hr'
 ·have e1:=z1e r1; have e2:=z1e r2
  subst e1; subst e2
  refine h1 pins s σ H _ _ v u Q I rx ry ⟨rfl,?_⟩
  rw[z8V (⟨fun h=>V.int.inj h,fun h=>congrArg V.int h⟩:V.int _=V.int _↔_)]
  exact hk.now g hr' RD.bl'
 ·have e1:=z3Q r1; have e2:=z3Q r2
  subst e1; subst e2
  refine h1 pins s σ H _ _ v u Q I rx ry ⟨rfl,?_⟩
  rw[z8V (⟨fun h=>V.str.inj h,fun h=>congrArg V.str h⟩:V.str _=V.str _↔_)]
  exact hk.now g hr' RD.bl'
 ·have e1:=z8C r1; have e2:=z8C r2
  subst e1; subst e2
  refine h1 pins s σ H _ _ v u Q I rx ry ⟨rfl,?_⟩
  rw[z8V (⟨fun h=>V.bl.inj h,fun h=>congrArg V.bl h⟩:V.bl _=V.bl _↔_)]
  exact hk.now g hr' RD.bl'
 ·obtain⟨a1,a2,q⟩:=hr'
  exact h2 pins s σ H x y v u Q I rx ry ⟨_,_,(Da.rp 60 _ a1 r1).same g,(Da.rp 60 _ a2 r2).same g,a1.shaped (by decide),a2.shaped (by decide),hk.now g q RD.bl'⟩
def z5s (hu:X.A.units+64 < cLine):OpR X (compareOp .Eq) (r2 X.K X.mg pEq):=zdw (neg:=false) (zi6.imp fun _ _ _ _ h=>h) (zgh hu)
def zgm (hu:X.A.units+64 < cLine):OpR X (compareOp .NotEq) (r2 X.K X.mg pNe):=zdw (neg:=true) (zi2.imp fun _ _ _ _ h=>h) (zgd hu)
def isN:D->Bool
 | .non=>true
 | _=>false
def gIs (neg:Bool)(a b:D)(Q:DK):Prop:=match b with
 | .non=>Q (.bl (if neg then !isN a else isN a))
 | _=>False
def z9F {neg:Bool}(a b:D)(Q Q':DK)(m:∀ d,Q d->Q' d)(h:gIs neg a b Q):gIs neg a b Q':=by
 unfold gIs at h ⊢
 split at h
 ·exact m _ h
 ·exact h.elim
def pIs:Fn:=fn2 (gIs false) z9F
def zg9:Fn:=fn2 (gIs true) z9F
def z3I {g:D->DK->Prop}{m}{ds:List D}{Q:DK}{Xp:XP}(h:(fn1 g m).run ds Q Xp):∃ d,ds=[d]/\g d Q:=by
 match ds,h with
 | [a],h=>exact⟨a,rfl,h⟩
 | [],h=>exact h.elim
 | _::_::_,h=>exact h.elim
def gLen (d:D)(Q:DK):Prop:=match d with
 | .lst l=>Q (.int (l.length:Int))
 | .tup l=>Q (.int (l.length:Int))
 | .str x=>x.length<=sizeLine/\Q (.int (x.length:Int))
 | _=>False
def pLen:Fn:=fn1 gLen fun d Q Q' m h=>by
 unfold gLen at h ⊢
 split at h
 ·exact m _ h
 ·exact m _ h
 ·exact⟨h.1,m _ h.2⟩
 ·exact h.elim
def z2i:z1T X (.builtin "len") (rN X.K X.mg pLen):=(z1T.or z8j z8i).imp fun vs H Q ⟨G,ds,Q0,X0,g,rds,hr,hk⟩=>by
 obtain⟨d,rfl,hr'⟩:=z3I hr
 obtain⟨v,rfl,rd⟩:=rds1 rds
 unfold gLen at hr'
 split at hr'
 ·obtain⟨a,xs,rfl,h1,h2⟩:=z2h rd
  exact .inl ⟨a,xs,rfl,.inl (z1G g h1),by rw[h2.len]; exact hk.now g hr' RD.int'⟩
 ·obtain⟨a,xs,rfl,h1,h2⟩:=z2s rd
  exact .inl ⟨a,xs,rfl,.inr (z1r g h1),by rw[h2.len]; exact hk.now g hr' RD.int'⟩
 ·have e:=z3Q rd
  subst e
  exact .inr ⟨_,rfl,hr'.1,hk.now g hr'.2 RD.int'⟩
 ·exact hr'.elim
def gAbs (d:D)(Q:DK):Prop:=match d with
 | .int i=>Q (.int (if i < 0 then -i else i))
 | _=>False
def pAbs:Fn:=fn1 gAbs fun d Q Q' m h=>by
 unfold gAbs at h ⊢
 split at h
 ·exact m _ h
 ·exact h.elim
def zdJ:z1T X (.builtin "abs") (rN X.K X.mg pAbs):=zdd.imp fun vs H Q ⟨G,ds,Q0,X0,g,rds,hr,hk⟩=>by
 obtain⟨d,rfl,hr'⟩:=z3I hr
 obtain⟨v,rfl,rd⟩:=rds1 rds
 unfold gAbs at hr'
 split at hr'
 ·have e:=z1e rd
  subst e
  exact⟨_,rfl,hk.now g hr' RD.int'⟩
 ·exact hr'.elim
def gInt (d:D)(Q:DK):Prop:=match d with
 | .int i=>Q (.int i)
 | .bl b=>Q (.int (if b then 1 else 0))
 | .str x=>∃ n,PySem.intText? x=some n/\x.length<=640/\Q (.int n)
 | _=>False
def pInt:Fn:=fn1 gInt fun d Q Q' m h=>by
 unfold gInt at h ⊢
 split at h
 ·exact m _ h
 ·exact m _ h
 ·obtain⟨n,h1,h2,h3⟩:=h
  exact⟨n,h1,h2,m _ h3⟩
 ·exact h.elim
def zby (d:D)(Q:DK):Prop:=match d with
 | .lst l=>Q (.tup l)
 | .tup l=>Q (.tup l)
 | _=>False
def z5p:Fn:=fn1 zby fun d Q Q' m h=>by
 unfold zby at h ⊢
 split at h
 ·exact m _ h
 ·exact m _ h
 ·exact h.elim
def z5b:z1T X (.type "tuple") (rN X.K X.mg z5p):=z7f.imp fun vs H Q ⟨G,ds,Q0,X0,g,rds,hr,hk⟩=>by
 obtain⟨d,rfl,hr'⟩:=z3I hr
 obtain⟨v,rfl,rd⟩:=rds1 rds
 unfold zby at hr'
 split at hr'
 ·obtain⟨a,xs,rfl,h1,h2⟩:=z2h rd
  exact⟨a,xs,rfl,.inl ⟨z1G g h1,fun p hp=>hk.new g hp hr' (RD.newT h2 g hp)⟩⟩
 ·obtain⟨a,xs,rfl,h1,h2⟩:=z2s rd
  exact⟨a,xs,rfl,.inr ⟨z1r g h1,hk.now g hr' (RD.ofT h1 h2)⟩⟩
 ·exact hr'.elim
def zdD (d:D)(Q:DK):Prop:=match d with
 | .lst l=>Q (.lst l)
 | .tup l=>Q (.lst l)
 | _=>False
def zdu:Fn:=fn1 zdD fun d Q Q' m h=>by
 unfold zdD at h ⊢
 split at h
 ·exact m _ h
 ·exact m _ h
 ·exact h.elim
def gIx (a b:D)(Q:DK):Prop:=match a,b with
 | .lst l,.int i=>onV (atI l i) Q
 | .tup l,.int i=>onV (atI l i) Q
 | .str x,.int i=>x.length<=sizeLine/\∃ c,atI x.cps.toList i=some c/\Q (.str ⟨#[c]⟩)
 | _,_=>False
def zd5 (a b:D)(Q Q':DK)(m:∀ d,Q d->Q' d)(h:gIx a b Q):gIx a b Q':=by
 unfold gIx at h ⊢
 split at h
 ·exact z9r m h
 ·exact z9r m h
 ·obtain⟨h1,c,h2,h3⟩:=h
  exact⟨h1,c,h2,m _ h3⟩
 ·exact h.elim
def pIx:Fn:=fn2 gIx zd5
def IxR.imp {r r':R2}(h:IxR X r)(i:∀ x y H Q,r' x y H Q->r x y H Q):IxR X r':=fun value slice pins s σ H x y v u Q I rx ry q hs=>h value slice pins s σ H x y v u Q I rx ry (i x y H Q q) hs
def ix_p:IxR X (r2 X.K X.mg pIx):=IxR.imp zh0 fun x y H Q ⟨G,d1,d2,Q0,X0,g,r1,r2,hr,hk⟩=>by
 have hr':gIx d1 d2 Q0:=hr
 unfold gIx at hr'
 split at hr'
 ·obtain⟨d,e,q⟩:=z9q hr'
  obtain⟨a,xs,rfl,h1,h2⟩:=z2h r1
  obtain⟨v,e1,rv⟩:=h2.at e
  exact .inl ⟨a,xs,_,v,rfl,z1e r2,z1G g h1,e1,hk.now g q rv⟩
 ·obtain⟨d,e,q⟩:=z9q hr'
  obtain⟨a,xs,rfl,h1,h2⟩:=z2s r1
  obtain⟨v,e1,rv⟩:=h2.at e
  exact .inr (.inl ⟨a,xs,_,v,rfl,z1e r2,z1r g h1,e1,hk.now g q rv⟩)
 ·obtain⟨h1,c,h2,h3⟩:=hr'
  exact .inr (.inr ⟨_,_,c,z3Q r1,z1e r2,h1,h2,hk.now g h3 RD.str'⟩)
 ·exact hr'.elim
def z0g {E:XK}{a b:Expr}{x y:Ex}{pos:Pos}(ha:QX X E a x)(hb:QX X E b y)(hs:z92 b):QX X E (.Subscript a b pos) (.op pIx [x,y]):=QE.imp (zhN ix_p ha hb hs) fun _ _ _ h=>tx2 lk2 h
end
end Pu
namespace HT
open PySem PyProof.Rows
section
variable {prog:Program}{w:World}{A:Around}{E:Value->Shared->Prop}{s:Shared}
def z7p {t sl:Addr}{z05:Array Value}{vl vu vs:Value}{R:Int × Int × Nat}{Q:Value->Shared->Prop}(ht:IsTup s.heap t z05)(hs:s.heap.IsSliceOf sl vl vu vs)
  (ha:∀ {A:Around}{E:Value->Shared->Prop}{Q:Int × Int × Nat->Shared->Prop},Q R s->wpAny (model prog w) A (Builtin.Slice.sliceApplied (.ref sl) (pure (z05.size:Int))) Q E s) (hsz:R.2.2<=sizeLine)
  (h1:(R.1 == 0 && R.2.1 == 1 && R.2.2 == z05.size)=true->Q (.ref t) s)
  (h2:¬ (R.1 == 0 && R.2.1 == 1 && R.2.2 == z05.size)=true->Q (.ref s.heap.objs.size) { s with heap:=s.heap.push { cls :=.type "tuple",data :=.seq ((List.range R.2.2).filterMap fun(k:Nat)=>z05[(R.1+(k:Int)*R.2.1).toNat]?).toArray } }):
  wpAny (model prog w) A (getItem (.ref t) (.ref sl)) Q E s:=by
 obtain⟨os,hos,hcs,hds⟩:=id hs
 have hTs:s.TypeIs (.ref sl) "slice":=⟨os,hos,hcs⟩
 have htake:sizeOk (.seq ((List.range R.2.2).filterMap fun(k:Nat)=>z05[(R.1+(k:Int)*R.2.1).toNat]?).toArray):=by
  show ((List.range R.2.2).filterMap fun(k:Nat)=>z05[(R.1+(k:Int)*R.2.1).toNat]?).toArray.size<=sizeLine
  rw[List.size_toArray]
  refine Nat.le_trans (List.length_filterMap_le _ _) ?_
  rw[List.length_range]; exact hsz
 unfold getItem
 try with_reducible refine wpAny_holding ?_
 first | refine wpAny_bind (wpAny_pure ?_) | skip
 refine wpAny_bind (wpAny_sequenceKey ht.typeIs (by decide) ?_)
 refine wpAny_bind (wpAny_callSpecial?_slot (name:=Str.ofString "__getitem__") ht.typeIs PyProof.Rows.slot_tuple_getitem
  (wpAny_call_entry PyProof.Rows.slot_tuple_getitem ht.typeIs entry_tuple_getitem ?_ (args_tuple_getitem _ _)))
 show wpAny _ _ (Builtin.Tuple.tupleItemsOf (.ref t) >>= _) _ _ s
 refine wpAny_bind (tupleItemsOf_ ht ?_)
 refine wpAny_bind (wpAny_typeOf hTs ?_)
 rw[if_pos (by decide)]
 refine wpAny_bind (ha ?_)
 obtain⟨r1,r2,r3⟩:=R
 show wpAny _ _ (if (r1 == 0 && r2 == 1 && r3 == z05.size)=true then _ else _) _ _ s
 by_cases hb:(r1 == 0 && r2 == 1 && r3 == z05.size)=true
 ·rw[if_pos hb]
  refine wpAny_bind (m:=Builtin.Tuple.tupleIsExact (.ref t)) ?_
  refine wpAny_bind (wpAny_typeOf ht.typeIs (wpAny_pure ?_))
  rw[if_pos (by decide)]
  first
   | exact wpAny_bind (wpAny_pure (wpAny_pure ⟨_,rfl,wpAny_pure (h1 hb)⟩))
   | exact wpAny_bind (wpAny_rule (wpAny_pure ⟨_,rfl,wpAny_pure (h1 hb)⟩))
   | exact wpAny_bind (wpAny_rule (wpAny_bind (wpAny_pure (wpAny_pure ⟨_,rfl,wpAny_pure (h1 hb)⟩))))
   | exact wpAny_pure ⟨_,rfl,wpAny_pure (h1 hb)⟩
 ·rw[if_neg hb]
  have h:=h2 hb
  first
   | exact wpAny_bind (m:=Builtin.Tuple.tupleExact _) (wpAny_newObj_type (wpAny_pure ⟨_,rfl,wpAny_pure h⟩) htake)
   | exact wpAny_bind (m:=Builtin.Tuple.tupleExact _) (wpAny_newObj_type (wpAny_bind (wpAny_pure (wpAny_pure ⟨_,rfl,wpAny_pure h⟩))) htake)
   | exact wpAny_bind (wpAny_bind (m:=Builtin.Tuple.tupleExact _) (wpAny_newObj_type (wpAny_pure (wpAny_pure ⟨_,rfl,wpAny_pure h⟩)) htake))
   | exact wpAny_bind (wpAny_bind (m:=Builtin.Tuple.tupleExact _) (wpAny_newObj_type (wpAny_pure ⟨_,rfl,wpAny_pure h⟩) htake))
end
end HT
namespace Pu
open PySem PySem.Spec PyProof.Rows L2
def part (o:Option Ex)(ρ:Pu.Env)(K:Option Int->Prop)(X:XP):Prop:=match o with
 | none=>K none
 | some e=>e.run ρ (fun d=>isI d fun i=>K (some i)) X
def z4i {o:Option Ex}{ρ:Pu.Env}{K K':Option Int->Prop}{X X':XP}(m:∀ i,K i->K' i)(mx:∀ x,X x->X' x)(h:part o ρ K X):part o ρ K' X':=by
 cases o with
 | none=>exact m _ h
 | some e=>exact e.mono ρ _ _ X X' (fun d q=>z6Y (fun i q=>m _ q) q) mx h
def cutD (l:List D)(lo hi:Option Int):List D:=(l.drop (HT.sIx l.length 0 lo)).take (HT.sIx l.length l.length hi - HT.sIx l.length 0 lo)
def slcD (d:D)(lo hi:Option Int)(Q:DK):Prop:=match d with
 | .lst l=>Q (.lst (cutD l lo hi))
 | .tup l=>Q (.tup (cutD l lo hi))
 | .str x=>x.length<=sizeLine/\Q (.str (Txt.slice x lo hi))
 | _=>False
def zaC {d:D}{lo hi:Option Int}{Q Q':DK}(m:∀ d,Q d->Q' d)(h:slcD d lo hi Q):slcD d lo hi Q':=by
 unfold slcD at h ⊢
 split at h
 ·exact m _ h
 ·exact m _ h
 ·exact⟨h.1,m _ h.2⟩
 ·exact h.elim
def Ex.sl (e:Ex)(lo hi:Option Ex):Ex:=⟨fun ρ Q X=>e.run ρ (fun d=>part lo ρ (fun l=>part hi ρ (fun u=>slcD d l u Q) X) X) X,fun ρ Q Q' X X' m mx q=>e.mono ρ _ _ X X' (fun d q=>z4i (fun l q=>z4i (fun u q=>zaC m q) mx q) mx q) mx q⟩
def za3 (l:List D)(lo hi:Option Int)(st:Int):List D:=(sliceRange (sliceBounds lo hi (some st) l.length).1 (sliceBounds lo hi (some st) l.length).2.1 (sliceBounds lo hi (some st) l.length).2.2).filterMap (l[·]?)
def zej (l:List D)(lo hi:Option Int)(st:Int):List D:=
 (List.range (Builtin.Slice.slicePlaces (Builtin.Slice.sliceAdjust lo hi st l.length).1 (Builtin.Slice.sliceAdjust lo hi st l.length).2 st)).filterMap fun(k:Nat)=>l[((Builtin.Slice.sliceAdjust lo hi st l.length).1+(k:Int)*st).toNat]?
def slsD (d:D)(lo hi:Option Int)(st:Int)(Q:DK):Prop:=st≠0/\match d with
 | .lst l=>Q (.lst (za3 l lo hi st))
 | .tup l=>st≠1/\Builtin.Slice.slicePlaces (Builtin.Slice.sliceAdjust lo hi st l.length).1 (Builtin.Slice.sliceAdjust lo hi st l.length).2 st<=sizeLine/\Q (.tup (zej l lo hi st))
 | _=>False
def zaA {d:D}{lo hi:Option Int}{st:Int}{Q Q':DK}(m:∀ d,Q d->Q' d)(h:slsD d lo hi st Q):slsD d lo hi st Q':=by
 refine⟨h.1,?_⟩
 have h2:=h.2
 split at h2
 ·exact m _ h2
 ·exact⟨h2.1,h2.2.1,m _ h2.2.2⟩
 ·exact h2.elim
def Ex.sls (e:Ex)(lo hi:Option Ex)(st:Ex):Ex:=⟨fun ρ Q X=>e.run ρ (fun d=>part lo ρ (fun l=>part hi ρ (fun u=>st.run ρ (fun k=>isI k fun k=>slsD d l u k Q) X) X) X) X,fun ρ Q Q' X X' m mx q=>e.mono ρ _ _ X X' (fun d q=>z4i (fun l q=>z4i (fun u q=>st.mono ρ _ _ X X' (fun k q=>z6Y (fun k q=>zaA m q) q) mx q) mx q) mx q) mx q⟩
def rSlP (K:W.Frag)(mg:Str->Option Value):V->Option Int->Option Int->Hp->VK->Prop:=fun x lo hi H Q=>∃ G d Q0,Same G H/\RD K mg G d x/\slcD d lo hi Q0/\Kt K mg G H Q0 Q
section
variable {X:Cx}{K:W.Frag}{mg:Str->Option Value}{E:XK}
def zc5:SlR X (fun x lo hi H Q=>∃ a xs,x = .ref a/\SqT X.K H a xs/\(HT.sIx xs.length 0 lo=0/\HT.sIx xs.length xs.length hi=xs.length)/\Q (.ref a) H):=by
 intro pins s σ H x v vl vu lo hi sl Q I rx hs pl pu h
 obtain⟨a,xs,rfl,hx,hw,q⟩:=h
 cases rx
 obtain⟨its,r,ht,hz⟩:=I.tuple hx
 have hlen:its.toArray.size=xs.length:=by rw[List.size_toArray]; exact r.length.symm
 refine⟨"tuple",_,PyProof.Rows.slot_tuple_getitem.lookup,ht.typeIs,?_⟩
 refine HT.z7p (R:=(((HT.sIx its.toArray.size 0 lo:Nat):Int),1,HT.sIx its.toArray.size its.toArray.size hi - HT.sIx its.toArray.size 0 lo)) ht hs (fun h=>HT.z3i hs pl pu h) ?_ (fun _=>⟨.ref a,H,I,rfl,q⟩) (fun z => ?_)
 ·rw[hlen]; dsimp only; rw[hw.1,hw.2]; omega
 ·rw[hlen] at z
  exact absurd (by dsimp only; rw[hw.1,hw.2]; simp) z
def zaj {xs:List D}{lo hi:Option Int}(h:HT.sIx xs.length 0 lo=0/\HT.sIx xs.length xs.length hi=xs.length):cutD xs lo hi=xs:=by
 unfold cutD
 rw[h.1,h.2]
 simp
def sl_p:SlR X (rSlP X.K X.mg):=((zdU.or (zfg.or zc5)).or zfh).imp fun x lo hi H Q ⟨G,d,Q0,g,rd,hr,hk⟩=>by
 unfold slcD at hr
 split at hr
 ·obtain⟨a,xs,rfl,h1,h2⟩:=z2h rd
  exact .inl (.inl ⟨a,xs,rfl,z1G g h1,fun p hp=>hk.new g hp hr (RD.newL (h2.cut lo hi) g hp)⟩)
 ·obtain⟨a,xs,rfl,h1,h2⟩:=z2s rd
  by_cases hw:HT.sIx xs.length 0 lo=0/\HT.sIx xs.length xs.length hi=xs.length
  ·refine .inl (.inr (.inr ⟨a,xs,rfl,z1r g h1,hw,hk.now g hr ?_⟩))
   rw[h2.len] at hw
   rw[zaj hw]
   exact RD.ofT h1 h2
  ·exact .inl (.inr (.inl ⟨a,xs,rfl,z1r g h1,hw,fun p hp=>hk.new g hp hr (RD.newT (h2.cut lo hi) g hp)⟩))
 ·exact .inr ⟨_,z3Q rd,hr.1,hk.now g hr.2 RD.str'⟩
 ·exact hr.elim
def z5f (K:W.Frag)(mg:Str->Option Value)(E:XK)(o:Option Ex):TO:=fun σ H Q=>∃ G ρ Q0 X0,Same G H/\AbE K mg G ρ σ/\part o ρ Q0 X0/\(∀ i G' H',Q0 i->Gr G H G'->Same G' H'->Same H H'->Q i H')/\Kx mg H X0 E
def QO.imp {e:Option Expr}{t t':TO}(h:QO X e t)(i:∀ σ H Q,t' σ H Q->t σ H Q):QO X e t':=⟨fun pins s σ H Q I q=>h.p pins s σ H Q I (i σ H Q q)⟩
def z5l:QO X none (z5f X.K X.mg E none):=QO.imp ze8 fun σ H Q ⟨G,ρ,Q0,X0,hs,ab,hr,hk,hx⟩=>hk none G H hr Gr.refl hs Same.refl'
def z4D {e:Expr}{x:Ex}(h:QX X E e x):QO X (some e) (z5f X.K X.mg E (some x)):=QO.imp (ze7 h) fun σ H Q ⟨G,ρ,Q0,X0,hs,ab,hr,hk,hx⟩=>by
 refine⟨G,ρ,_,X0,hs,ab,hr,fun d v G1 H1 q g1 g2 g3 rd => ?_,hx⟩
 obtain⟨i,rfl,q⟩:=zd0 q
 exact⟨i,z1e rd,hk (some i) G1 H1 q g1 g2 g3⟩
def zhw {σ:L2.St}{H:Hp}{Q:VK}{e:Ex}{lo hi:Option Ex}(h:tx K mg E (.sl e lo hi) σ H Q):tSl (rSlP K mg) (tx K mg E e) (z5f K mg E lo) (z5f K mg E hi) σ H Q:=by
 obtain⟨G,ρ,Q0,X0,hs,ab,hr,hk,hx⟩:=h
 refine⟨G,ρ,_,X0,hs,ab,hr,fun d v G1 H1 q g1 g2 g3 rd => ?_,hx⟩
 refine⟨G1,ρ,_,X0,g2,ab.same g1.1,q,fun l G2 H2 q k1 k2 k3 => ?_,hx.same g3⟩
 refine⟨G2,ρ,_,X0,k2,ab.same (z07 g1.1 k1.1),q,fun u G3 H3 q n1 n2 n3 => ?_,hx.same (z07 g3 k3)⟩
 exact⟨G3,d,Q0,n2,rd.same (z07 k1.1 n1.1),q,hk.same (g1.trans g3 (k1.trans k3 n1)) (z07 g3 (z07 k3 n3))⟩
def zck {e:Expr}{x:Ex}{lo hi:Option Expr}{l u:Option Ex}{p2 pos:Pos}(he:QX X E e x)(hl:QO X lo (z5f X.K X.mg E l))(hu:QO X hi (z5f X.K X.mg E u)):QX X E (.Subscript e (.Slice lo hi none p2) pos) (.sl x l u):=QE.imp (zcp sl_p he hl hu) fun _ _ _ h=>zhw h
def SlR3 (X:Cx)(r:V->Option Int->Option Int->Int->Hp->VK->Prop):Prop:=
 ∀ (pins:List (Addr × Obj)) (s:Shared) (σ:L2.St) (H:Hp) (x:V) (v vl vu vs:Value) (lo hi:Option Int) (st:Int) (sl:Addr) (Q:VK),Inv X pins σ H s->RelV x v->s.heap.IsSliceOf sl vl vu vs->IsPart vl lo->IsPart vu hi->IsPart vs (some st)->r x lo hi st H Q->
  ∃ T id,typeLookup (.type T) "__getitem__"=pure (some (.builtin id))/\s.TypeIs v T/\wpAny (model X.prog X.w) X.A (getItem v (.ref sl)) (EP X pins σ Q) X.xe s
def tSl3 (r:V->Option Int->Option Int->Int->Hp->VK->Prop)(te:TE)(tl th ts:TO):TE:=fun σ H Q=>te σ H fun x H1=>tl σ H1 fun l H2=>th σ H2 fun u H3=>ts σ H3 fun k H4=>∃ st,k=some st/\r x l u st H4 Q
def zbb {e st:Expr}{te:TE}{lo hi:Option Expr}{tl th ts:TO}{p2 pos:Pos}{r:V->Option Int->Option Int->Int->Hp->VK->Prop}(hr:SlR3 X r)(he:PE X e te)(hl:PO X lo tl)(hu:PO X hi th)(hst:PO X (some st) ts):PE X (.Subscript e (.Slice lo hi (some st) p2) pos) (tSl3 r te tl th ts):=by
 intro pins s σ H Q I h
 refine Subscript_ (thn (he pins s σ H _ I h) fun v s1 ⟨x,H1,I1,r1,q1⟩ => ?_)
 refine wpAny_Slice (thn (hl pins s1 σ H1 _ I1 q1) fun vl s2 ⟨l,H2,I2,pl,q2⟩=>thn (hu pins s2 σ H2 _ I2 q2) fun vu s3 ⟨u,H3,I3,pu,q3⟩ => ?_)
 refine thn (hst pins s3 σ H3 _ I3 q3) fun vs s4 ⟨o,H4,I4,ps,k,ek,q4⟩ => ?_
 subst ek
 have I5:Inv X pins σ H4 { s4 with heap:=s4.heap.push { cls :=.type "slice",data :=.fields #[vl,vu,vs] } }:=I4.kept (t':=s4.toks) fun b ob q=>Heap.get?_push_of_some _ q
 obtain⟨T,id,hT,ht,hg⟩:=hr pins { s4 with heap:=s4.heap.push { cls :=.type "slice",data :=.fields #[vl,vu,vs] } } σ H4 x v vl vu vs l u k s4.heap.objs.size Q I5 r1 (Heap.IsSliceOf.new ..) pl pu ps q4
 show wpAny (model X.prog X.w) X.A (subscriptTail e (.Slice lo hi (some st) p2) v (.ref s4.heap.objs.size)) (EP X pins σ Q) X.xe { s4 with heap:=s4.heap.push { cls :=.type "slice",data :=.fields #[vl,vu,vs] } }
 exact tail_any (ops:=[v,.ref s4.heap.objs.size]) ht hT hg (by with_unfolding_all rfl)
def zfz (K:W.Frag)(mg:Str->Option Value):V->Option Int->Option Int->Int->Hp->VK->Prop:=fun x lo hi st H Q=>∃ G d Q0,Same G H/\RD K mg G d x/\slsD d lo hi st Q0/\Kt K mg G H Q0 Q
def RDs.pick {G:Hp}{l:List D}{xs:List V}{is:List Nat}(r:RDs K mg G l xs):RDs K mg G (is.filterMap (l[·]?)) (is.filterMap (xs[·]?)):=by
 induction is with
 | nil=>exact RDs.nil
 | cons i is ih=>
  rw[List.filterMap_cons,List.filterMap_cons]
  cases e:l[i]? with
  | none=>
   have:xs[i]? = none:=by
    rw[List.getElem?_eq_none_iff] at e ⊢
    rw[r.len]; exact e
   rw[this]; exact ih
  | some d=>
   obtain⟨v,ev,rv⟩:=r.get e
   rw[ev]
   exact RDs.cons rv ih
def z7n {xs:List V}{us:List Value}{is:List Nat}(r:Vals xs us):Vals (is.filterMap (xs[·]?)) (is.filterMap (us[·]?)):=by
 induction is with
 | nil=>exact .nil
 | cons i is ih=>
  rw[List.filterMap_cons,List.filterMap_cons]
  cases e:xs[i]? with
  | none=>rw[r.none_of e]; exact ih
  | some d=>
   obtain⟨v,ev,rv⟩:=r.get e
   rw[ev]
   exact .cons rv ih
def z4A {prog:Program}{w:World}{A:Around}{s:Shared}{EE:Value->Shared->Prop}{sl:Addr}{vl vu vs:Value}{lo hi:Option Int}{st:Int}{n:Nat}{Q:Int × Int × Nat->Shared->Prop}(hs:s.heap.IsSliceOf sl vl vu vs)(pl:IsPart vl lo)(pu:IsPart vu hi)(ps:IsPart vs (some st))(h0:st≠0)
  (h:Q ((Builtin.Slice.sliceAdjust lo hi st n).1,st,Builtin.Slice.slicePlaces (Builtin.Slice.sliceAdjust lo hi st n).1 (Builtin.Slice.sliceAdjust lo hi st n).2 st) s):wpAny (model prog w) A (Builtin.Slice.sliceApplied (.ref sl) (pure (n:Int))) Q EE s:=by
 obtain⟨os,hos,hcs,hds⟩:=id hs
 unfold Builtin.Slice.sliceApplied Builtin.Slice.sliceFields
 refine wpAny_bind (wpAny_bind (wpAny_field hos hds (x:=vl) rfl (wpAny_bind (wpAny_field hos hds (x:=vu) rfl (wpAny_bind (wpAny_field hos hds (x:=vs) rfl (wpAny_pure ?_)))))))
 refine wpAny_bind (HT.z2Y ps ?_)
 show wpAny _ _ (if (st == 0)=true then _ else _) _ _ s
 rw[if_neg (by simpa using h0)]
 exact wpAny_bind (HT.z2Y pl (wpAny_bind (HT.z2Y pu (wpAny_bind (wpAny_pure (wpAny_pure h))))))
def zdT:SlR3 X (zfz X.K X.mg):=by
 intro pins s σ H x v vl vu vs lo hi st sl Q I rx hs pl pu ps ⟨G,d,Q0,g,rd,⟨h0,hr⟩,hk⟩
 split at hr
 ·rename_i l
  obtain⟨a,xs,rfl,h1,h2⟩:=z2h rd
  cases rx
  obtain⟨its,r,ht,hz⟩:=I.list (z1G g h1)
  have hlen:=r.length
  refine⟨"list",_,slot_list_getitem.lookup,ht.isList.typeIs,?_⟩
  refine wpAny_getItem_list_slice ht.isList hs pl pu ps (by simpa using h0) ?_ (by rw[List.size_toArray] <;> omega)
  have hp:H s.heap.objs.size=none:=I.hok.fresh (Nat.le_refl _)
  have hll:l.length=its.toArray.size:=by rw[List.size_toArray, <- hlen,h2.len]
  have es:slicePick its.toArray lo hi (some st)=(((sliceRange (sliceBounds lo hi (some st) l.length).1 (sliceBounds lo hi (some st) l.length).2.1 (sliceBounds lo hi (some st) l.length).2.2)).filterMap (its[·]?)).toArray:=by
   unfold slicePick
   rw[hll]
   simp
  have hn:(za3 l lo hi st).length<=sizeLine:=by
   unfold za3
   refine Nat.le_trans (List.length_filterMap_le _ _) (Nat.le_trans (sliceRange_length_le _ _ _ l.length ?_ ?_) (by rw[hll,List.size_toArray, <- hlen]; exact hz))
   all_goals
    intro hc
    unfold sliceBounds at hc ⊢
    simp only[Option.getD_some] at hc ⊢
    cases lo <;> cases hi <;> simp only[hc,if_true,if_false] <;> (try split) <;> (try split) <;> omega
  refine⟨.ref s.heap.objs.size,_,I.laid (t':=s.toks) (o :=.lst ((sliceRange (sliceBounds lo hi (some st) l.length).1 (sliceBounds lo hi (some st) l.length).2.1 (sliceBounds lo hi (some st) l.length).2.2).filterMap (xs[·]?))) (fun b ob q=>Heap.get?_push_of_some _ q) (Nat.le_refl _) ?_,rfl,hk.new g hp hr (RD.newL h2.pick g hp)⟩
  refine⟨by rw[(h2.pick (is:=_)).len]; exact hn,_,0,z7n r,?_⟩
  rw[<- es]
  exact Heap.get?_push_size _ rfl
 ·rename_i l
  obtain⟨h1',hsz,q⟩:=hr
  obtain⟨a,xs,rfl,h1,h2⟩:=z2s rd
  cases rx
  obtain⟨its,r,ht,hz⟩:=I.tuple (z1r g h1)
  have hll:l.length=its.toArray.size:=by rw[List.size_toArray, <- r.length,h2.len]
  refine⟨"tuple",_,PyProof.Rows.slot_tuple_getitem.lookup,ht.typeIs,?_⟩
  have hp:H s.heap.objs.size=none:=I.hok.fresh (Nat.le_refl _)
  refine HT.z7p ht hs (fun h=>z4A hs pl pu ps h0 h) (by rw[<- hll]; exact hsz) (fun z => ?_) (fun _ => ?_)
  ·simp only[Bool.and_eq_true,beq_iff_eq] at z
   exact absurd z.1.2 h1'
  ·dsimp only
   rw[<- hll]
   refine⟨.ref s.heap.objs.size,_,I.laid (t':=s.toks) (o :=.tup (((List.range (Builtin.Slice.slicePlaces (Builtin.Slice.sliceAdjust lo hi st l.length).1 (Builtin.Slice.sliceAdjust lo hi st l.length).2 st)).map fun(k:Nat)=>((Builtin.Slice.sliceAdjust lo hi st l.length).1+(k:Int)*st).toNat).filterMap (xs[·]?))) (fun b ob q=>Heap.get?_push_of_some _ q) (Nat.le_refl _) ?_,rfl,hk.new g hp q ?_⟩
   ·refine⟨Nat.le_trans (List.length_filterMap_le _ _) (by rw[List.length_map,List.length_range]; exact hsz),_,z7n r,?_⟩
    rw[List.filterMap_map]
    have:=IsTup.new (h:=s.heap) ((List.range (Builtin.Slice.slicePlaces (Builtin.Slice.sliceAdjust lo hi st l.length).1 (Builtin.Slice.sliceAdjust lo hi st l.length).2 st)).filterMap fun(k:Nat)=>its.toArray[((Builtin.Slice.sliceAdjust lo hi st l.length).1+(k:Int)*st).toNat]?).toArray
    simp only[List.getElem?_toArray] at this ⊢
    exact⟨this,_,Heap.get?_push_size _ rfl,rfl⟩
   ·have e:zej l lo hi st=(((List.range (Builtin.Slice.slicePlaces (Builtin.Slice.sliceAdjust lo hi st l.length).1 (Builtin.Slice.sliceAdjust lo hi st l.length).2 st)).map fun(k:Nat)=>((Builtin.Slice.sliceAdjust lo hi st l.length).1+(k:Int)*st).toNat).filterMap (l[·]?)):=by
     unfold zej
     rw[List.filterMap_map]
     rfl
    rw[e]
    exact RD.newT h2.pick g hp
 ·exact hr.elim
def zf1 {σ:L2.St}{H:Hp}{Q:VK}{e st:Ex}{lo hi:Option Ex}(h:tx K mg E (.sls e lo hi st) σ H Q):tSl3 (zfz K mg) (tx K mg E e) (z5f K mg E lo) (z5f K mg E hi) (z5f K mg E (some st)) σ H Q:=by
 obtain⟨G,ρ,Q0,X0,hs,ab,hr,hk,hx⟩:=h
 refine⟨G,ρ,_,X0,hs,ab,hr,fun d v G1 H1 q g1 g2 g3 rd => ?_,hx⟩
 refine⟨G1,ρ,_,X0,g2,ab.same g1.1,q,fun l G2 H2 q k1 k2 k3 => ?_,hx.same g3⟩
 refine⟨G2,ρ,_,X0,k2,ab.same (z07 g1.1 k1.1),q,fun u G3 H3 q n1 n2 n3 => ?_,hx.same (z07 g3 k3)⟩
 refine⟨G3,ρ,fun k=>∃ i,k=some i/\slsD d l u i Q0,X0,n2,ab.same (z07 g1.1 (z07 k1.1 n1.1)),st.mono ρ _ _ X0 X0 (fun k q=>z6Y (fun i q=>⟨i,rfl,q⟩) q) (fun _ z=>z) q,fun k G4 H4 q m1 m2 m3 => ?_,hx.same (z07 g3 (z07 k3 n3))⟩
 obtain⟨i,rfl,q⟩:=q
 exact⟨i,rfl,G4,d,Q0,m2,rd.same (z07 k1.1 (z07 n1.1 m1.1)),q,hk.same (g1.trans g3 (k1.trans k3 (n1.trans n3 m1))) (z07 g3 (z07 k3 (z07 n3 m3)))⟩
def zfB {e st:Expr}{x y:Ex}{lo hi:Option Expr}{l u:Option Ex}{p2 pos:Pos}(he:QX X E e x)(hl:QO X lo (z5f X.K X.mg E l))(hu:QO X hi (z5f X.K X.mg E u))(hst:QX X E st y):QX X E (.Subscript e (.Slice lo hi (some st) p2) pos) (.sls x l u y):=
 QE.imp (⟨zbb zdT he.p hl.p hu.p (z4D hst).p⟩:QE X (.Subscript e (.Slice lo hi (some st) p2) pos) _) fun _ _ _ h=>zf1 h
end
section
variable {X:Cx}{K:W.Frag}{mg:Str->Option Value}{E:XK}
def isiD (T:String):D->Option Bool
 | .int _=>some (T == "int")
 | .bl _=>some (T == "int" || T == "bool")
 | .str _=>some (T == "str")
 | .tup _=>some (T == "tuple")
 | .lst _=>some (T == "list")
 | .non=>some false
 | _=>none
def onB (o:Option Bool)(Q:Bool->Prop):Prop:=match o with
 | some b=>Q b
 | none=>False
def zcG {o:Option Bool}{Q Q':Bool->Prop}(m:∀ b,Q b->Q' b)(h:onB o Q):onB o Q':=by
 cases o with
 | none=>exact h
 | some b=>exact m _ h
def zcF {o:Option Bool}{Q:Bool->Prop}(h:onB o Q):∃ b,o=some b/\Q b:=by
 cases o with
 | none=>exact h.elim
 | some b=>exact⟨b,rfl,h⟩
def pIsi (T:String):Fn:=fn1 (fun d Q=>onB (isiD T d) fun b=>Q (.bl b)) fun d Q Q' m h=>zcG (fun b q=>m _ q) h
def zcX:List String:=["int","bool","str","tuple","list"]
def zeG {T:String}(hT:T∈zcX):PySem.W.kitOne K (.type "int") (.type T)=some (T == "int")/\PySem.W.kitOne K (.type "bool") (.type T)=some (T == "int" || T == "bool")/\PySem.W.kitOne K (.type "str") (.type T)=some (T == "str")/\
  PySem.W.kitOne K (.type "tuple") (.type T)=some (T == "tuple")/\PySem.W.kitOne K (.type "list") (.type T)=some (T == "list")/\PySem.W.kitOne K (.type "NoneType") (.type T)=some false:=by
 unfold zcX at hT
 simp only[List.mem_cons,List.not_mem_nil,or_false] at hT
 rcases hT with rfl | rfl | rfl | rfl | rfl <;> exact⟨rfl,rfl,rfl,rfl,rfl,rfl⟩
def zhD (K:W.Frag)(mg:Str->Option Value)(T:String):List V->Hp->VK->Prop:=fun vs H Q=>∃ v G d Q0,vs=[v,.ty T]/\Same G H/\RD K mg G d v/\(onB (isiD T d) fun b=>Q0 (.bl b))/\Kt K mg G H Q0 Q
def zhh {T:String}(hT:T∈zcX):z1T X (.builtin "isinstance") (zhD X.K X.mg T):=by
 intro pins s σ H vs us Q I rv ⟨v,G,d,Q0,e,g,rd,hr,hk⟩
 subst e
 obtain⟨b,eb,q⟩:=zcF hr
 obtain⟨u,w,rfl,ru,rw'⟩:=zhv rv
 cases (show w=Value.type T from rw')
 obtain⟨t1,t2,t3,t4,t5,t6⟩:=zeG (K:=X.K) hT
 have fin:∀ tk,EP X pins σ Q (.bool b) { s with toks:=tk }:=fun tk=>⟨.bl b,H,I.tok tk,rfl,hk.now g q RD.bl'⟩
 cases d with
 | int i=>
  have e:=z1e rd; subst e
  rw[show isiD T (.int i)=some (T == "int") from rfl] at eb
  exact z4o I ru (.int i) (t1.trans eb) fin
 | bl i=>
  have e:=z8C rd; subst e
  rw[show isiD T (.bl i)=some (T == "int" || T == "bool") from rfl] at eb
  exact z4o I ru (.bl i) (t2.trans eb) fin
 | str i=>
  have e:=z3Q rd; subst e
  rw[show isiD T (.str i)=some (T == "str") from rfl] at eb
  exact z4o I ru (.str i) (t3.trans eb) fin
 | non=>
  have e:=zaQ rd; subst e
  rw[show isiD T .non=some false from rfl] at eb
  exact z4o I ru .non (t6.trans eb) fin
 | tup l=>
  obtain⟨a,xs,rfl,h1,h2⟩:=z2s rd
  cases ru
  rw[show isiD T (.tup l)=some (T == "tuple") from rfl] at eb
  obtain⟨its,r,⟨o,ho,hc,_⟩,_⟩:=I.tuple (z1r g h1)
  exact PySem.W.kia_one PySem.W.kitx_tuple I.kIn ⟨o,ho,hc⟩ (t4.trans eb) (fun z=>nomatch z) fin
 | lst l=>
  obtain⟨a,xs,rfl,h1,h2⟩:=z2h rd
  cases ru
  rw[show isiD T (.lst l)=some (T == "list") from rfl] at eb
  obtain⟨its,r,⟨o,n,ho,hc,_⟩,_⟩:=I.list (z1G g h1)
  exact PySem.W.kia_one PySem.W.kitx_list I.kIn ⟨o,ho,hc⟩ (t5.trans eb) (fun z=>nomatch z) fin
 | _=>cases eb
def z7E {e t:Expr}{x:Ex}{pp pos:Pos}{T:String}(hT:T∈zcX)(hg:Gl X "isinstance")(hm:X.mg "isinstance"=none)(he:QX X E e x)(ht:QE X t (tC (.ty T)))
  (hs1:starEach [e,t] X.env=(false,eval e X.env)::starEach [t] X.env:=by rfl) (hs2:starEach [t] X.env=(false,eval t X.env)::starEach [] X.env:=by rfl) (hpl:(backTo pos (starEach [t] X.env)).any (·.1)=false:=by rfl)
  (hv:bootBuiltins "isinstance"=some (.builtin "isinstance"):=by rfl) (hn:("isinstance":Str)≠"__name__":=by decide) (hdb:(("isinstance":Str) == ("__debug__":Str))=false:=by decide):QX X E (.Call (.Name "isinstance" pp) [e,t] [] pos) (.op (pIsi T) [x]):=
 QE.imp (z6K (zhh hT) hg hm hv (z5o he (z5o ht z9n hs2) hs1) hn hdb hs1 hpl) fun σ H Q ⟨G,ρ,Q0,X0,hs,ab,hr,hk,hx⟩=>by
  refine⟨G,ρ,_,X0,hs,ab,hr,fun d v G1 H1 q g1 g2 g3 rd => ?_,hx⟩
  exact⟨v,G1,d,Q0,rfl,g2,rd,q,hk.same g1 g3⟩
def zi1:Fn:=fnI (fun i j Q=>Q (.int (if j > i then j else i))) fun _ _ _ _ m h=>m _ h
def zi0:Fn:=fnI (fun i j Q=>Q (.int (if j < i then j else i))) fun _ _ _ _ m h=>m _ h
end
def GlS (sc:Scope)(x:Str):Prop:=sc.names.lookup x=some .globalImplicit
structure Nm (sc:Scope)(x:Str):Prop where
 loc:Loc sc x
 hd:(x == ("__debug__":Str))=false
 hcd:(x == ("__classdict__":Str))=false
def Nm.vis {sc:Scope}{x:Str}(h:Nm sc x):Vis sc x:=h.loc.elim .inl fun z =>.inr (.inl z)
section
variable {CX:CXT}{P:Program}{w:World}{K:W.Frag}{mg:Str->Option Value}{base:Heap}{N:List Str}{qual:Str}{sc:Scope}{f:Addr}{cdv:Value}{A:Around}{outer:List PySem.Env}{s:Shared}{H:Hp}{E:XK}{xe:Value->Shared->Prop}{x:Str}{pos pos2:Pos}{e:Expr}{te:TE}
def vg (i:Nat)(h:Nm sc x)(hN:N[i]? = some x:=by rfl):QE ((cxOf CX P w K mg base N qual sc f cdv A outer s H E).wish xe) (.Name x pos) (tVar i):=⟨zdt hN h.vis h.hd h.hcd⟩
def ng (i:Nat)(nd:N.Nodup)(h:Nm sc x)(hN:N[i]? = some x:=by rfl):QG ((cxOf CX P w K mg base N qual sc f cdv A outer s H E).wish xe) (.Name x pos) (z63 i):=⟨zba nd hN h.loc (.inl rfl)⟩
def ag (i:Nat)(nd:N.Nodup)(h:Nm sc x)(he:QE ((cxOf CX P w K mg base N qual sc f cdv A outer s H E).wish xe) e te)(hN:N[i]? = some x:=by rfl)(hs:swapsWith e (some (.Name x pos2)) pos.line ((cxOf CX P w K mg base N qual sc f cdv A outer s H E).wish xe).env=pure false:=by rfl):QS ((cxOf CX P w K mg base N qual sc f cdv A outer s H E).wish xe) (.Assign [.Name x pos2] e pos) (tAsg te (z63 i)):=⟨zfV nd hN h.loc he.p hs (.inl rfl)⟩
def glg (h:GlS sc x):Gl ((cxOf CX P w K mg base N qual sc f cdv A outer s H E).wish xe) x:=h
end
def spL (K:W.Frag):Sp:=fun vs H Q _=>∃ (a:Addr) (ns:List Int),vs=[.ref a]/\SqL K H a (ns.map V.int)/\ns.length<=63/\∀ H',Q (.bl true) H'
def zgR {P:Program}{w:World}{K:W.Frag}{mg:Str->Option Value}{base:Heap}{CX:CXT}{k:Nat}{f:Addr}{fd:FuncData}{ps:List Str}{F:Fn}(h:∀ ns:List Int,ns.length<=63->F.run [.lst (ns.map .int)] (fun d=>d = .bl true) (fun _=>False))(ok:FnOk P w K mg base CX k f fd ps (spP K mg F)):FnOk P w K mg base CX k f fd ps (spL K):=
 ok.imp fun vs H Q E ⟨a,ns,e,hS,hl,q⟩=>⟨H,[.lst (ns.map .int)],_,_,Same.refl',by rw[e]; exact RDs.cons (RD.ofL hS (z6Z ns)) RDs.nil,h ns hl,fun d v G' H' e g1 g2 g3 rd=>by
  subst e
  rw[z8C rd]
  exact q H',Kx.no⟩
end Pu
namespace Pu
open PySem L2
open Builtin.Int (intBits)
section
variable {ρ:Pu.Env}{Q:DK}{X:XP}{N:Pu.Env->Prop}{a b c e:Ex}{s t:Sm}{F:Fn}{d:D}{i j:Nat}
def zbg {d:D}(q:Q d):onV (some d) Q:=q
def e_c (q:Q d):(Ex.c d).run ρ Q X:=q
def e_v (q:onV (ρ.get i) Q):(Ex.v i).run ρ Q X:=q
def zit (q:a.run ρ (fun x=>F.run [x] Q X) X):(Ex.op F [a]).run ρ Q X:=q
def zis (q:a.run ρ (fun x=>b.run ρ (fun y=>F.run [x,y] Q X) X) X):(Ex.op F [a,b]).run ρ Q X:=q
def zir (q:a.run ρ (fun x=>b.run ρ (fun y=>c.run ρ (fun z=>F.run [x,y,z] Q X) X) X) X):(Ex.op F [a,b,c]).run ρ Q X:=q
def ziq (q:a.run ρ (fun x=>b.run ρ (fun y=>c.run ρ (fun z=>e.run ρ (fun u=>F.run [x,y,z,u] Q X) X) X) X) X):(Ex.op F [a,b,c,e]).run ρ Q X:=q
def zio {es:List Ex}(q:runs es ρ (fun ds=>F.run ds Q X) X):(Ex.op F es).run ρ Q X:=q
def zfw {Q:List D->Prop}(q:Q []):runs [] ρ Q X:=q
def ze0 {es:List Ex}{Q:List D->Prop}(q:a.run ρ (fun d=>runs es ρ (fun ds=>Q (d::ds)) X) X):runs (a::es) ρ Q X:=q
def ziw (q:a.run ρ (fun d=>tst d (b.run ρ Q X) (Q (.bl false))) X):(Ex.and a b).run ρ Q X:=q
def e_or (q:a.run ρ (fun d=>tst d (Q (.bl true)) (b.run ρ Q X)) X):(Ex.or a b).run ρ Q X:=q
def notD (d:D)(Q:DK):Prop:=match d with
 | .bl b=>Q (.bl (!b))
 | _=>False
def ziu (q:a.run ρ (fun d=>notD d Q) X):(Ex.not a).run ρ Q X:=q
def n_bl {k:Bool}(q:Q (.bl (!k))):notD (.bl k) Q:=q
def ziv (q:c.run ρ (fun d=>tst d (a.run ρ Q X) (b.run ρ Q X)) X):(Ex.ifx c a b).run ρ Q X:=q
def zh7 {nt:Nat}{js:List Nat}{tg:Tg}{src:Ex}{ct:Option Ex}{elt:Ex}(q:src.run ρ (fun d=>onL (z05 d) fun l=>l.length < sizeLine/\z3B (z3l tg ct elt (z0K nt js ρ)) l fun r=>Q (.lst r)) X):(Ex.comp nt js tg src ct elt).run ρ Q X:=q
def zil {l:List D}{K:List D->Prop}(q:K l):onL (z05 (.lst l)) K:=q
def zik {l:List D}{K:List D->Prop}(q:K l):onL (z05 (.tup l)) K:=q
def e_sl {lo hi:Option Ex}(q:a.run ρ (fun d=>part lo ρ (fun l=>part hi ρ (fun u=>slcD d l u Q) X) X) X):(Ex.sl a lo hi).run ρ Q X:=q
def zin {lo hi:Option Ex}(q:a.run ρ (fun d=>part lo ρ (fun l=>part hi ρ (fun u=>b.run ρ (fun k=>isI k fun k=>slsD d l u k Q) X) X) X) X):(Ex.sls a lo hi b).run ρ Q X:=q
def zg8 {K:Option Int->Prop}(q:K none):part none ρ K X:=q
def zg7 {K:Option Int->Prop}(q:a.run ρ (fun d=>isI d fun i=>K (some i)) X):part (some a) ρ K X:=q
def zh1 {k:Int}{K:Int->Prop}(q:K k):isI (.int k) K:=q
def ziA {l:List D}{lo hi:Option Int}(q:Q (.lst (cutD l lo hi))):slcD (.lst l) lo hi Q:=q
def ziz {l:List D}{lo hi:Option Int}(q:Q (.tup (cutD l lo hi))):slcD (.tup l) lo hi Q:=q
def z49 {A B:Prop}(h:A):tst (.bl true) A B:=⟨fun _=>h,(fun z=>by cases z)⟩
def z6D {A B:Prop}(h:B):tst (.bl false) A B:=⟨(fun z=>by cases z),fun _=>h⟩
def zaE {d:D}{ρ:Pu.Env}{B:Prop}(h:Safe d ρ)(q:B):Safe d ρ/\B:=⟨h,q⟩
def zaD {d:D}{ρ:Pu.Env}{B:Prop}(h:zdi d ρ)(q:B):zdi d ρ/\B:=⟨h,q⟩
def t_bl {k:Bool}{A B:Prop}(h:k=true->A)(h':k=false->B):tst (.bl k) A B:=⟨h,h'⟩
def z3n {p:Prop}[Decidable p]{A B:Prop}(h:p->A)(h':¬ p->B):tst (.bl (decide p)) A B:=⟨fun e=>h (of_decide_eq_true e),fun e=>h' (of_decide_eq_false e)⟩
def z6C {p:Prop}[Decidable p]{A B:Prop}(hp:p)(h:A):tst (.bl (decide p)) A B:=z3n (fun _=>h) fun n=>(n hp).elim
def t_no {p:Prop}[Decidable p]{A B:Prop}(hp:¬ p)(h:B):tst (.bl (decide p)) A B:=z3n (fun y=>(hp y).elim) fun _=>h
def z5Q {k:Bool}{A B:Prop}(h:tst (.bl k) B A):tst (.bl (!k)) A B:=by
 cases k
 ·exact z49 (h.2 rfl)
 ·exact z6D (h.1 rfl)
def zav {k:Bool}{A B:Prop}(e:k=true)(h:A):tst (.bl k) A B:=by rw[e]; exact z49 h
def zfj (q:N ρ):Sm.skip.run ρ N Q X:=q
def zfn (q:s.run ρ (fun ρ'=>t.run ρ' N Q X) Q X):(Sm.seq s t).run ρ N Q X:=q
def zfm (q:a.run ρ (fun d=>Safe d (ρ.set i .n)/\N (ρ.set i (.s d))) X):(Sm.set i a).run ρ N Q X:=q
def zfp (q:a.run ρ (fun d=>zdi d (ρ.set i .n)/\N (ρ.set i (.o d))) X):(Sm.own i a).run ρ N Q X:=q
def zfl {js:List Nat}(q:a.run (vis (dem js ρ)) (fun d=>N ((dem js ρ).set i (.s d))) X):(Sm.setx js i a).run ρ N Q X:=q
def s_if (q:c.run ρ (fun d=>tst d (s.run ρ N Q X) (t.run ρ N Q X)) X):(Sm.ifs c s t).run ρ N Q X:=q
def zhy (q:a.run ρ Q X):(Sm.ret a).run ρ N Q X:=q
def zfo (q:Q .non):Sm.retN.run ρ N Q X:=q
def s_ex (q:a.run ρ (fun _=>N ρ) X):(Sm.ex a).run ρ N Q X:=q
def zdW {x:Str}(q:X x):(Sm.raise x).run ρ N Q X:=q
def zfs (q:s.run ρ N Q (fun _=>False)):(Sm.calm s).run ρ N Q X:=q
def zhA {js:List Nat}{tg:Tg}(q:a.run (vis (dem js ρ)) (fun d=>onL (z05 d) fun l=>forL tg s N Q X l (dem js ρ)) X):(Sm.for_ js tg a s).run ρ N Q X:=q
def zdY {tg:Tg}(q:a.run ρ (fun d=>onR [d] fun l=>forL tg s N Q X l ρ) X):(Sm.forr [a] tg s).run ρ N Q X:=q
def zdX {tg:Tg}(q:a.run ρ (fun d=>b.run ρ (fun d'=>onR [d,d'] fun l=>forL tg s N Q X l ρ) X) X):(Sm.forr [a,b] tg s).run ρ N Q X:=q
def zft {l:List D}(h:ownL ρ i fun l=>a.run ρ (fun d=>l.length < sizeLine/\Safe d ρ/\N (ρ.set i (.o (.lst (l++[d]))))) X):(Sm.app i a).run ρ N Q X:=h
def zhz (h:ownL ρ i fun l=>popL l fun l' _=>N (ρ.set i (.o (.lst l')))):(Sm.pop i).run ρ N Q X:=h
def zhB {np nn:Nat}{ds:List D}(h:ds.length=np)(q:s.run (ds.map B.s++List.replicate (nn - np) .n) (fun _=>Q .non) Q (fun _=>False)):(Fn.mkN np nn s).run ds Q X:=⟨h,q⟩
def zhC {np nn:Nat}{ds:List D}(h:ds.length=np)(q:s.run (ds.map B.s++List.replicate (nn - np) .n) (fun _=>Q .non) Q X):(Fn.mk' np nn s).run ds Q X:=⟨h,q⟩
def Sm.cut (W:Pu.Env->Prop)(h:s.run ρ W Q X)(k:∀ ρ',W ρ'->t.run ρ' N Q X):(Sm.seq s t).run ρ N Q X:=s.mono ρ W (fun ρ'=>t.run ρ' N Q X) Q Q X X k (fun _ z=>z) (fun _ z=>z) h
def z2K {α:Type}{f:α->D}{tg:Tg}{l:List α}(I:List α->Pu.Env->Prop)(h0:I [] ρ)(hs:∀ (dn:List α) (x:α) (r:List α) (ρ:Pu.Env),l=dn++x::r->I dn ρ->tg.put (f x) ρ fun ρ'=>s.run ρ' (fun ρ''=>I (dn++[x]) ρ'') Q X)(hd:∀ ρ,I l ρ->N ρ):forL tg s N Q X (l.map f) ρ:=by
 have main:∀ (r dn:List α) (ρ:Pu.Env),l=dn++r->I dn ρ->forL tg s N Q X (r.map f) ρ:=by
  intro r
  induction r with
  | nil=>
   intro dn ρ e h
   rw[List.append_nil] at e
   subst e
   exact hd ρ h
  | cons x r ih=>
   intro dn ρ e h
   rw[List.map_cons]
   exact Tg.put_mono (fun ρ' q=>s.mono ρ' _ _ Q Q X X (fun ρ'' q=>ih (dn++[x]) ρ'' (by rw[e]; simp) q) (fun _ z=>z) (fun _ z=>z) q) (hs dn x r ρ e h)
 exact main l [] ρ rfl h0
def zdj (I:Pu.Env->Prop)(μ:Pu.Env->Nat)(h0:I ρ)(hs:∀ ρ,I ρ->c.run ρ (fun d=>tst d (s.run ρ (fun ρ'=>I ρ'/\μ ρ' < μ ρ) Q X) (N ρ)) X):(Sm.wh c s).run ρ N Q X:=by
 have main:∀ (n:Nat) (ρ:Pu.Env),I ρ->μ ρ < n->wh c s N Q X n ρ:=by
  intro n
  induction n with
  | zero=>intro ρ _ h; exact absurd h (Nat.not_lt_zero _)
  | succ n ih=>
   intro ρ hI hm
   exact c.mono ρ _ _ X X (fun d q=>z34 (s.mono ρ _ _ Q Q X X (fun ρ' q=>ih ρ' q.1 (by lia)) (fun _ z=>z) (fun _ z=>z)) (fun z=>z) q) (fun _ z=>z) (hs ρ hI)
 exact⟨μ ρ+1,main _ ρ h0 (Nat.lt_succ_self _)⟩
def z32 {α:Type}{f g:α->D}{G:D->(Option D->Prop)->Prop}{M:List D->Prop}:∀ {l:List α},(∀ x∈l,∀ K:Option D->Prop,K (some (g x))->G (f x) K)->M (l.map g)->z3B G (l.map f) M
 | [],_,q=>q
 | x::r,h,q=>h x List.mem_cons_self _ (z32 (l:=r) (fun y hy=>h y (List.mem_cons_of_mem _ hy)) q)
def z8e {α β:Type}{f:α->D}{g:β->D}{P:α->β->Prop}{G:D->(Option D->Prop)->Prop}:∀ {l:List α}{M:List D->Prop},(∀ x∈l,∀ K:Option D->Prop,(∀ y,P x y->K (some (g y)))->G (f x) K)->(∀ ys:List β,ys.length=l.length->(∀ y∈ys,∃ x∈l,P x y)->M (ys.map g))->z3B G (l.map f) M
 | [],_,_,q=>q [] rfl (fun _ z=>by simp at z)
 | x::r,M,h,q=>h x List.mem_cons_self _ fun y hy=>z8e (l:=r) (M:=fun t=>M ((some (g y)).toList++t)) (fun z hz=>h z (List.mem_cons_of_mem _ hz)) fun ys hl ha=>q (y::ys) (by simp[hl]) fun z hz=>by
  rcases List.mem_cons.mp hz with rfl | hz
  ·exact⟨x,List.mem_cons_self,hy⟩
  ·obtain⟨w,hw,hp⟩:=ha z hz
   exact⟨w,List.mem_cons_of_mem _ hw,hp⟩
def ziy {k:Nat}{elt:Ex}{x:D}{K:Option D->Prop}(q:elt.run (ρ.set k (.s x)) (fun d=>K (some d)) (fun _=>False)):z3l (.nm k) none elt ρ x K:=q
def zhg {k:Nat}{elt:Ex}{x:D}{K:Option D->Prop}(q:c.run (ρ.set k (.s x)) (fun b=>tst b (elt.run (ρ.set k (.s x)) (fun d=>K (some d)) (fun _=>False)) (K none)) (fun _=>False)):z3l (.nm k) (some c) elt ρ x K:=q
variable {m n:Int}
def zig (q:Q (.int (m+n))):pAdd.run [.int m,.int n] Q X:=q
def zi9 (q:Q (.int (m - n))):pSub.run [.int m,.int n] Q X:=q
def zey (h:zeX m n)(q:Q (.int (m*n))):z0y.run [.int m,.int n] Q X:=⟨h,q⟩
def zib (q:Q (.int (-m))):pNeg.run [.int m] Q X:=q
def zgI (h:0 < n)(hb:Bt 9000 n)(q:Q (.int (m / n))):z30.run [.int m,.int n] Q X:=⟨⟨by lia,hb⟩,by rw[Int.fdiv_eq_ediv_of_nonneg m (by lia)]; exact q⟩
def zgr (h:0 < n)(q:Q (.int (m % n))):pMod.run [.int m,.int n] Q X:=⟨by lia,by rw[Int.fmod_eq_emod_of_nonneg m (by lia)]; exact q⟩
def zia (h:CPow m n)(q:Q (.int (m ^ n.toNat))):pPow.run [.int m,.int n] Q X:=⟨h,q⟩
def o_lt (q:Q (.bl (decide (m < n)))):pLt.run [.int m,.int n] Q X:=q
def o_le (q:Q (.bl (decide (m<=n)))):pLe.run [.int m,.int n] Q X:=q
def o_gt (q:Q (.bl (decide (n < m)))):pGt.run [.int m,.int n] Q X:=q
def o_ge (q:Q (.bl (decide (n<=m)))):pGeI.run [.int m,.int n] Q X:=q
def o_eq (q:Q (.bl (decide (m=n)))):pEq.run [.int m,.int n] Q X:=q
def o_ne (q:Q (.bl (!decide (m=n)))):pNe.run [.int m,.int n] Q X:=q
def zeA {l r:List D}(a:Da 60 (.tup l))(b:Da 60 (.tup r))(q:Q (.bl (deq (.tup l) (.tup r)))):pEq.run [.tup l,.tup r] Q X:=⟨a,b,q⟩
def o_is (q:Q (.bl (isN d))):pIs.run [d,.non] Q X:=q
def zez (q:Q (.bl (!isN d))):zg9.run [d,.non] Q X:=q
def zgz {l:List D}(q:Q (.int (l.length:Int))):pLen.run [.lst l] Q X:=q
def zgy {l:List D}(q:Q (.int (l.length:Int))):pLen.run [.tup l] Q X:=q
def zie {l:List D}(q:onV (atI l m) Q):pIx.run [.lst l,.int m] Q X:=q
def zid {l:List D}(q:onV (atI l m) Q):pIx.run [.tup l,.int m] Q X:=q
def zi8 {ds:List D}(h:ds.length<=sizeLine)(q:Q (.tup ds)):pTup.run ds Q X:=⟨h,q⟩
def zic {ds:List D}(h:ds.length<=sizeLine)(q:Q (.lst ds)):pLst.run ds Q X:=⟨h,q⟩
def zgp {l:List D}(q:Q (.tup l)):z5p.run [.lst l] Q X:=q
def zgo {l:List D}(q:Q (.tup l)):z5p.run [.tup l] Q X:=q
def zgx {l:List D}(q:Q (.lst l)):zdu.run [.lst l] Q X:=q
def zgw {l:List D}(q:Q (.lst l)):zdu.run [.tup l] Q X:=q
def zih (q:Q (.int (if m < 0 then -m else m))):pAbs.run [.int m] Q X:=q
def zgG (q:Q (.int m)):pInt.run [.int m] Q X:=q
def zgH {k:Bool}(q:Q (.int (if k then 1 else 0))):pInt.run [.bl k] Q X:=q
def zgE {T:String}(q:Q (.bl (T == "int"))):(pIsi T).run [.int m] Q X:=q
def zgF {T:String}{k:Bool}(q:Q (.bl (T == "int" || T == "bool"))):(pIsi T).run [.bl k] Q X:=q
def zgA {T:String}{l:List D}(q:Q (.bl (T == "tuple"))):(pIsi T).run [.tup l] Q X:=q
def zgD {T:String}{l:List D}(q:Q (.bl (T == "list"))):(pIsi T).run [.lst l] Q X:=q
def zgB {T:String}{x:Str}(q:Q (.bl (T == "str"))):(pIsi T).run [.str x] Q X:=q
def zgC {T:String}(q:Q (.bl false)):(pIsi T).run [.non] Q X:=q
def zgv (q:Q (.int (if n > m then n else m))):zi1.run [.int m,.int n] Q X:=q
def zgs (q:Q (.int (if n < m then n else m))):zi0.run [.int m,.int n] Q X:=q
def z9x {l r:List D}(h:l.length+r.length<=sizeLine)(q:Q (.lst (l++r))):pAdd.run [.lst l,.lst r] Q X:=⟨h,q⟩
end
def Safe.of_noL {d:D}(h1:noL d=true)(h2:noD d=true):∀ ρ:Pu.Env,Safe d ρ
 | []=>trivial
 | .n::r=>⟨trivial,Safe.of_noL h1 h2 r⟩
 | .s _::r=>⟨trivial,Safe.of_noL h1 h2 r⟩
 | .o x::r=>⟨by cases x <;> first | exact h1 | exact h2 | trivial,Safe.of_noL h1 h2 r⟩
def z6M {ρ:Pu.Env}{i:Nat}{l:List D}{K:List D->Prop}(h:ρ[i]? = some (B.o (.lst l)))(q:K l):ownL ρ i K:=by unfold ownL; rw[h]; exact q
def zaR {k:Int}{K:List D->Prop}(h : -(2 ^ 62)<=k)(h':k < 2 ^ 62)(q:K ((List.range k.toNat).map fun(j:Nat)=>D.int (j:Int))):onR [.int k] K:=⟨⟨h,h'⟩,q⟩
def zfx {i k:Int}{K:List D->Prop}(h:(-(2 ^ 62)<=i/\i < 2 ^ 62) /\ -(2 ^ 62)<=k/\k < 2 ^ 62)(q:K ((List.range (k - i).toNat).map fun(j:Nat)=>D.int (i+(j:Int)))):onR [.int i,.int k] K:=⟨h,q⟩
def z3k {l:List D}{k:Int}{d:D}{Q:DK}(e:atI l k=some d)(q:Q d):onV (atI l k) Q:=by rw[e]; exact q
abbrev vec (p:Int × Int):D :=.tup [.int p.1,.int p.2]
def z6U:∀ {l:List D},(∀ d∈l,noL d=true)->noLs l=true
 | [],_=>rfl
 | d::r,h=>by rw[noLs,h d List.mem_cons_self,z6U fun x hx=>h x (List.mem_cons_of_mem _ hx)]; rfl
def z6V:∀ {l:List D},(∀ d∈l,noD d=true)->noDs l=true
 | [],_=>rfl
 | d::r,h=>by rw[noDs,h d List.mem_cons_self,z6V fun x hx=>h x (List.mem_cons_of_mem _ hx)]; rfl
abbrev vecs (l:List (Int × Int)):D :=.tup (l.map vec)
def zcK (l:List (Int × Int)):noL (vecs l)=true:=by
 show noLs (l.map vec)=true
 refine z6U fun d hd => ?_
 obtain⟨p,_,rfl⟩:=List.mem_map.mp hd
 rfl
def zcM (l:List (Int × Int)):noD (vecs l)=true:=by
 show noDs (l.map vec)=true
 refine z6V fun d hd => ?_
 obtain⟨p,_,rfl⟩:=List.mem_map.mp hd
 rfl
def z2j {α:Type}{f:α->D}{l:List α}{k:Int}{x:α}(h:atI l k=some x):atI (l.map f) k=some (f x):=by
 unfold atI at h ⊢
 rw[List.length_map]
 cases q:ixN l.length k with
 | none=>rw[q] at h; cases h
 | some j=>
  rw[q] at h
  have h':l[j]? = some x:=h
  show (l.map f)[j]? = some (f x)
  rw[List.getElem?_map,h']
  rfl
def z7d {α:Type}(f:α->D)(l:List α)(lo hi:Option Int):cutD (l.map f) lo hi=((l.drop (HT.sIx l.length 0 lo)).take (HT.sIx l.length l.length hi - HT.sIx l.length 0 lo)).map f:=by
 unfold cutD
 rw[List.length_map,List.map_take,List.map_drop]
end Pu
namespace Geo
abbrev P:=Int × Int
def cr (a b c:P):Int:=(b.1 - a.1)*(c.2 - a.2) - (b.2 - a.2)*(c.1 - a.1)
def Lx (a b:P):Prop:=a.1 < b.1\/(a.1=b.1/\a.2 < b.2)
instance (a b:P):Decidable (Lx a b):=inferInstanceAs (Decidable (_\/_))
def Lx.irr {a:P}:¬ Lx a a:=by unfold Lx; lia
def Lx.tr {a b c:P}(h:Lx a b)(q:Lx b c):Lx a c:=by unfold Lx at *; lia
def Lx.asym {a b:P}(h:Lx a b):¬ Lx b a:=by unfold Lx at *; lia
def Lx.tri (a b:P):Lx a b\/a=b\/Lx b a:=by
 obtain⟨a1,a2⟩:=a
 obtain⟨b1,b2⟩:=b
 unfold Lx
 simp only[Prod.mk.injEq]
 lia
def Lx.ne {a b:P}(h:Lx a b):a≠b:=fun z=>by subst z; exact Lx.irr h
def z7W {a b:P}(h1:¬ Lx a b)(h2:¬ Lx b a):a=b:=by
 rcases Lx.tri a b with h | h | h
 ·exact absurd h h1
 ·exact h
 ·exact absurd h h2
def z9b {k m:Int}(h:0 < k)(q:0<=m*k):0<=m:=by
 rcases(show m < 0\/0<=m by lia) with z | z
 ·have:=Int.mul_neg_of_neg_of_pos z h; lia
 ·exact z
def z9a {k m:Int}(h:0 < k)(q:0 < m*k):0 < m:=by
 rcases(show m<=0\/0 < m by lia) with z | z
 ·have:=Int.mul_nonpos_of_nonpos_of_nonneg z (Int.le_of_lt h); lia
 ·exact z
def zf5 {u1 u2 w1 w2 z1 z2:Int}(hw:0 < w1\/w1=0/\0 < w2)(hu:0 < u1\/u1=0/\0<=u2)(hz:0 < z1\/z1=0/\0<=z2)(h1:0<=u1*w2 - u2*w1)(h2:0<=w1*z2 - w2*z1):0<=u1*z2 - u2*z1:=by
 rcases hw with hw | ⟨hw,hw2⟩
 ·refine z9b hw ?_
  have e:(u1*z2 - u2*z1)*w1=(u1*w2 - u2*w1)*z1+(w1*z2 - w2*z1)*u1:=by grind
  rw[e]
  have a1:=Int.mul_nonneg h1 (show 0<=z1 by lia)
  have a2:=Int.mul_nonneg h2 (show 0<=u1 by lia)
  lia
 ·subst hw
  have z0:z1=0:=by
   rcases hz with hz | hz
   ·have:=Int.mul_pos hw2 hz; lia
   ·exact hz.1
  have z2':0<=z2:=by lia
  subst z0
  have:=Int.mul_nonneg (show 0<=u1 by lia) z2'
  lia
def zhx {u1 u2 w1 w2 z1 z2:Int}(hw:0 < w1\/w1=0/\0 < w2)(hu:0 < u1\/u1=0/\0 < u2)(hz:0 < z1\/z1=0/\0 < z2)(h1:0 < u1*w2 - u2*w1)(h2:0 < w1*z2 - w2*z1):0 < u1*z2 - u2*z1:=by
 rcases hw with hw | ⟨hw,hw2⟩
 ·refine z9a hw ?_
  have e:(u1*z2 - u2*z1)*w1=(u1*w2 - u2*w1)*z1+(w1*z2 - w2*z1)*u1:=by grind
  rw[e]
  rcases hu with hu | ⟨hu,hu2⟩
  ·have a1:=Int.mul_nonneg (Int.le_of_lt h1) (show 0<=z1 by lia)
   have a2:=Int.mul_pos h2 hu
   lia
  ·subst hu
   have:=Int.mul_pos hu2 hw
   lia
 ·subst hw
  rcases hz with hz | ⟨hz,_⟩
  ·have:=Int.mul_pos hw2 hz
   lia
  ·subst hz; lia
def pops (v:P):List P->List P
 | b::a::r=>if cr a b v<=0 then pops v (a::r) else b::a::r
 | s=>s
def z69 (S:P->Prop):List P->Prop
 | b::a::r=>(∀ p,S p->0<=cr a b p)/\Lx a b/\z69 S (a::r)
 | _=>True
def Conv:List P->Prop
 | c::b::a::r=>0 < cr a b c/\Conv (b::a::r)
 | _=>True
def z69.tail {S:P->Prop}{b:P}{r:List P}(h:z69 S (b::r)):z69 S r:=by
 cases r with
 | nil=>trivial
 | cons a r=>exact h.2.2
def Conv.tail {b:P}{r:List P}(h:Conv (b::r)):Conv r:=by
 match r,h with
 | [],_=>trivial
 | [_],_=>trivial
 | _::_::_,h=>exact h.2
def z87 {S:P->Prop}{v:P}:∀ {r:List P}{b a:P},z69 S (b::a::r)->Conv (b::a::r)->Lx b v->0 < cr a b v->z69 (fun p=>p=v\/S p) (b::a::r)
 | [],b,a,he,hc,hv,h=>⟨fun p hp=>by
   rcases hp with rfl | hp
   ·exact Int.le_of_lt h
   ·exact he.1 p hp,he.2.1,trivial⟩
 | c::r,b,a,he,hc,hv,h=>by
  have hca:=he.2.2.2.1
  have hab:=he.2.1
  have h2:0 < cr c a v:=by
   have q1:0 < cr c a b:=hc.1
   have:=zhx (u1:=a.1 - c.1) (u2:=a.2 - c.2) (w1:=b.1 - a.1) (w2:=b.2 - a.2) (z1:=v.1 - b.1) (z2:=v.2 - b.2) (by unfold Lx at hab; lia) (by unfold Lx at hca; lia) (by unfold Lx at hv; lia)
    (by unfold cr at q1; grind) (by unfold cr at h; grind)
   unfold cr at q1 ⊢
   grind
  exact⟨fun p hp=>by
   rcases hp with rfl | hp
   ·exact Int.le_of_lt h
   ·exact he.1 p hp,hab,z87 he.2.2 hc.2 (hab.tr hv) h2⟩
def zaZ {S:P->Prop}{v:P}(hv:∀ p,S p->Lx p v):∀ {r:List P}{b:P},(∀ x∈b::r,S x)->z69 S (b::r)->Conv (b::r)->(∀ p,S p->¬ Lx p b->0<=cr b v p)->(∀ z,(b::r).getLast? = some z->∀ p,S p->¬ Lx p z)->
  ∃ b' r',pops v (b::r)=b'::r'/\(b'::r') <:+ (b::r)/\(∀ p,S p->0<=cr b' v p)/\z69 (fun p=>p=v\/S p) (b'::r')/\Conv (v::b'::r')
 | [],b,hs,he,hc,ht,hl=>⟨b,[],rfl,List.suffix_refl _,fun p hp=>ht p hp (hl b rfl p hp),trivial,trivial⟩
 | a::r,b,hs,he,hc,ht,hl=>by
  have hab:=he.2.1
  have hbv:=hv b (hs b (by simp))
  by_cases h:cr a b v<=0
  ·have e:pops v (b::a::r)=pops v (a::r):=by rw[pops,if_pos h]
   obtain⟨b',r',h1,h2,h3,h4,h5⟩:=zaZ hv (r:=r) (b:=a) (fun x hx=>hs x (List.mem_cons_of_mem _ hx)) he.tail hc.tail (fun p hp hn=>by
    have q1:=he.1 p hp
    have:=zf5 (u1:=v.1 - a.1) (u2:=v.2 - a.2) (w1:=b.1 - a.1) (w2:=b.2 - a.2) (z1:=p.1 - a.1) (z2:=p.2 - a.2) (by unfold Lx at hab; lia) (by have:=hab.tr hbv; unfold Lx at this; lia) (by unfold Lx at hn; lia)
     (by unfold cr at h; grind) (by unfold cr at q1; grind)
    unfold cr
    grind) (fun z hz=>hl z (by rw[List.getLast?_cons_cons]; exact hz))
   exact⟨b',r',e.trans h1,h2.trans (List.suffix_cons _ _),h3,h4,h5⟩
  ·have h':0 < cr a b v:=by lia
   have e:pops v (b::a::r)=b::a::r:=by rw[pops,if_neg h]
   refine⟨b,a::r,e,List.suffix_refl _,fun p hp => ?_,z87 he hc hbv h',⟨h',hc⟩⟩
   by_cases hn:Lx p b
   ·have q1:=he.1 p hp
    have:=zf5 (u1:=b.1 - p.1) (u2:=b.2 - p.2) (w1:=b.1 - a.1) (w2:=b.2 - a.2) (z1:=v.1 - b.1) (z2:=v.2 - b.2) (by unfold Lx at hab; lia) (by unfold Lx at hn; lia) (by unfold Lx at hbv; lia)
     (by unfold cr at q1; grind) (by unfold cr at h'; grind)
    unfold cr
    grind
   ·exact ht p hp hn
structure Ok (S:P->Prop)(s:List P):Prop where
 sub:∀ x∈s,S x
 desc:s.Pairwise fun x y=>Lx y x
 top:∃ b r,s=b::r/\∀ p,S p->¬ Lx b p
 bot:∃ z,s.getLast? = some z/\∀ p,S p->¬ Lx p z
 edges:z69 S s
 conv:Conv s
def z5g {s t:List P}{b:P}(h:(b::t) <:+ s):s.getLast? = (b::t).getLast? := by
 obtain⟨u,rfl⟩:=h
 rw[List.getLast?_append]
 rw[List.getLast?_cons]
 rfl
def Ok.push {S:P->Prop}{s:List P}{v:P}(o:Ok S s)(hv:∀ p,S p->Lx p v):Ok (fun p=>p=v\/S p) (v::pops v s):=by
 obtain⟨b,r,rfl,htop⟩:=o.top
 obtain⟨z,hz,hbot⟩:=o.bot
 obtain⟨b',r',h1,h2,h3,h4,h5⟩:=zaZ hv o.sub o.edges o.conv (fun p hp hn=>by
  have:p=b:=z7W hn (htop p hp)
  subst this
  unfold cr
  grind) (fun z' hz'=>by rw[hz] at hz'; injection hz' with e; subst e; exact hbot)
 have hin:∀ x∈b'::r',S x:=fun x hx=>o.sub x (h2.subset hx)
 rw[h1]
 refine⟨fun x hx => ?_,?_,⟨v,_,rfl,fun p hp => ?_⟩,⟨z,?_,fun p hp => ?_⟩,⟨fun p hp => ?_,hv b' (hin b' (by simp)),h4⟩,h5⟩
 ·rcases List.mem_cons.mp hx with rfl | hx
  ·exact .inl rfl
  ·exact .inr (hin x hx)
 ·exact List.pairwise_cons.mpr ⟨fun x hx=>hv x (hin x hx),o.desc.sublist h2.sublist⟩
 ·rcases hp with rfl | hp
  ·exact Lx.irr
  ·exact(hv p hp).asym
 ·rw[List.getLast?_cons_cons, <- z5g h2]; exact hz
 ·rcases hp with rfl | hp
  ·exact(hv z (by rw[z5g h2] at hz; exact hin z (List.mem_of_getLast? hz))).asym
  ·exact hbot p hp
 ·rcases hp with rfl | hp
  ·unfold cr; grind
  ·exact h3 p hp
def z3C (l:List P):List P:=l.foldl (fun s v=>v::pops v s) []
def Ok.one (v:P):Ok (fun p=>p=v) [v]:=⟨by simp,by simp,⟨v,[],rfl,fun p hp=>by subst hp; exact Lx.irr⟩,⟨v,rfl,fun p hp=>by subst hp; exact Lx.irr⟩,trivial,trivial⟩
def Ok.congr {S S':P->Prop}{s:List P}(o:Ok S s)(h:∀ p,S p↔S' p):Ok S' s:=by
 have e:S=S':=funext fun p=>propext (h p)
 subst e
 exact o
def z9N:∀ (l:List P) (S:P->Prop) (s:List P),Ok S s->(∀ x∈l,∀ p,S p->Lx p x)->l.Pairwise Lx->Ok (fun p=>S p\/p∈l) (l.foldl (fun s v=>v::pops v s) s)
 | [],S,s,o,_,_=>o.congr (by simp)
 | v::l,S,s,o,h,hp=>by
  obtain⟨h1,h2⟩:=List.pairwise_cons.mp hp
  have:=z9N l _ _ (o.push (v:=v) (h v (by simp))) (fun x hx p hp=>by
   rcases hp with rfl | hp
   ·exact h1 x hx
   ·exact h x (by simp[hx]) p hp) h2
  refine this.congr fun p => ?_
  simp only[List.mem_cons]
  constructor
  ·rintro((h | h) | h)
   ·exact .inr (.inl h)
   ·exact .inl h
   ·exact .inr (.inr h)
  ·rintro(h | h | h)
   ·exact .inl (.inr h)
   ·exact .inl (.inl h)
   ·exact .inr h
def z8g {l:List P}(hn:l≠[])(hp:l.Pairwise Lx):Ok (· ∈ l) (z3C l):=by
 match l,hn with
 | v::l,_=>
  obtain⟨h1,h2⟩:=List.pairwise_cons.mp hp
  have:=z9N l (fun p=>p=v) [v] (Ok.one v) (fun x hx p hp=>by subst hp; exact h1 x hx) h2
  exact this.congr fun p=>by simp
def ng (p:P):P:=(-p.1,-p.2)
def z4k (p:P):ng (ng p)=p:=by unfold ng; simp
def zd9 (a b c:P):cr (ng a) (ng b) (ng c)=cr a b c:=by unfold cr ng; grind
def za8 {a b:P}:Lx (ng a) (ng b)↔Lx b a:=by unfold Lx ng; simp; lia
def zb0 (v:P):∀ s:List P,pops (ng v) (s.map ng)=(pops v s).map ng
 | []=>rfl
 | [_]=>rfl
 | b::a::r=>by
  show (if cr (ng a) (ng b) (ng v)<=0 then pops (ng v) ((a::r).map ng) else _)=_
  rw[zd9,zb0 v (a::r),pops]
  by_cases h:cr a b v<=0
  ·rw[if_pos h,if_pos h]
  ·rw[if_neg h,if_neg h]; rfl
def zbB:∀ (l s:List P),(l.map ng).foldl (fun s v=>v::pops v s) (s.map ng)=(l.foldl (fun s v=>v::pops v s) s).map ng
 | [],_=>rfl
 | v::l,s=>by
  show (l.map ng).foldl _ (ng v::pops (ng v) (s.map ng))=_
  rw[zb0]
  exact zbB l (v::pops v s)
def zbL (l:List P):z3C (l.map ng)=(z3C l).map ng:=zbB l []
def dot (a b p:P):Int:=(p.1 - a.1)*(b.1 - a.1)+(p.2 - a.2)*(b.2 - a.2)
structure Edge (S:P->Prop)(a b:P):Prop where
 sa:S a
 sb:S b
 ne:a≠b
 left:∀ p,S p->0<=cr a b p
 btw:∀ p,S p->cr a b p=0->0<=dot a b p/\0<=dot b a p
def Edge.ng {S:P->Prop}{a b:P}(e:Edge (fun p=>S (Geo.ng p)) a b):Edge S (Geo.ng a) (Geo.ng b):=by
 refine⟨e.sa,e.sb,fun z=>e.ne (by have:=congrArg Geo.ng z; rwa [z4k,z4k] at this),fun p hp => ?_,fun p hp h => ?_⟩
 ·have:=e.left (Geo.ng p) (by rw[z4k]; exact hp)
  rw[<- zd9,z4k] at this
  exact this
 ·have:=e.btw (Geo.ng p) (by rw[z4k]; exact hp) (by rw[<- zd9,z4k]; exact h)
  unfold dot Geo.ng at*
  dsimp only at*
  constructor
  ·have:=this.1; grind
  ·have:=this.2; grind
def zeS (a b c:P):cr a c b = -cr a b c:=by unfold cr; grind
def z0w (x:Int):0<=x*x:=by
 rcases(show x<=0\/0<=x by lia) with h | h
 ·exact Int.mul_nonneg_of_nonpos_of_nonpos h h
 ·exact Int.mul_nonneg h h
def z4z {x y:Int}(h:x*x+y*y=0):x=0/\y=0:=by
 have h1:=z0w x
 have h2:=z0w y
 have t1:x*x=0:=by omega
 have t2:y*y=0:=by omega
 constructor
 ·rcases Int.mul_eq_zero.mp t1 with z | z <;> exact z
 ·rcases Int.mul_eq_zero.mp t2 with z | z <;> exact z
def Edge.det {S:P->Prop}{a b c:P}(e:Edge S a b)(f:Edge S a c):b=c:=by
 have h1:=e.left c f.sb
 have h2:=f.left b e.sb
 have hsw:=zeS a b c
 have h0:cr a b c=0:=by lia
 have h0':cr a c b=0:=by lia
 have q1:=e.btw c f.sb h0
 have q2:=f.btw b e.sb h0'
 have ne1:=e.ne
 have ne2:=f.ne
 obtain⟨a1,a2⟩:=a
 obtain⟨b1,b2⟩:=b
 obtain⟨c1,c2⟩:=c
 unfold cr at h0
 unfold dot at q1 q2
 simp only[ne_eq,Prod.mk.injEq] at*
 obtain⟨q11,q12⟩:=q1
 obtain⟨q21,q22⟩:=q2
 have k1:(b1 - c1)*(b1 - c1)+(b2 - c2)*(b2 - c2)=0:=by
  generalize hu1:b1 - a1=u1 at*
  generalize hu2:b2 - a2=u2 at*
  generalize hw1:c1 - a1=w1 at*
  generalize hw2:c2 - a2=w2 at*
  have e1:b1 - c1=u1 - w1:=by lia
  have e2:b2 - c2=u2 - w2:=by lia
  have e3:c1 - b1=w1 - u1:=by lia
  have e4:c2 - b2=w2 - u2:=by lia
  have e5:a1 - b1 = -u1:=by lia
  have e6:a2 - b2 = -u2:=by lia
  have e7:a1 - c1 = -w1:=by lia
  have e8:a2 - c2 = -w2:=by lia
  rw[e1,e2] at q22 ⊢
  rw[e3,e4,e5,e6] at q12
  rw[e7,e8] at q22
  have A:0<=(u1*u1+u2*u2) - (u1*w1+u2*w2):=by grind
  have B:0<=(w1*w1+w2*w2) - (u1*w1+u2*w2):=by grind
  have C:(u1*u1+u2*u2)*(w1*w1+w2*w2)=(u1*w1+u2*w2)*(u1*w1+u2*w2):=by
   have:(u1*u1+u2*u2)*(w1*w1+w2*w2)=(u1*w1+u2*w2)*(u1*w1+u2*w2)+(u1*w2 - u2*w1)*(u1*w2 - u2*w1):=by grind
   rw[this,h0]; lia
  have D:0<=u1*w1+u2*w2:=by grind
  have PX:0 < u1*u1+u2*u2:=by
   have n1:=z0w u1
   have n2:=z0w u2
   rcases(show u1*u1+u2*u2=0\/0 < u1*u1+u2*u2 by lia) with z | z
   ·have:=z4z z; lia
   ·exact z
  have PY:0 < w1*w1+w2*w2:=by
   have n1:=z0w w1
   have n2:=z0w w2
   rcases(show w1*w1+w2*w2=0\/0 < w1*w1+w2*w2 by lia) with z | z
   ·have:=z4z z; lia
   ·exact z
  have E:(u1 - w1)*(u1 - w1)+(u2 - w2)*(u2 - w2)=((u1*u1+u2*u2) - (u1*w1+u2*w2))+((w1*w1+w2*w2) - (u1*w1+u2*w2)):=by grind
  rw[E]
  generalize u1*u1+u2*u2=X at*
  generalize w1*w1+w2*w2=Y at*
  generalize u1*w1+u2*w2=Z at*
  have F:(X - Z)*Y+Z*(Y - Z)=0:=by grind
  have G1:=Int.mul_nonneg A (show 0<=Y by lia)
  have G2:=Int.mul_nonneg D B
  have G3:(X - Z)*Y=0:=by omega
  have G4:Z*(Y - Z)=0:=by omega
  rcases Int.mul_eq_zero.mp G3 with h | h
  ·rcases Int.mul_eq_zero.mp G4 with h' | h'
   ·have:X*Y=0:=by rw[C,h']; rfl
    rcases Int.mul_eq_zero.mp this with h'' | h'' <;> lia
   ·lia
  ·rcases Int.mul_eq_zero.mp G4 with h' | h' <;> lia
 have:=z4z k1
 lia
def Path (R:P->P->Prop):List P->Prop
 | a::b::r=>R a b/\Path R (b::r)
 | _=>True
def Path.join {R:P->P->Prop}{M:P}{t:List P}:∀ {A:List P},Path R (A++[M])->Path R (M::t)->Path R (A++M::t)
 | [],_,h=>h
 | [a],h,q=>⟨h.1,q⟩
 | a::b::A,h,q=>⟨h.1,Path.join (A:=b::A) h.2 q⟩
def Path.snoc {R:P->P->Prop}{a b:P}{A:List P}(h:Path R (A++[a]))(q:R a b):Path R (A++[a,b]):=Path.join h ⟨q,trivial⟩
def Path.rev {R:P->P->Prop}:∀ {l:List P},Path (fun x y=>R y x) l->Path R l.reverse
 | [],_=>trivial
 | [_],_=>trivial
 | a::b::r,h=>by
  have:=Path.rev (l:=b::r) h.2
  rw[List.reverse_cons] at this ⊢
  rw[List.reverse_cons]
  rw[List.append_assoc]
  exact Path.snoc this h.1
def Path.imp {R R':P->P->Prop}(i:∀ a b,R a b->R' a b):∀ {l:List P},Path R l->Path R' l
 | [],_=>trivial
 | [_],_=>trivial
 | _::_::_,h=>⟨i _ _ h.1,Path.imp i h.2⟩
def Path.map {R:P->P->Prop}{f:P->P}:∀ {l:List P},Path (fun a b=>R (f a) (f b)) l->Path R (l.map f)
 | [],_=>trivial
 | [_],_=>trivial
 | _::b::r,h=>⟨h.1,Path.map (l:=b::r) h.2⟩
def zdx {a b p:P}(h:Lx a b)(q:¬ Lx b p)(z:cr a b p=0):0<=dot b a p:=by
 unfold Lx at h q
 unfold cr at z
 unfold dot
 have e:(p.1 - b.1)*(a.1 - b.1)+(p.2 - b.2)*(a.2 - b.2)=(b.1 - a.1)*(b.1 - p.1)+(b.2 - a.2)*(b.2 - p.2):=by grind
 rw[e]
 have z':(b.1 - a.1)*(b.2 - p.2)=(b.2 - a.2)*(b.1 - p.1):=by grind
 generalize hu1:b.1 - a.1=u1 at*
 generalize hu2:b.2 - a.2=u2 at*
 generalize hw1:b.1 - p.1=w1 at*
 generalize hw2:b.2 - p.2=w2 at*
 rcases(show 0 < u1\/u1=0/\0 < u2 by lia) with h1 | ⟨h1,h2⟩
 ·refine z9b h1 ?_
  have:(u1*w1+u2*w2)*u1=w1*(u1*u1+u2*u2):=by grind
  rw[this]
  have n1:=z0w u1
  have n2:=z0w u2
  exact Int.mul_nonneg (by lia) (by lia)
 ·subst h1
  have:u2*w1=0:=by lia
  rcases Int.mul_eq_zero.mp this with z | z
  ·lia
  ·subst z
   have:=Int.mul_nonneg (Int.le_of_lt h2) (show 0<=w2 by lia)
   lia
def zeD {a b p:P}(h:Lx a b)(q:¬ Lx p a)(z:cr a b p=0):0<=dot a b p:=by
 have:=zdx (a:=ng b) (b:=ng a) (p:=ng p) (za8.mpr h) (fun y=>q (za8.mp y)) (by rw[zd9]; unfold cr at *; grind)
 unfold dot ng at*
 dsimp only at this
 grind
def zeC {a b c p:P}(h:0 < cr a b c)(q:0<=cr b c p)(z:cr a b p=0):0<=dot b a p:=by
 unfold cr at h q z
 unfold dot
 have e1:(p.1 - b.1)*(a.1 - b.1)+(p.2 - b.2)*(a.2 - b.2) = -((p.1 - b.1)*(b.1 - a.1)+(p.2 - b.2)*(b.2 - a.2)):=by grind
 rw[e1]
 have h':0 < (b.1 - a.1)*(c.2 - b.2) - (b.2 - a.2)*(c.1 - b.1):=by grind
 have z':(b.1 - a.1)*(p.2 - b.2) - (b.2 - a.2)*(p.1 - b.1)=0:=by grind
 generalize b.1 - a.1=u1 at*
 generalize b.2 - a.2=u2 at*
 generalize c.1 - b.1=c1 at*
 generalize c.2 - b.2=c2 at*
 generalize p.1 - b.1=w1 at*
 generalize p.2 - b.2=w2 at*
 refine z9b h' ?_
 have : -(w1*u1+w2*u2)*(u1*c2 - u2*c1)=(c1*w2 - c2*w1)*(u1*u1+u2*u2) - (u1*w2 - u2*w1)*(c1*u1+c2*u2):=by grind
 rw[this,z',Int.zero_mul,Int.sub_zero]
 have n1:=z0w u1
 have n2:=z0w u2
 exact Int.mul_nonneg q (by lia)
def zcO {y a b p:P}(h:0 < cr y a b)(q:0<=cr y a p)(z:cr a b p=0):0<=dot a b p:=by
 unfold cr at h q z
 unfold dot
 have h':0 < (a.1 - y.1)*(b.2 - a.2) - (a.2 - y.2)*(b.1 - a.1):=by grind
 have q':0<=(a.1 - y.1)*(p.2 - a.2) - (a.2 - y.2)*(p.1 - a.1):=by grind
 generalize b.1 - a.1=u1 at*
 generalize b.2 - a.2=u2 at*
 generalize a.1 - y.1=c1 at*
 generalize a.2 - y.2=c2 at*
 generalize p.1 - a.1=w1 at*
 generalize p.2 - a.2=w2 at*
 refine z9b h' ?_
 have:(w1*u1+w2*u2)*(c1*u2 - c2*u1)=(c1*w2 - c2*w1)*(u1*u1+u2*u2) - (u1*w2 - u2*w1)*(c1*u1+c2*u2):=by grind
 rw[this,z,Int.zero_mul,Int.sub_zero]
 have n1:=z0w u1
 have n2:=z0w u2
 exact Int.mul_nonneg q' (by lia)
def z6s {S:P->Prop}:∀ {r:List P}{b a:P},(∀ x∈b::a::r,S x)->z69 S (b::a::r)->Conv (b::a::r)->(∀ z,(b::a::r).getLast? = some z->∀ p,S p->¬ Lx p z)->(∀ p,S p->cr a b p=0->0<=dot b a p)->Path (fun x y=>Edge S y x) (b::a::r)
 | [],b,a,hs,he,hc,hl,ht=>⟨⟨hs a (by simp),hs b (by simp),he.2.1.ne,he.1,fun p hp z=>⟨zeD he.2.1 (hl a rfl p hp) z,ht p hp z⟩⟩,trivial⟩
 | y::r,b,a,hs,he,hc,hl,ht=>by
  refine⟨⟨hs a (by simp),hs b (by simp),he.2.1.ne,he.1,fun p hp z=>⟨zcO hc.1 (he.2.2.1 p hp) z,ht p hp z⟩⟩,?_⟩
  exact z6s (fun x hx=>hs x (List.mem_cons_of_mem _ hx)) he.2.2 hc.2 (fun z hz=>hl z (by rw[List.getLast?_cons_cons]; exact hz)) fun p hp z=>zeC hc.1 (he.1 p hp) z
def Ok.path {S:P->Prop}{s:List P}(o:Ok S s):Path (Edge S) s.reverse:=by
 refine Path.rev ?_
 obtain⟨b,r,rfl,ht⟩:=o.top
 obtain⟨z,hz,hl⟩:=o.bot
 cases r with
 | nil=>trivial
 | cons a r=>exact z6s o.sub o.edges o.conv (fun z' hz'=>by rw[hz] at hz'; injection hz' with e; subst e; exact hl) fun p hp z=>zdx o.edges.2.1 (ht p hp) z
def hull (l:List P):List P:=if l.length<=1 then l else (z3C l).reverse.dropLast++(z3C l.reverse).reverse.dropLast
structure z1S (S:P->Prop)(h:List P):Prop where
 ex:∃ m t,h=m::t/\S m/\(∀ p,S p->¬ Lx p m)/\m ∉ t/\((t=[]/\∀ p,S p->p=m)\/(t≠[]/\Path (Edge S) (m::t++[m])))
def z40 {R:P->P->Prop}(det:∀ a b c,R a b->R a c->b=c){m:P}:∀ {t t':List P}{a:P},m ∉ t->m ∉ t'->Path R (a::t++[m])->Path R (a::t'++[m])->t=t'
 | [],[],_,_,_,_,_=>rfl
 | [],b::t',a,_,h,p,q=>by
  have:b=m:=det a b m q.1 p.1
  exact absurd (by rw[this]; simp) h
 | b::t,[],a,h,_,p,q=>by
  have:b=m:=det a b m p.1 q.1
  exact absurd (by rw[this]; simp) h
 | b::t,c::t',a,h,h',p,q=>by
  have e:b=c:=det a b c p.1 q.1
  subst e
  rw[z40 det (t:=t) (t':=t') (fun z=>h (by simp[z])) (fun z=>h' (by simp[z])) p.2 q.2]
def z1S.unique {S:P->Prop}{h h':List P}(x:z1S S h)(y:z1S S h'):h=h':=by
 obtain⟨m,t,rfl,sm,lm,nm,e⟩:=x.ex
 obtain⟨m',t',rfl,sm',lm',nm',e'⟩:=y.ex
 have em:m=m':=z7W (lm' m sm) (lm m' sm')
 subst em
 have one:∀ {u:List P},u≠[]->Path (Edge S) (m::u++[m])->(∀ p,S p->p=m)->False:=fun {u} hu hp ha=>by
  match u,hu with
  | b::u,_=>
   have e:Edge S m b:=hp.1
   exact e.ne (ha b e.sb).symm
 rcases e with ⟨rfl,ha⟩ | ⟨hn,hp⟩
 ·rcases e' with ⟨rfl,_⟩ | ⟨hn',hp'⟩
  ·rfl
  ·exact(one hn' hp' ha).elim
 ·rcases e' with ⟨rfl,ha⟩ | ⟨hn',hp'⟩
  ·exact(one hn hp ha).elim
  ·rw[z40 (R:=Edge S) (fun a b c p q=>Edge.det p q) nm nm' hp hp']
def z3j {s:List P}{z:P}(h:s.getLast? = some z):s.dropLast++[z]=s:=by
 have hn:s≠[]:=fun e=>by rw[e] at h; simp at h
 have e:s.getLast hn=z:=by
  rw[List.getLast?_eq_some_getLast hn] at h
  exact Option.some.inj h
 rw[<- e]
 exact List.dropLast_concat_getLast hn
def zf2 {l:List P}(hl:2<=l.length)(hp:l.Pairwise Lx):∃ x y,x∈l/\y∈l/\Lx x y:=by
 match l,hl,hp with
 | x::y::r,_,hp=>exact⟨x,y,by simp,by simp,(List.pairwise_cons.mp hp).1 y (by simp)⟩
def zac {l:List P}(hl:2<=l.length)(hp:l.Pairwise Lx):∃ m M A B,hull l=m::A++M::B/\m∈l/\M∈l/\Lx m M/\(∀ p∈l,¬ Lx p m)/\(∀ p∈l,¬ Lx M p)/\
  (m::A++[M]).Pairwise Lx/\(M::B++[m]).Pairwise (fun x y=>Lx y x)/\Path (Edge (· ∈ l)) (m::A++[M])/\Path (Edge (· ∈ l)) (M::B++[m]):=by
 have hne:l≠[]:=fun z=>by rw[z] at hl; simp at hl
 have o1:=z8g hne hp
 have hp2:(l.reverse.map ng).Pairwise Lx:=by
  rw[List.pairwise_map,List.pairwise_reverse]
  exact hp.imp fun h=>za8.mpr h
 have o2:=z8g (l:=l.reverse.map ng) (by simpa using hne) hp2
 rw[zbL] at o2
 have mem:∀ p,p∈l.reverse.map ng↔ng p∈l:=fun p=>by
  simp only[List.mem_map,List.mem_reverse]
  constructor
  ·rintro⟨q,hq,rfl⟩; rw[z4k]; exact hq
  ·intro h; exact⟨ng p,h,z4k p⟩
 obtain⟨M,r1,e1,t1⟩:=o1.top
 obtain⟨m,b1,b1'⟩:=o1.bot
 obtain⟨M',r2,e2,t2⟩:=o2.top
 obtain⟨m',b2,b2'⟩:=o2.bot
 have Ml:M∈l:=o1.sub M (by rw[e1]; simp)
 have ml:m∈l:=o1.sub m (List.mem_of_getLast? b1)
 have M'l:ng M'∈l:=(mem M').mp (o2.sub M' (by rw[e2]; simp))
 have m'l:ng m'∈l:=(mem m').mp (o2.sub m' (List.mem_of_getLast? b2))
 have hMm:ng M'=m:=by
  refine z7W (b1' _ M'l) fun z => ?_
  have:=t2 (ng m) ((mem _).mpr (by rw[z4k]; exact ml))
  exact this (by rw[<- z4k M']; exact za8.mpr z)
 have hmM:ng m'=M:=by
  refine z7W (fun z => ?_) (t1 _ m'l)
  have:=b2' (ng M) ((mem _).mpr (by rw[z4k]; exact Ml))
  exact this (by rw[<- z4k m']; exact za8.mpr z)
 have hlt:Lx m M:=by
  rcases Lx.tri m M with h | h | h
  ·exact h
  ·exfalso
   subst h
   have all:∀ p∈l,p=m:=fun p hp=>z7W (b1' p hp) (t1 p hp)
   obtain⟨x,y,hx,hy,this⟩:=zf2 hl hp
   rw[all x hx,all y hy] at this
   exact Lx.irr this
  ·exact absurd h (t1 m ml)
 have there:∃ A,(z3C l).reverse=m::A++[M]:=by
  rw[e1] at b1 ⊢
  cases r1 with
  | nil=>simp at b1; exact absurd (b1 ▸ hlt) Lx.irr
  | cons c r=>
   rw[List.getLast?_cons_cons] at b1
   refine⟨(c::r).dropLast.reverse,?_⟩
   rw[List.reverse_cons, <- z3j b1]
   simp
 obtain⟨A,eA⟩:=there
 have ec2:z3C l.reverse=(M'::r2).map ng:=by
  have:((z3C l.reverse).map ng).map ng=(M'::r2).map ng:=by rw[e2]
  rw[List.map_map] at this
  simpa[Function.comp_def,z4k] using this
 have back:∃ B,(z3C l.reverse).reverse=M::B++[m]:=by
  rw[e2] at b2
  rw[ec2]
  cases r2 with
  | nil=>
   simp at b2
   rw[b2] at hMm
   rw[hMm] at hmM
   exact absurd (hmM ▸ hlt) Lx.irr
  | cons c r=>
   rw[List.getLast?_cons_cons] at b2
   refine⟨((c::r).dropLast.map ng).reverse,?_⟩
   have:(c::r)=(c::r).dropLast++[m']:=(z3j b2).symm
   rw[List.map_cons,List.reverse_cons,hMm,this,List.map_append]
   simp[hmM]
 obtain⟨B,eB⟩:=back
 refine⟨m,M,A,B,?_,ml,Ml,hlt,b1',t1,?_,?_,?_,?_⟩
 ·unfold hull
  rw[if_neg (by lia),eA,eB,List.dropLast_concat,List.dropLast_concat]
 ·rw[<- eA,List.pairwise_reverse]
  exact o1.desc
 ·rw[<- eB,List.pairwise_reverse]
  have q:=o2.desc
  rw[List.pairwise_map] at q
  exact q.imp fun h=>za8.mp h
 ·rw[<- eA]; exact o1.path
 ·rw[<- eB]
  have q:=o2.path
  rw[<- List.map_reverse] at q
  have h2:Path (fun a b=>Edge (· ∈ l) (ng a) (ng b)) ((z3C l.reverse).map ng).reverse:=by
   rw[<- List.map_reverse]
   refine Path.imp (fun a b e => ?_) q
   refine Edge.ng ?_
   have es:(fun p=>ng p∈l)=(fun p=>p∈l.reverse.map ng):=funext fun p=>propext (mem p).symm
   rw[es]
   exact e
  have h3:=Path.map (f:=ng) h2
  rw[List.map_reverse,List.map_map] at h3
  simpa[Function.comp_def,z4k] using h3
def zeL {l:List P}(hn:l≠[])(hp:l.Pairwise Lx):z1S (· ∈ l) (hull l):=by
 by_cases h1:l.length<=1
 ·match l,hn,h1 with
  | [x],_,_=>exact⟨x,[],rfl,by simp,fun p hp=>by rw[List.mem_singleton.mp hp]; exact Lx.irr,by simp,.inl ⟨rfl,fun p hp=>List.mem_singleton.mp hp⟩⟩
 ·obtain⟨m,M,A,B,e,ml,Ml,hlt,hmin,hmax,pa,pb,wa,wb⟩:=zac (by lia) hp
  refine⟨m,A++M::B,e,ml,hmin,fun z => ?_,.inr ⟨by simp,?_⟩⟩
  ·rcases List.mem_append.mp z with z | z
   ·exact Lx.irr ((List.pairwise_cons.mp pa).1 m (by simp[z]))
   ·rcases List.mem_cons.mp z with z | z
    ·exact Lx.irr (z ▸ hlt)
    ·have:(M::B++[m]).Pairwise (fun x y=>Lx y x):=pb
     rw[List.pairwise_append] at this
     exact Lx.irr (this.2.2 m (by simp[z]) m (by simp))
  ·have:m::(A++M::B)++[m]=(m::A)++M::(B++[m]):=by simp
   rw[this]
   exact Path.join wa wb
end Geo
namespace Lcg
def z9J (d:Nat):(5 ^ d) % 2=1:=by
 induction d with
 | zero=>rfl
 | succ d ih=>rw[Nat.pow_succ]; lia
def zbC (d:Nat):(5 ^ d) % 4=1:=by
 induction d with
 | zero=>rfl
 | succ d ih=>rw[Nat.pow_succ]; lia
def zaf (d:Nat):(5 ^ (2*d)) % 8=1/\(5 ^ (2*d+1)) % 8=5:=by
 induction d with
 | zero=>exact⟨rfl,rfl⟩
 | succ d ih=>
  have e1:5 ^ (2*(d+1))=5 ^ (2*d)*25:=by rw[show 2*(d+1)=2*d+2 by lia,Nat.pow_add]
  have e2:5 ^ (2*(d+1)+1)=5 ^ (2*d+1)*25:=by rw[show 2*(d+1)+1=(2*d+1)+2 by lia,Nat.pow_add]
  rw[e1,e2]
  lia
def z5L {a k:Nat}(h:a % 2=1):Nat.Coprime (2 ^ k) a:=by
 refine Nat.Coprime.pow_left k ?_
 show Nat.gcd 2 a=1
 rw[Nat.gcd_rec,h]
 rfl
def z1V:∀ (k d:Nat),2 ^ (k+2) ∣ 5 ^ d - 1->2 ^ k ∣ d
 | 0,d,_=>Nat.one_dvd d
 | k+1,d,h=>by
  have h8:8 ∣ 5 ^ d - 1:=Nat.dvd_trans ⟨2 ^ k,by rw[show k+1+2=3+k by lia,Nat.pow_add]⟩ h
  have he:d % 2=0:=by
   rcases Nat.mod_two_eq_zero_or_one d with z | z
   ·exact z
   ·obtain⟨e,rfl⟩:∃ e,d=2*e+1:=⟨d / 2,by lia⟩
    have:=(zaf e).2
    obtain⟨c,hc⟩:=h8
    have p:1<=5 ^ (2*e+1):=Nat.one_le_pow _ _ (by decide)
    lia
  obtain⟨e,rfl⟩:∃ e,d=2*e:=⟨d / 2,by lia⟩
  have p:1<=5 ^ e:=Nat.pos_of_ne_zero (by
   intro z
   have:=z9J e
   lia)
  have fac:5 ^ (2*e) - 1=(5 ^ e - 1)*(5 ^ e+1):=by
   have e1:5 ^ (2*e)=5 ^ e*5 ^ e:=by rw[Nat.two_mul,Nat.pow_add]
   rw[e1]
   generalize 5 ^ e=x at p ⊢
   obtain⟨y,rfl⟩:∃ y,x=y+1:=⟨x - 1,by lia⟩
   simp only[Nat.add_sub_cancel]
   have:(y+1)*(y+1)=y*(y+1+1)+1:=by grind
   lia
  obtain⟨o,ho⟩:∃ o,5 ^ e+1=2*(2*o+1):=⟨(5 ^ e+1) / 4,by have:=zbC e; lia⟩
  rw[fac,ho] at h
  have h2:2 ^ (k+2)*2 ∣ (5 ^ e - 1)*(2*o+1)*2:=by
   have:(5 ^ e - 1)*(2*(2*o+1))=(5 ^ e - 1)*(2*o+1)*2:=by grind
   rw[<- this, <- Nat.pow_succ]
   exact h
  have h3:2 ^ (k+2) ∣ (5 ^ e - 1)*(2*o+1):=Nat.dvd_of_mul_dvd_mul_right (by decide) h2
  have h4:2 ^ (k+2) ∣ 5 ^ e - 1:=(z5L (by lia)).dvd_of_dvd_mul_right h3
  obtain⟨c,hc⟩:=z1V k e h4
  exact⟨c,by rw[hc,Nat.pow_succ]; grind⟩
def step (M x:Nat):Nat:=(x*5+1) % M
def orb (M x:Nat):Nat->Nat
 | 0=>x
 | n+1=>step M (orb M x n)
def z6N (M x:Nat):∀ n,(4*orb M x n+1) % (4*M)=(5 ^ n*(4*x+1)) % (4*M)
 | 0=>by rw[orb,Nat.pow_zero,Nat.one_mul]
 | n+1=>by
  have ih:=z6N M x n
  have e1:4*orb M x (n+1)+1=4*((orb M x n*5+1) % M)+1:=rfl
  have e2:(4*((orb M x n*5+1) % M)+1) % (4*M)=(4*(orb M x n*5+1)+1) % (4*M):=by
   have:4*((orb M x n*5+1) % M)=(4*(orb M x n*5+1)) % (4*M):=(Nat.mul_mod_mul_left 4 (orb M x n*5+1) M).symm
   rw[this,Nat.mod_add_mod]
  rw[e1,e2]
  have e3:4*(orb M x n*5+1)+1=5*(4*orb M x n+1):=by lia
  rw[e3,Nat.mul_mod,ih, <- Nat.mul_mod,Nat.pow_succ]
  congr 1
  grind
def zep {k x:Nat}{m n:Nat}(hmn:m < n)(hn:n < m+2 ^ k)(h:orb (2 ^ k) x m=orb (2 ^ k) x n):False:=by
 have h1:=z6N (2 ^ k) x m
 have h2:=z6N (2 ^ k) x n
 rw[h,h2] at h1
 have e4:4*2 ^ k=2 ^ (k+2):=by rw[Nat.pow_add]; lia
 rw[e4] at h1
 have hle:5 ^ m*(4*x+1)<=5 ^ n*(4*x+1):=Nat.mul_le_mul_right _ (Nat.pow_le_pow_right (by decide) (Nat.le_of_lt hmn))
 have hd:2 ^ (k+2) ∣ 5 ^ n*(4*x+1) - 5 ^ m*(4*x+1):=Nat.dvd_of_mod_eq_zero (Nat.sub_mod_eq_zero_of_mod_eq h1)
 have e5:5 ^ n*(4*x+1) - 5 ^ m*(4*x+1)=(5 ^ (n - m) - 1)*(5 ^ m*(4*x+1)):=by
  have:5 ^ n=5 ^ (n - m)*5 ^ m:=by rw[<- Nat.pow_add]; congr 1; lia
  rw[this,Nat.sub_mul,Nat.one_mul,Nat.mul_assoc]
 rw[e5] at hd
 have ho:(5 ^ m*(4*x+1)) % 2=1:=by
  have:=z9J m
  rw[Nat.mul_mod,this]
  lia
 have hd2:=(z5L ho).dvd_of_dvd_mul_right hd
 have:=Nat.le_of_dvd (by lia) (z1V k (n - m) hd2)
 lia
def z9y:∀ (n:Nat) (l:List Nat),l.Nodup->(∀ x∈l,x < n)->l.length<=n
 | 0,l,_,h=>by
  cases l with
  | nil=>exact Nat.le_refl _
  | cons a _=>exact absurd (h a (by simp)) (Nat.not_lt_zero _)
 | n+1,l,hd,h=>by
  have h2:=z9y n (l.erase n) (hd.erase n) fun x hx=>by
   have hne:x≠n:=fun z=>by
    subst z
    exact(List.Nodup.not_mem_erase hd) hx
   have:=h x (List.mem_of_mem_erase hx)
   lia
  by_cases hm:n∈l
  ·rw[List.length_erase_of_mem hm] at h2
   lia
  ·rw[List.erase_of_not_mem hm] at h2
   lia
def zga {M x:Nat}(hM:0 < M)(hx:x < M):∀ n,orb M x n < M
 | 0=>hx
 | n+1=>Nat.mod_lt _ hM
def zeq {k x e:Nat}(hx:x < 2 ^ k)(he:e < 2 ^ k):∃ n,n < 2 ^ k/\orb (2 ^ k) x n=e:=by
 refine Classical.byContradiction fun hno => ?_
 have hM:0 < 2 ^ k:=Nat.two_pow_pos k
 have hl:=z9y (2 ^ k) (e::(List.range (2 ^ k)).map (orb (2 ^ k) x)) (by
  refine List.nodup_cons.mpr ⟨fun z => ?_,?_⟩
  ·obtain⟨n,hn,e'⟩:=List.mem_map.mp z
   exact hno ⟨n,List.mem_range.mp hn,e'⟩
  ·rw[List.nodup_iff_pairwise_ne,List.pairwise_map]
   refine List.Pairwise.imp_of_mem (R:=(· < ·)) ?_ List.pairwise_lt_range
   intro a b ha hb hab z
   exact zep hab (by have:=List.mem_range.mp hb; lia) z) (fun y hy=>by
  rcases List.mem_cons.mp hy with rfl | hy
  ·exact he
  ·obtain⟨n,_,rfl⟩:=List.mem_map.mp hy
   exact zga hM hx n)
 simp at hl
 lia
end Lcg
namespace Tab
open PySem PySem.SetTable
def z7i (xs:Array Nat)(j:Nat)(hr:∀ a b,a < b->b < xs.size->xs.getD a 0 < xs.getD b 0):∀ (fuel lo hi:Nat),hi<=xs.size->hi - lo<=fuel->lo<=hi->(∀ i,i < lo->xs.getD i 0 < j)->(∀ i,hi<=i->i < xs.size->j<=xs.getD i 0)->
  below.go xs j fuel lo hi<=xs.size/\(∀ i,i < below.go xs j fuel lo hi->xs.getD i 0 < j)/\(∀ i,below.go xs j fuel lo hi<=i->i < xs.size->j<=xs.getD i 0)
 | 0,lo,hi,h1,h2,h3,h4,h5=>by
  have:lo=hi:=by lia
  subst this
  exact⟨h1,h4,h5⟩
 | fuel+1,lo,hi,h1,h2,h3,h4,h5=>by
  rw[below.go]
  by_cases hlt:lo < hi
  ·rw[if_pos hlt]
   have hm:(lo+hi) / 2 < xs.size:=by lia
   have e:xs.getD ((lo+hi) / 2) j=xs.getD ((lo+hi) / 2) 0:=by simp[Array.getD,hm]
   dsimp only
   rw[e]
   by_cases hj:xs.getD ((lo+hi) / 2) 0 < j
   ·rw[if_pos hj]
    refine z7i xs j hr fuel _ hi h1 (by lia) (by lia) (fun i hi' => ?_) h5
    rcases Nat.lt_or_ge i ((lo+hi) / 2) with z | z
    ·have:=hr i _ z hm; lia
    ·have:i=(lo+hi) / 2:=by lia
     subst this; exact hj
   ·rw[if_neg hj]
    refine z7i xs j hr fuel lo _ (by lia) (by lia) (by lia) h4 (fun i hi' hi2 => ?_)
    rcases Nat.lt_or_ge ((lo+hi) / 2) i with z | z
    ·have:=hr _ i z hi2; lia
    ·have:i=(lo+hi) / 2:=by lia
     subst this; lia
  ·rw[if_neg hlt]
   have:lo=hi:=by lia
   subst this
   exact⟨h1,h4,h5⟩
abbrev Rise (xs:Array Nat):Prop:=∀ a b,a < b->b < xs.size->xs.getD a 0 < xs.getD b 0
def z4O {xs:Array Nat}(hr:Rise xs)(j:Nat):below xs j<=xs.size/\(∀ i,i < below xs j->xs.getD i 0 < j)/\(∀ i,below xs j<=i->i < xs.size->j<=xs.getD i 0):=
 z7i xs j hr xs.size 0 xs.size (Nat.le_refl _) (by lia) (Nat.zero_le _) (fun _ h=>absurd h (Nat.not_lt_zero _)) (fun i h1 h2=>absurd h1 (by lia))
def zeN {xs:Array Nat}{i j:Nat}(h:xs[i]? = some j):i < xs.size/\xs.getD i 0=j:=by
 obtain⟨hi,e⟩:=Array.getElem?_eq_some_iff.mp h
 exact⟨hi,by simp[Array.getD,hi,e]⟩
def ziC {xs:Array Nat}{i:Nat}(h:i < xs.size):xs[i]? = some (xs.getD i 0):=by simp[Array.getD,h]
def zde {xs:Array Nat}(hr:Rise xs){i j:Nat}(h:xs[i]? = some j):below xs j=i:=by
 obtain⟨h1,h2,h3⟩:=z4O hr j
 obtain⟨hi,e⟩:=zeN h
 rcases Nat.lt_trichotomy (below xs j) i with z | z | z
 ·have:=h3 _ (Nat.le_refl _) (by lia)
  have:=hr _ _ z hi
  lia
 ·exact z
 ·have:=h2 i z; lia
def z7v {t:SetTable}(hr:Rise t.place){i j:Nat}(h:t.place[i]? = some j):t.slot j = .live i:=by
 unfold SetTable.slot
 rw[zde hr h]
 dsimp only
 rw[h]
 simp
def z9U {t:SetTable}(hd:t.dummies = #[]){j:Nat}(h:∀ i:Nat,t.place[i]? ≠ some j):t.slot j = .empty:=by
 unfold SetTable.slot
 have h1:(t.place[below t.place j]? == some j)=false:=by
  have:=h (below t.place j)
  simpa using this
 have h2:has t.dummies j=false:=by rw[hd]; unfold has; simp
 simp only[h1,h2]
 rfl
def adv (mask:Nat)(p:Probe):Probe:=
 if p.more > 0 then { p with j:=p.j+1,more:=p.more - 1 } else
 { p with j:=(leap mask p.i p.perturb).1,more:=runEnd mask (leap mask p.i p.perturb).1 - (leap mask p.i p.perturb).1,i:=(leap mask p.i p.perturb).1,perturb:=(leap mask p.i p.perturb).2 }
def advs (mask:Nat)(p:Probe):Nat->Probe
 | 0=>p
 | n+1=>adv mask (advs mask p n)
def z2M (mask:Nat)(p:Probe)(m:Nat):∀ n,advs mask p (m+n)=advs mask (advs mask p m) n
 | 0=>rfl
 | n+1=>congrArg (adv mask) (z2M mask p m n)
def z4w (mask:Nat)(p:Probe)(n:Nat):advs mask p (n+1)=advs mask (adv mask p) n:=by
 rw[Nat.add_comm,z2M]
 rfl
def z8q (mask:Nat)(p:Probe):(adv mask p).dummy=p.dummy:=by
 unfold adv; split <;> rfl
def z6w (mask:Nat)(p:Probe):∀ n,(advs mask p n).dummy=p.dummy
 | 0=>rfl
 | n+1=>by rw[advs,z8q,z6w mask p n]
def z7j (mask:Nat):∀ (p:Probe) (n:Nat),n<=p.more->advs mask p n={ p with j:=p.j+n,more:=p.more - n }
 | p,0,_=>rfl
 | p,n+1,h=>by
  rw[advs,z7j mask p n (by lia)]
  unfold adv
  rw[if_pos (by show p.more - n > 0; lia)]
  show ({ p with j:=p.j+n+1,more:=p.more - n - 1 }:Probe)=_
  congr 1
def z6G (mask i:Nat):runEnd mask i - i<=9:=by unfold runEnd; split <;> lia
def lp (mask:Nat)(i q:Nat):Nat->Nat × Nat
 | 0=>(i,q)
 | c+1=>leap mask (lp mask i q c).1 (lp mask i q c).2
def zbl (mask:Nat)(i q:Nat):∀ c,lp mask i q (c+1)=lp mask (leap mask i q).1 (leap mask i q).2 c
 | 0=>rfl
 | c+1=>by
  show leap mask (lp mask i q (c+1)).1 (lp mask i q (c+1)).2=_
  rw[zbl mask i q c]
  rfl
def z3G (mask:Nat)(p:Probe):advs mask p (p.more+1)={ p with j:=(leap mask p.i p.perturb).1,more:=runEnd mask (leap mask p.i p.perturb).1 - (leap mask p.i p.perturb).1,i:=(leap mask p.i p.perturb).1,perturb:=(leap mask p.i p.perturb).2 }:=by
 rw[advs,z7j mask p p.more (Nat.le_refl _)]
 unfold adv
 rw[if_neg (by show ¬ p.more - p.more > 0; lia)]
def runs (mask:Nat):∀ (c:Nat) (p:Probe),p.more<=9->∃ s,s<=10*(c+1)/\(advs mask p s).j=(lp mask p.i p.perturb (c+1)).1/\(advs mask p s).i=(lp mask p.i p.perturb (c+1)).1/\(advs mask p s).perturb=(lp mask p.i p.perturb (c+1)).2/\(advs mask p s).more<=9
 | 0,p,h=>⟨p.more+1,by lia,by rw[z3G]; rfl,by rw[z3G]; rfl,by rw[z3G]; rfl,by rw[z3G]; exact z6G _ _⟩
 | c+1,p,h=>by
  obtain⟨s,h1,h2,h3,h4,h5⟩:=runs mask c p h
  refine⟨s+((advs mask p s).more+1),by lia,?_⟩
  rw[z2M,z3G]
  refine⟨?_,?_,?_,z6G _ _⟩
  ·show (leap mask (advs mask p s).i (advs mask p s).perturb).1=_; rw[h3,h4]; rfl
  ·show (leap mask (advs mask p s).i (advs mask p s).perturb).1=_; rw[h3,h4]; rfl
  ·show (leap mask (advs mask p s).i (advs mask p s).perturb).2=_; rw[h3,h4]; rfl
def z4I (mask i q:Nat):∀ c,(lp mask i q c).2=q / 32 ^ c
 | 0=>by simp[lp]
 | c+1=>by
  show (lp mask i q c).2 / 32=_
  rw[z4I mask i q c,Nat.div_div_eq_div_mul,Nat.pow_succ]
def zdB {mask i q:Nat}(hq:q=0):∀ c:Nat,(lp mask i q c).1=Lcg.orb (mask+1) i c
 | 0=>rfl
 | c+1=>by
  show ((lp mask i q c).1*5+1+(lp mask i q c).2 / 32) % (mask+1)=_
  rw[z4I,zdB hq c,hq,Nat.zero_div,Nat.zero_div,Nat.add_zero]
  rfl
def zdC (mask i q m:Nat):∀ n,lp mask i q (m+n)=lp mask (lp mask i q m).1 (lp mask i q m).2 n
 | 0=>rfl
 | n+1=>by
  show leap mask (lp mask i q (m+n)).1 (lp mask i q (m+n)).2=_
  rw[zdC mask i q m n]
  rfl
def zdn {k mask i q e:Nat}(hm:mask+1=2 ^ k)(hq:q < 2 ^ 64)(he:e<=mask):∃ c,c<=13+mask/\13<=c/\(lp mask i q c).1=e:=by
 have hq13:(lp mask i q 13).2=0:=by
  rw[z4I]
  exact Nat.div_eq_of_lt (Nat.lt_of_lt_of_le hq (by decide))
 have hi13:(lp mask i q 13).1 < 2 ^ k:=by
  rw[<- hm]
  exact Nat.mod_lt _ (by lia)
 obtain⟨d,hd,e1⟩:=Lcg.zeq hi13 (show e < 2 ^ k by lia)
 refine⟨13+d,by lia,by lia,?_⟩
 rw[zdC,zdB hq13,hm]
 exact e1
def zaB {k mask e:Nat}{p:Probe}(hm:mask+1=2 ^ k)(hq:p.perturb < 2 ^ 64)(hp:p.more<=9)(he:e<=mask):∃ s,s < 10*turns mask/\(advs mask p s).j=e:=by
 obtain⟨c,h1,h2,h3⟩:=zdn (i:=p.i) (q:=p.perturb) hm hq he
 obtain⟨c',rfl⟩:∃ c',c=c'+1:=⟨c - 1,by lia⟩
 obtain⟨s,g1,g2,_⟩:=runs mask c' p hp
 exact⟨s,by unfold turns; lia,g2.trans h3⟩
def zhr {mask:Nat}{p:Probe}(hq:p.perturb < 2 ^ 64)(hp:p.more<=9):(adv mask p).perturb < 2 ^ 64/\(adv mask p).more<=9:=by
 unfold adv
 split
 ·exact⟨hq,by show p.more - 1<=9; lia⟩
 ·exact⟨Nat.lt_of_le_of_lt (Nat.div_le_self _ _) hq,z6G _ _⟩
def z91 {mask:Nat}{p:Probe}(hq:p.perturb < 2 ^ 64)(hp:p.more<=9):∀ n,(advs mask p n).perturb < 2 ^ 64/\(advs mask p n).more<=9
 | 0=>⟨hq,hp⟩
 | n+1=>zhr (z91 hq hp n).1 (z91 hq hp n).2
def z4a (t:SetTable)(h:Int):(t.probeStart h).perturb < 2 ^ 64/\(t.probeStart h).more<=9:=by
 refine⟨?_,z6G _ _⟩
 show (h % (2 ^ 64:Int)).toNat < 2 ^ 64
 have h1:=Int.emod_nonneg h (show (2 ^ 64:Int)≠0 by decide)
 have h2:=Int.emod_lt_of_pos h (show (0:Int) < 2 ^ 64 by decide)
 lia
def z9p {t:SetTable}(hd:t.dummies = #[])(hr:Rise t.place)(hashAt:Nat->Int)(h:Int):∀ (fuel:Nat) (p:Probe),(∃ s,s < fuel/\∀ i:Nat,t.place[i]? ≠ some (advs t.mask p s).j)->
  ∃ s,(∀ m,m < s->∃ i:Nat,t.place[i]? = some (advs t.mask p m).j/\hashAt i≠h)/\
   (((∀ i:Nat,t.place[i]? ≠ some (advs t.mask p s).j)/\probe.go t hashAt h fuel p=some (.empty (advs t.mask p s).j p.dummy))\/
    ∃ i:Nat,t.place[i]? = some (advs t.mask p s).j/\hashAt i=h/\probe.go t hashAt h fuel p=some (.candidate (advs t.mask p s).j i (advs t.mask p (s+1))))
 | 0,p,⟨s,hs,_⟩=>absurd hs (Nat.not_lt_zero _)
 | fuel+1,p,⟨s,hs,he⟩=>by
  by_cases hl:∃ i:Nat,t.place[i]? = some p.j
  ·obtain⟨i,hi⟩:=hl
   have e1:probe.go t hashAt h (fuel+1) p=if hashAt i == h then some (.candidate p.j i (t.advance p)) else probe.go t hashAt h fuel (t.advance p):=by
    rw[probe.go,z7v hr hi]
   by_cases hh:hashAt i=h
   ·refine⟨0,fun m hm=>absurd hm (Nat.not_lt_zero _),.inr ⟨i,hi,hh,?_⟩⟩
    rw[e1,if_pos (by simpa using hh)]
    rfl
   ·have hs0:s≠0:=fun z=>by subst z; exact he i hi
    obtain⟨s',rfl⟩:∃ s',s=s'+1:=⟨s - 1,by lia⟩
    rw[z4w] at he
    obtain⟨r,h1,h2⟩:=z9p hd hr hashAt h fuel (adv t.mask p) ⟨s',by lia,he⟩
    refine⟨r+1,fun m hm => ?_,?_⟩
    ·cases m with
     | zero=>exact⟨i,hi,hh⟩
     | succ m=>rw[z4w]; exact h1 m (by lia)
    ·rw[e1,if_neg (by simpa using hh),z4w,z4w, <- z8q t.mask p]
     exact h2
  ·have hn:∀ i:Nat,t.place[i]? ≠ some p.j:=fun i z=>hl ⟨i,z⟩
   refine⟨0,fun m hm=>absurd hm (Nat.not_lt_zero _),.inl ⟨hn,?_⟩⟩
   rw[probe.go,z9U hd hn]
   rfl
def z3c:∀ {l l':List Nat},l.Nodup->(∀ x∈l,x∈l')->l.length<=l'.length
 | [],_,_,_=>Nat.zero_le _
 | a::l,l',h,hs=>by
  obtain⟨h1,h2⟩:=List.nodup_cons.mp h
  have ha:=hs a (by simp)
  have:=z3c (l:=l) (l':=l'.erase a) h2 fun x hx=>(List.mem_erase_of_ne (fun(z:x=a)=>h1 (z ▸ hx))).mpr (hs x (by simp[hx]))
  rw[List.length_erase_of_mem ha] at this
  have hp:0 < l'.length:=List.length_pos_of_mem ha
  simp only[List.length_cons]
  lia
def z4g:∀ {l l':List Nat},l.Nodup->l'.Nodup->(∀ x,x∈l↔x∈l')->l.Perm l'
 | [],l',_,_,h=>by
  cases l' with
  | nil=>exact List.Perm.refl _
  | cons b l'=>exact absurd ((h b).mpr (by simp)) (by simp)
 | a::l,l',h1,h2,h=>by
  obtain⟨n1,n2⟩:=List.nodup_cons.mp h1
  have ha:a∈l':=(h a).mp (by simp)
  have p:=z4g (l:=l) (l':=l'.erase a) n2 (h2.erase a) fun x=>by
   constructor
   ·intro hx
    exact(List.mem_erase_of_ne (fun(z:x=a)=>n1 (z ▸ hx))).mpr ((h x).mp (by simp[hx]))
   ·intro hx
    have hne:x≠a:=fun z=>by
     subst z
     exact(List.Nodup.not_mem_erase h2) hx
    rcases List.mem_cons.mp ((h x).mpr (List.mem_of_mem_erase hx)) with z | z
    ·exact absurd z hne
    ·exact z
  exact(List.Perm.cons a p).trans (List.perm_cons_erase ha).symm
variable {α:Type}
abbrev Rw (α:Type):=Nat × Int × α
def zam (mask:Nat)(occ:Nat->Prop)(h:Int)(j:Nat):Prop:=∃ n,(advs mask (probeStart { mask:=mask,place := #[],dummies := #[],finger:=0,led:=true,moves:=0,plain:=true } h) n).j=j/\∀ m,m < n->occ (advs mask (probeStart { mask:=mask,place := #[],dummies := #[],finger:=0,led:=true,moves:=0,plain:=true } h) m).j
abbrev st0 (mask:Nat)(h:Int):Probe:=probeStart { mask:=mask,place := #[],dummies := #[],finger:=0,led:=true,moves:=0,plain:=true } h
def zam.mono {mask:Nat}{occ occ':Nat->Prop}{h:Int}{j:Nat}(x:zam mask occ h j)(i:∀ a,occ a->occ' a):zam mask occ' h j:=by
 obtain⟨n,h1,h2⟩:=x
 exact⟨n,h1,fun m hm=>i _ (h2 m hm)⟩
structure TabW (t:SetTable)(es:Array (Int × α))(L:List (Rw α)):Prop where
 place:t.place=(L.map (·.1)).toArray
 es:es=(L.map (·.2)).toArray
 rise:L.Pairwise fun a b=>a.1 < b.1
 le:∀ r∈L,r.1<=t.mask
 dum:t.dummies = #[]
 pow:∃ k,3<=k/\t.mask+1=2 ^ k
 reach:∀ r∈L,zam t.mask (fun j=>∃ r'∈L,r'.1=j) r.2.1 r.1
def TabW.occ {t:SetTable}{es:Array (Int × α)}{L:List (Rw α)}(w:TabW t es L){j:Nat}:(∃ i:Nat,t.place[i]? = some j)↔∃ r∈L,r.1=j:=by
 rw[w.place]
 constructor
 ·rintro⟨i,h⟩
  have h':(L.map (·.1))[i]? = some j:=by simpa using h
  obtain⟨r,hr,e⟩:=List.mem_map.mp (List.mem_of_getElem? h')
  exact⟨r,hr,e⟩
 ·rintro⟨r,hr,rfl⟩
  obtain⟨i,hi,e⟩:=List.mem_iff_getElem.mp hr
  exact⟨i,by simp[hi,e]⟩
def TabW.riseP {t:SetTable}{es:Array (Int × α)}{L:List (Rw α)}(w:TabW t es L):Rise t.place:=by
 rw[w.place]
 intro a b hab hb
 have hb':b < L.length:=by simpa using hb
 have:=List.pairwise_iff_getElem.mp w.rise a b (by lia) hb' hab
 simpa[Array.getD,show a < L.length by lia,hb'] using this
def TabW.size {t:SetTable}{es:Array (Int × α)}{L:List (Rw α)}(w:TabW t es L):t.place.size=L.length/\es.size=L.length/\t.fill=L.length:=by
 refine⟨by rw[w.place]; simp,by rw[w.es]; simp,?_⟩
 unfold fill
 rw[w.place,w.dum]
 simp
def TabW.nodup {t:SetTable}{es:Array (Int × α)}{L:List (Rw α)}(w:TabW t es L):(L.map (·.1)).Nodup:=by
 rw[List.nodup_iff_pairwise_ne,List.pairwise_map]
 exact w.rise.imp fun h=>Nat.ne_of_lt h
def TabW.room {t:SetTable}{es:Array (Int × α)}{L:List (Rw α)}(w:TabW t es L)(h:L.length<=t.mask):∃ e,e<=t.mask/\¬ ∃ r∈L,r.1=e:=by
 refine Classical.byContradiction fun hno => ?_
 have all:∀ e,e<=t.mask->∃ r∈L,r.1=e:=fun e he=>Classical.byContradiction fun z=>hno ⟨e,he,z⟩
 have:=z3c (l:=List.range (t.mask+1)) (l':=L.map (·.1)) List.nodup_range fun x hx=>by
  obtain⟨r,hr,e⟩:=all x (by have:=List.mem_range.mp hx; lia)
  exact List.mem_map.mpr ⟨r,hr,e⟩
 simp at this
 lia
def TabW.probe {t:SetTable}{es:Array (Int × α)}{L:List (Rw α)}(w:TabW t es L)(hroom:L.length<=t.mask)(hashAt:Nat->Int)(h:Int)(n:Nat):
  ∃ s,(∀ m,n<=m->m < n+s->∃ i:Nat,t.place[i]? = some (advs t.mask (st0 t.mask h) m).j/\hashAt i≠h)/\
   (((∀ i:Nat,t.place[i]? ≠ some (advs t.mask (st0 t.mask h) (n+s)).j)/\t.probe hashAt h (advs t.mask (st0 t.mask h) n)=some (.empty (advs t.mask (st0 t.mask h) (n+s)).j none))\/
    ∃ i:Nat,t.place[i]? = some (advs t.mask (st0 t.mask h) (n+s)).j/\hashAt i=h/\t.probe hashAt h (advs t.mask (st0 t.mask h) n)=some (.candidate (advs t.mask (st0 t.mask h) (n+s)).j i (advs t.mask (st0 t.mask h) (n+s+1)))):=by
 obtain⟨e,he,hne⟩:=w.room hroom
 obtain⟨k,_,hk⟩:=w.pow
 have ok:=z91 (mask:=t.mask) (z4a t h).1 (z4a t h).2 n
 obtain⟨s0,hs0,e0⟩:=zaB (p:=advs t.mask (st0 t.mask h) n) hk ok.1 ok.2 he
 obtain⟨s,h1,h2⟩:=z9p w.dum w.riseP hashAt h (10*turns t.mask) (advs t.mask (st0 t.mask h) n) ⟨s0,hs0,fun i z=>by
  rw[e0] at z
  exact hne (w.occ.mp ⟨i,z⟩)⟩
 refine⟨s,fun m hm1 hm2 => ?_,?_⟩
 ·obtain⟨d,rfl⟩:∃ d,m=n+d:=⟨m - n,by lia⟩
  rw[z2M]
  exact h1 d (by lia)
 ·rw[Nat.add_assoc,z2M,z2M]
  rw[z6w] at h2
  exact h2
def TabW.soon {t:SetTable}{es:Array (Int × α)}{L:List (Rw α)}(w:TabW t es L)(hroom:L.length<=t.mask)(h:Int):∃ N,N < 10*turns t.mask/\¬ ∃ r∈L,r.1=(advs t.mask (st0 t.mask h) N).j:=by
 obtain⟨e,he,hne⟩:=w.room hroom
 obtain⟨k,_,hk⟩:=w.pow
 obtain⟨s0,hs0,e0⟩:=zaB (p:=st0 t.mask h) hk (z4a t h).1 (z4a t h).2 he
 exact⟨s0,hs0,by rw[e0]; exact hne⟩
def ins (L:List (Rw α))(p:Nat)(r:Rw α):List (Rw α):=L.take p++r::L.drop p
def z6W {L:List (Rw α)}{p:Nat}{r x:Rw α}:x∈ins L p r↔x=r\/x∈L:=by
 unfold ins
 rw[List.mem_append,List.mem_cons]
 constructor
 ·rintro(h | h | h)
  ·exact .inr (List.mem_of_mem_take h)
  ·exact .inl h
  ·exact .inr (List.mem_of_mem_drop h)
 ·rintro(h | h)
  ·exact .inr (.inl h)
  ·rw[<- List.take_append_drop p L,List.mem_append] at h
   rcases h with h | h
   ·exact .inl h
   ·exact .inr (.inr h)
def z4p {β:Type}(l:List β){p:Nat}(x:β):insertAt l.toArray p x=(l.take p++x::l.drop p).toArray:=by
 unfold insertAt
 apply Array.ext'
 simp
 exact List.take_of_length_le (by simp)
def TabW.put {t:SetTable}{es:Array (Int × α)}{L:List (Rw α)}(w:TabW t es L){h:Int}{x:α}{n:Nat}(hocc:∀ m,m < n->∃ r∈L,r.1=(advs t.mask (st0 t.mask h) m).j)(hemp:¬ ∃ r∈L,r.1=(advs t.mask (st0 t.mask h) n).j)(hle:(advs t.mask (st0 t.mask h) n).j<=t.mask):
  TabW (t.put (advs t.mask (st0 t.mask h) n).j).1 (insertAt es (t.put (advs t.mask (st0 t.mask h) n).j).2 (h,x)) (ins L (t.put (advs t.mask (st0 t.mask h) n).j).2 ((advs t.mask (st0 t.mask h) n).j,h,x)):=by
 generalize hj:(advs t.mask (st0 t.mask h) n).j=j at*
 obtain⟨b1,b2,b3⟩:=z4O w.riseP j
 have hp:(t.put j).2=below t.place j:=rfl
 rw[hp]
 generalize hq:below t.place j=p at*
 have hpl:p<=L.length:=by rw[<- w.size.1]; exact b1
 have at':∀ i (hi:i < L.length),t.place.getD i 0=(L[i]).1:=fun i hi=>by rw[w.place]; simp[Array.getD,hi]
 have lo:∀ r∈L.take p,r.1 < j:=fun r hr=>by
  obtain⟨i,hi,rfl⟩:=List.mem_iff_getElem.mp hr
  have hi':i < p/\i < L.length:=by simp at hi; lia
  have:=b2 i hi'.1
  rw[at' i hi'.2] at this
  simpa using this
 have hi:∀ r∈L.drop p,j < r.1:=fun r hr=>by
  obtain⟨i,hi,rfl⟩:=List.mem_iff_getElem.mp hr
  have hi':p+i < L.length:=by simp at hi; lia
  have h1:=b3 (p+i) (by lia) (by rw[w.size.1]; exact hi')
  rw[at' _ hi'] at h1
  have h2:(L[p+i]).1≠j:=fun z=>hemp ⟨L[p+i],List.getElem_mem hi',z⟩
  simp only[List.getElem_drop]
  lia
 have hdum:(t.put j).1.dummies = #[]:=by
  show (if has t.dummies j then eraseAt t.dummies (below t.dummies j) else t.dummies) = #[]
  rw[w.dum]
  simp[has]
 refine⟨?_,?_,?_,fun r hr => ?_,hdum,w.pow,fun r hr => ?_⟩
 ·show insertAt t.place (below t.place j) j=_
  rw[hq,w.place,z4p]
  unfold ins
  rw[List.map_append,List.map_cons,List.map_take,List.map_drop]
 ·rw[w.es,z4p]
  unfold ins
  rw[List.map_append,List.map_cons,List.map_take,List.map_drop]
 ·unfold ins
  rw[List.pairwise_append]
  have pw:=w.rise
  rw[<- List.take_append_drop p L,List.pairwise_append] at pw
  refine⟨pw.1,List.pairwise_cons.mpr ⟨fun r hr=>hi r hr,pw.2.1⟩,fun a ha b hb => ?_⟩
  rcases List.mem_cons.mp hb with rfl | hb
  ·exact lo a ha
  ·exact pw.2.2 a ha b hb
 ·show r.1<=t.mask
  rcases z6W.mp hr with rfl | hr
  ·exact hle
  ·exact w.le r hr
 ·show zam t.mask _ r.2.1 r.1
  rcases z6W.mp hr with rfl | hr
  ·exact⟨n,hj,fun m hm=>by
    obtain⟨r',hr',e⟩:=hocc m hm
    exact⟨r',z6W.mpr (.inr hr'),e⟩⟩
  ·exact(w.reach r hr).mono fun a ⟨r',hr',e⟩=>⟨r',z6W.mpr (.inr hr'),e⟩
def j_le {mask:Nat}:∀ (n:Nat) {p:Probe},p.j+p.more<=mask->(advs mask p n).j+(advs mask p n).more<=mask
 | 0,_,h=>h
 | n+1,p,h=>by
  have ih:=j_le n h
  show (adv mask (advs mask p n)).j+(adv mask (advs mask p n)).more<=mask
  unfold adv
  split
  ·show (advs mask p n).j+1+((advs mask p n).more - 1)<=mask; lia
  ·have hl:(leap mask (advs mask p n).i (advs mask p n).perturb).1<=mask:=Nat.le_of_lt_succ (Nat.mod_lt _ (Nat.succ_pos _))
   show (leap mask (advs mask p n).i (advs mask p n).perturb).1+(runEnd mask (leap mask (advs mask p n).i (advs mask p n).perturb).1 - (leap mask (advs mask p n).i (advs mask p n).perturb).1)<=mask
   generalize (leap mask (advs mask p n).i (advs mask p n).perturb).1=x at hl
   unfold runEnd
   split <;> lia
def zay (mask:Nat)(h:Int)(n:Nat):(advs mask (st0 mask h) n).j<=mask:=by
 have:(st0 mask h).j+(st0 mask h).more<=mask:=by
  show bits h % (mask+1)+(runEnd mask (bits h % (mask+1)) - bits h % (mask+1))<=mask
  have hl:bits h % (mask+1)<=mask:=Nat.le_of_lt_succ (Nat.mod_lt _ (Nat.succ_pos _))
  generalize bits h % (mask+1)=x at hl
  unfold runEnd
  split <;> lia
 have:=j_le n this
 lia
variable {α:Type}
def rp (mask i q:Nat):Probe:={ j:=i,more:=runEnd mask i - i,i:=i,perturb:=q,dummy:=none }
def zff (mask:Nat)(h:Int):st0 mask h=rp mask (bits h % (mask+1)) (bits h):=rfl
def zaN (mask i q:Nat):advs mask (rp mask i q) (runEnd mask i - i+1)=rp mask (leap mask i q).1 (leap mask i q).2:=z3G mask (rp mask i q)
def zcd (mask i q:Nat){m:Nat}(h:m<=runEnd mask i - i):(advs mask (rp mask i q) m).j=i+m:=by rw[z7j mask (rp mask i q) m h]; rfl
def zfv (mask i:Nat):i<=runEnd mask i:=by unfold runEnd; split <;> lia
def z84 {mask:Nat}{owner:Array (Option Nat)}:∀ (fuel i q:Nat),(∃ c,c < fuel/\(owner.getD (lp mask i q c).1 (some 0)).isNone=true)->
  ∃ s,layClean.free mask owner fuel i q=some (advs mask (rp mask i q) s).j/\(owner.getD (advs mask (rp mask i q) s).j (some 0)).isNone=true/\∀ m,m < s->(owner.getD (advs mask (rp mask i q) m).j (some 0)).isNone=false
 | 0,i,q,⟨c,hc,_⟩=>absurd hc (Nat.not_lt_zero _)
 | fuel+1,i,q,⟨c,hc,he⟩=>by
  rw[layClean.free]
  have hge:=zfv mask i
  cases hf:(List.range (runEnd mask i+1 - i)).find? fun k=>(owner.getD (i+k) (some 0)).isNone with
  | some k=>
   obtain⟨h1,h2,h3⟩:=List.find?_range_eq_some.mp hf
   have hk:k < runEnd mask i+1 - i:=by simpa using h2
   dsimp only
   refine⟨k,by rw[zcd mask i q (by lia)],by rw[zcd mask i q (by lia)]; exact h1,fun m hm => ?_⟩
   rw[zcd mask i q (by lia)]
   have:=h3 m hm
   simpa using this
  | none=>
   have hn:=List.find?_range_eq_none.mp hf
   have all:∀ k,k<=runEnd mask i - i->(owner.getD (i+k) (some 0)).isNone=false:=fun k hk=>by
    have:=hn k (by lia)
    simpa using this
   have hc0:c≠0:=fun z=>by
    subst z
    have:=all 0 (Nat.zero_le _)
    rw[Nat.add_zero] at this
    have he':(owner.getD i (some 0)).isNone=true:=he
    rw[this] at he'
    cases he'
   obtain⟨c',rfl⟩:∃ c',c=c'+1:=⟨c - 1,by lia⟩
   rw[zbl] at he
   obtain⟨s,h1,h2,h3⟩:=z84 fuel _ _ ⟨c',by lia,he⟩
   rw[<- zaN, <- z2M] at h1 h2
   dsimp only
   refine⟨runEnd mask i - i+1+s,h1,h2,fun m hm => ?_⟩
   rcases Nat.lt_or_ge m (runEnd mask i - i+1) with z | z
   ·rw[zcd mask i q (by lia)]
    exact all m (by lia)
   ·obtain⟨d,rfl⟩:∃ d,m=runEnd mask i - i+1+d:=⟨m - (runEnd mask i - i+1),by lia⟩
    rw[z2M,zaN]
    exact h3 d (by lia)
structure Own (mask:Nat)(hs:List Int)(owner:Array (Option Nat))(pos:List Nat):Prop where
 size:owner.size=mask+1
 len:pos.length=hs.length
 le:∀ j∈pos,j<=mask
 nd:pos.Nodup
 own:∀ j,j<=mask->∀ k,owner.getD j (some 0)=some k↔pos[k]? = some j
 reach:∀ (k:Nat) (h:Int) (j:Nat),hs[k]? = some h->pos[k]? = some j->zam mask (· ∈ pos) h j
def Own.free {mask:Nat}{hs:List Int}{owner:Array (Option Nat)}{pos:List Nat}(o:Own mask hs owner pos){j:Nat}(hj:j<=mask):(owner.getD j (some 0)).isNone=true↔j ∉ pos:=by
 constructor
 ·intro h z
  obtain⟨k,hk,e⟩:=List.mem_iff_getElem.mp z
  have:=(o.own j hj k).mpr (by rw[List.getElem?_eq_getElem hk,e])
  rw[this] at h
  cases h
 ·intro h
  cases e:owner.getD j (some 0) with
  | none=>rfl
  | some k=>exact absurd (List.mem_of_getElem? ((o.own j hj k).mp e)) h
def Own.add {mask k:Nat}{hs:List Int}{owner:Array (Option Nat)}{pos:List Nat}(o:Own mask hs owner pos)(hm:mask+1=2 ^ k)(hroom:hs.length<=mask)(h:Int):
  ∃ j,layClean.free mask owner (turns mask) (bits h % (mask+1)) (bits h)=some j/\Own mask (hs++[h]) (owner.setIfInBounds j (some hs.length)) (pos++[j]):=by
 have hex:∃ e,e<=mask/\e ∉ pos:=by
  refine Classical.byContradiction fun hno => ?_
  have:=z3c (l:=List.range (mask+1)) (l':=pos) List.nodup_range fun x hx=>Classical.byContradiction fun z=>hno ⟨x,by have:=List.mem_range.mp hx; lia,z⟩
  rw[List.length_range,o.len] at this
  lia
 obtain⟨e,he,hne⟩:=hex
 have hq:bits h < 2 ^ 64:=(z4a { mask:=mask,place := #[],dummies := #[],finger:=0,led:=true,moves:=0,plain:=true } h).1
 obtain⟨c,c1,c2,c3⟩:=zdn (i:=bits h % (mask+1)) (q:=bits h) hm hq he
 obtain⟨s,h1,h2,h3⟩:=z84 (mask:=mask) (owner:=owner) (turns mask) (bits h % (mask+1)) (bits h) ⟨c,by unfold turns; lia,by rw[c3]; exact(o.free he).mpr hne⟩
 rw[<- zff] at h1 h2 h3
 have hjl:=zay mask h s
 refine⟨_,h1,?_⟩
 generalize hj:(advs mask (st0 mask h) s).j=j at*
 have hjn:j ∉ pos:=(o.free hjl).mp h2
 refine⟨by rw[Array.size_setIfInBounds]; exact o.size,by rw[List.length_append,List.length_append,o.len]; rfl,fun x hx => ?_,?_,fun x hx n => ?_,fun n h' j' e1 e2 => ?_⟩
 ·rcases List.mem_append.mp hx with z | z
  ·exact o.le x z
  ·rw[List.mem_singleton.mp z]; exact hjl
 ·rw[List.nodup_append]
  exact⟨o.nd,by simp,fun a ha b hb z=>hjn (by rw[List.mem_singleton.mp hb] at z; exact z ▸ ha)⟩
 ·have hxs:x < owner.size:=by rw[o.size]; lia
  have e0:(owner.setIfInBounds j (some hs.length)).getD x (some 0)=if j=x then some hs.length else owner.getD x (some 0):=by
   have hjs:j < owner.size:=by rw[o.size]; lia
   rw[Array.getD_eq_getD_getElem?, Array.getD_eq_getD_getElem?, Array.getElem?_setIfInBounds]
   by_cases hxj:j=x
   ·subst hxj; rw[if_pos rfl,if_pos hjs,if_pos rfl]; rfl
   ·rw[if_neg hxj,if_neg hxj]
  rw[e0]
  by_cases hxj:j=x
  ·subst hxj
   rw[if_pos rfl]
   constructor
   ·intro z
    have:hs.length=n:=Option.some.inj z
    rw[<- this, <- o.len,List.getElem?_append_right (Nat.le_refl _)]
    simp
   ·intro z
    rcases Nat.lt_or_ge n pos.length with hl | hl
    ·rw[List.getElem?_append_left hl] at z
     exact absurd (List.mem_of_getElem? z) hjn
    ·rw[List.getElem?_append_right hl] at z
     have hn0:n - pos.length=0:=by
      rcases Nat.eq_zero_or_pos (n - pos.length) with w | w
      ·exact w
      ·rw[List.getElem?_eq_none (by show 1<=_; lia)] at z; cases z
     rw[<- o.len]
     congr 1
     lia
  ·rw[if_neg hxj,o.own x hx n]
   constructor
   ·intro z
    obtain⟨hn,_⟩:=List.getElem?_eq_some_iff.mp z
    rw[List.getElem?_append_left hn]; exact z
   ·intro z
    rcases Nat.lt_or_ge n pos.length with hl | hl
    ·rw[List.getElem?_append_left hl] at z; exact z
    ·rw[List.getElem?_append_right hl] at z
     exact absurd (List.mem_singleton.mp (List.mem_of_getElem? z)).symm hxj
 ·rcases Nat.lt_or_ge n pos.length with hl | hl
  ·rw[List.getElem?_append_left hl] at e2
   rw[List.getElem?_append_left (by rw[<- o.len]; exact hl)] at e1
   exact(o.reach n h' j' e1 e2).mono fun a ha=>List.mem_append_left _ ha
  ·rw[List.getElem?_append_right hl] at e2
   rw[List.getElem?_append_right (by rw[<- o.len]; exact hl)] at e1
   have z1:=List.mem_singleton.mp (List.mem_of_getElem? e1)
   have z2:=List.mem_singleton.mp (List.mem_of_getElem? e2)
   subst z1 z2
   refine⟨s,hj,fun m hm=>List.mem_append_left _ ?_⟩
   have:=h3 m hm
   refine Classical.byContradiction fun z => ?_
   rw[(o.free (zay mask h' m)).mpr z] at this
   cases this
def z5u {mask k:Nat}(hm:mask+1=2 ^ k):∀ (hs done:List Int) (owner:Array (Option Nat)) (pos:List Nat),Own mask done owner pos->done.length+hs.length<=mask+1->
  ∃ owner' pos',(hs.foldl (init:=some (owner,done.length)) fun acc h=>do
   let (owner,k) <- acc
   let j <- layClean.free mask owner (turns mask) (bits h % (mask+1)) (bits h)
   pure (owner.setIfInBounds j (some k),k+1))=some (owner',done.length+hs.length)/\Own mask (done++hs) owner' pos'
 | [],done,owner,pos,o,_=>⟨owner,pos,rfl,by rw[List.append_nil]; exact o⟩
 | h::hs,done,owner,pos,o,hl=>by
  simp only[List.length_cons] at hl
  obtain⟨j,e,o'⟩:=o.add hm (by lia) h
  obtain⟨ow,ps,e2,o2⟩:=z5u hm hs (done++[h]) _ _ o' (by simp; lia)
  refine⟨ow,ps,?_,by simpa using o2⟩
  rw[List.foldl_cons]
  have:(do
   let (owner,k) <- some (owner,done.length)
   let j <- layClean.free mask owner (turns mask) (bits h % (mask+1)) (bits h)
   pure (owner.setIfInBounds j (some k),k+1))=some (owner.setIfInBounds j (some done.length),(done++[h]).length):=by
   simp[e]
  rw[this,e2]
  simp
  lia
def own0 (mask:Nat):Own mask [] (Array.replicate (mask+1) none) []:=by
 refine⟨by simp,rfl,by simp,by simp,fun j hj k => ?_,fun k h j e _=>by simp at e⟩
 have:(Array.replicate (mask+1) (none:Option Nat)).getD j (some 0)=none:=by simp[Array.getD,show j < mask+1 by lia]
 rw[this]
 simp
def zeF {mask k finger moves:Nat}{led plain:Bool}(hm:mask+1=2 ^ k)(hk:3<=k){es:Array (Int × α)}(hl:es.size<=mask+1):
  ∃ t' z1V L',laid mask finger moves led plain (es.map (·.1))=some (t',z1V)/\t'.mask=mask/\t'.finger=finger/\t'.moves=moves/\t'.led=led/\t'.plain=plain/\(z1V.filterMap (es[·]?)).size=es.size/\TabW t' (z1V.filterMap (es[·]?)) L'/\(z1V.filterMap (es[·]?)).toList.Perm es.toList:=by
 obtain⟨owner,pos,e,o⟩:=z5u hm (es.map (·.1)).toList [] _ _ (own0 mask) (by simpa using hl)
 simp only[List.nil_append,List.length_nil,Nat.zero_add] at e o
 have hlay:layClean mask (es.map (·.1))=some owner:=by
  unfold layClean
  rw[<- Array.foldl_toList,e]
  rfl
 have hn:(es.map (·.1)).toList.length=es.size:=by simp
 have hpl:pos.length=es.size:=by rw[o.len,hn]
 generalize hlive:((List.range (mask+1)).filterMap fun j=>(owner.getD j none).map (j, ·))=live
 have gd:∀ j,j<=mask->owner.getD j none=owner.getD j (some 0):=fun j hj=>by
  have:j < owner.size:=by rw[o.size]; lia
  simp[Array.getD,this]
 have mem:∀ j n,(j,n)∈live↔pos[n]? = some j:=fun j n=>by
  rw[<- hlive,List.mem_filterMap]
  constructor
  ·rintro⟨x,hx,e⟩
   have hx':x<=mask:=by have:=List.mem_range.mp hx; lia
   rw[gd x hx'] at e
   obtain⟨y,hy,e2⟩:=Option.map_eq_some_iff.mp e
   cases e2
   exact(o.own j hx' n).mp hy
  ·intro h
   have hj:j<=mask:=o.le j (List.mem_of_getElem? h)
   refine⟨j,List.mem_range.mpr (by lia),?_⟩
   rw[gd j hj,(o.own j hj n).mpr h]
   rfl
 have sorted:live.Pairwise fun a b=>a.1 < b.1:=by
  rw[<- hlive]
  have h1:(List.range (mask+1)).Pairwise (· < ·):=List.pairwise_lt_range
  generalize List.range (mask+1)=rg at h1
  induction rg with
  | nil=>simp
  | cons x rg ih=>
   obtain⟨p1,p2⟩:=List.pairwise_cons.mp h1
   rw[List.filterMap_cons]
   cases hx:(owner.getD x none).map (x, ·) with
   | none=>exact ih p2
   | some y=>
    obtain⟨z,_,rfl⟩:=Option.map_eq_some_iff.mp hx
    refine List.pairwise_cons.mpr ⟨fun b hb => ?_,ih p2⟩
    obtain⟨x',hx',e'⟩:=List.mem_filterMap.mp hb
    obtain⟨z',_,rfl⟩:=Option.map_eq_some_iff.mp e'
    exact p1 x' hx'
 have nd2:(live.map (·.2)).Nodup:=by
  rw[List.nodup_iff_pairwise_ne,List.pairwise_map]
  refine List.Pairwise.imp_of_mem ?_ sorted
  intro a b ha hb hab z
  have h1:=(mem a.1 a.2).mp ha
  have h2:=(mem b.1 b.2).mp hb
  rw[<- z,h1] at h2
  have:a.1=b.1:=Option.some.inj h2
  lia
 have perm:(live.map (·.2)).Perm (List.range es.size):=by
  refine z4g nd2 List.nodup_range fun n => ?_
  rw[List.mem_range]
  constructor
  ·intro h
   obtain⟨a,ha,rfl⟩:=List.mem_map.mp h
   obtain⟨hlt,_⟩:=List.getElem?_eq_some_iff.mp ((mem a.1 a.2).mp ha)
   lia
  ·intro h
   refine List.mem_map.mpr ⟨(pos[n]'(by lia),n),(mem _ _).mpr (List.getElem?_eq_getElem (by lia)),rfl⟩
 have self:(List.range es.size).filterMap (es[·]?)=es.toList:=by
  have:∀ (l:List (Int × α)),(List.range l.length).filterMap (l[·]?)=l:=fun l=>by
   have e1:(List.range l.length).map (l[·]?)=l.map some:=by
    apply List.ext_getElem
    ·simp
    ·intro i h1 h2
     simp at h1
     simp[h1]
   have e2:(List.range l.length).filterMap (l[·]?)=((List.range l.length).map (l[·]?)).filterMap id:=by rw[List.filterMap_map]; rfl
   rw[e2,e1,List.filterMap_map]
   simp
  have h:=this es.toList
  simpa using h
 have pe:(((live.map (·.2)).toArray).filterMap (es[·]?)).toList.Perm es.toList:=by
  have:=perm.filterMap (es[·]?)
  rw[self] at this
  simpa using this
 refine⟨{ mask,place:=(live.map (·.1)).toArray,dummies := #[],finger,led,moves,plain },(live.map (·.2)).toArray,live.filterMap fun a=>(es[a.2]?).map fun x=>(a.1,x),?_,rfl,rfl,rfl,rfl,rfl,?_,?_,pe⟩
 ·unfold laid
  rw[hlay]
  simp only[Option.bind_eq_bind,Option.bind_some]
  rw[hlive]
  rfl
 ·have:=pe.length_eq
  simpa using this
 ·-- each live row has an element
  have has:∀ a∈live,∃ x,es[a.2]? = some x:=fun a ha=>by
   obtain⟨hlt,_⟩:=List.getElem?_eq_some_iff.mp ((mem a.1 a.2).mp ha)
   exact⟨es[a.2]'(by lia),Array.getElem?_eq_getElem (by lia)⟩
  have e1:∀ (l:List (Nat × Nat)),(∀ a∈l,∃ x,es[a.2]? = some x)->(l.filterMap fun a=>(es[a.2]?).map fun x=>(a.1,x)).map (·.1)=l.map (·.1)/\(l.filterMap fun a=>(es[a.2]?).map fun x=>(a.1,x)).map (·.2)=(l.map (·.2)).filterMap (es[·]?):=fun l=>by
   induction l with
   | nil=>intro _; exact⟨rfl,rfl⟩
   | cons a l ih=>
    intro h
    obtain⟨x,hx⟩:=h a (by simp)
    obtain⟨i1,i2⟩:=ih fun b hb=>h b (by simp[hb])
    refine⟨?_,?_⟩
    ·rw[List.filterMap_cons,hx]; simp only[Option.map_some,List.map_cons]; rw[i1]
    ·rw[List.filterMap_cons,hx]; simp only[Option.map_some,List.map_cons,List.filterMap_cons,hx]; rw[i2]
  have memL:∀ r:Rw α,r∈(live.filterMap fun a=>(es[a.2]?).map fun x=>(a.1,x))->∃ n,pos[n]? = some r.1/\es[n]? = some r.2:=fun r hr=>by
   obtain⟨a,ha,e⟩:=List.mem_filterMap.mp hr
   obtain⟨x,hx,rfl⟩:=Option.map_eq_some_iff.mp e
   exact⟨a.2,(mem a.1 a.2).mp ha,hx⟩
  have occ:∀ j,j∈pos->∃ r'∈(live.filterMap fun a=>(es[a.2]?).map fun x=>(a.1,x)),r'.1=j:=fun j hj=>by
   obtain⟨n,hn',e⟩:=List.mem_iff_getElem.mp hj
   have hlv:(j,n)∈live:=(mem j n).mpr (by rw[List.getElem?_eq_getElem hn',e])
   obtain⟨x,hx⟩:=has _ hlv
   exact⟨(j,x),List.mem_filterMap.mpr ⟨(j,n),hlv,by rw[show es[(j,n).2]? = some x from hx]; rfl⟩,rfl⟩
  refine⟨by rw[(e1 live has).1],?_,?_,fun r hr => ?_,rfl,⟨k,hk,hm⟩,fun r hr => ?_⟩
  ·rw[(e1 live has).2]
   apply Array.ext'
   simp
  ·have:((live.filterMap fun a=>(es[a.2]?).map fun x=>(a.1,x)).map (·.1)).Pairwise (· < ·):=by
    rw[(e1 live has).1,List.pairwise_map]
    exact sorted
   rw[List.pairwise_map] at this
   exact this
  ·obtain⟨n,h1,_⟩:=memL r hr
   exact o.le r.1 (List.mem_of_getElem? h1)
  ·obtain⟨n,h1,h2⟩:=memL r hr
   exact(o.reach n r.2.1 r.1 (by simp[h2]) h1).mono fun a ha=>occ a ha
end Tab
namespace Tab
open PySem PySem.SetTable PyProof.Rows
section
variable {prog:Program}{w:World}{A:Around}{E:Value->Shared->Prop}{s:Shared}
abbrev TK (prog:Program)(w:World)(h:Heap)(k:List Int)(a:Addr):Prop:=IsTupleKey (intKind prog w) h k a
def z8L {n:Nat}{v:Value}(h:carriedByValue v=true):ofAClassStatement n v=pure false:=by
 cases v with
 | ref a=>simp[carriedByValue] at h
 | _=>first | rfl | (unfold ofAClassStatement; rfl) | (cases n <;> rfl)
def z2p {ks:List Int}{a:Addr}{Q:Bool->Shared->Prop}(hk:TK prog w s.heap ks a)(h:Q false s):wpAny (model prog w) A (ofAClassStatement 8 (.ref a)) Q E s:=by
 have hT:=hk.typeIs
 obtain⟨o,z05,n,ho,_,hd,hi⟩:=hk
 unfold ofAClassStatement
 refine wpAny_bind (wpAny_typeOf hT ?_)
 dsimp only
 rw[if_pos (by decide)]
 refine wpAny_bind (wpAny_pure ?_)
 simp only[Bool.not_true,Bool.false_eq_true,if_false]
 refine wpAny_bind (wpAny_seqItems ho hd ?_)
 refine wpAny_bind ?_
 show wpAny _ _ (forIn z05 _ _) _ _ s
 rw[<- Array.forIn_toList]
 refine wpAny_forIn_list _ (fun rest r s'=>r.1=none/\s'=s/\∀ v∈rest,carriedByValue v=true) _ ?_ ?_ _ _ ⟨rfl,rfl,hi.byValue⟩
 ·rintro v rest r s' ⟨hr,rfl,hall⟩
  rw[z8L (hall v List.mem_cons_self)]
  refine wpAny_bind (wpAny_pure ?_)
  simp only[Bool.false_eq_true,if_false]
  exact wpAny_pure ⟨rfl,rfl,fun u hu'=>hall u (List.mem_cons_of_mem _ hu')⟩
 ·rintro⟨r1,r2⟩ s' ⟨hr,rfl,_⟩
  simp only at hr
  subst hr
  exact wpAny_pure h
def zad {n:Nat}{k:Int}{v:Value}(h:(intKind prog w).is k v=true):hashByValue n v=pure true:=by
 obtain⟨t,rfl⟩:=Value.isInt_shape h
 cases n <;> rfl
def z48 {ks:List Int}{a:Addr}{Q:Bool->Shared->Prop}(hk:TK prog w s.heap ks a)(h:Q true s):wpAny (model prog w) A (hashByValue 8 (.ref a)) Q E s:=by
 have hT:=hk.typeIs
 obtain⟨o,z05,n,ho,_,hd,hi⟩:=hk
 unfold hashByValue
 refine wpAny_bind (wpAny_specialOf hT F.slot_tuple_hash.lookup ?_)
 dsimp only
 refine wpAny_bind (wpAny_seqItems ho hd ?_)
 refine wpAny_bind ?_
 show wpAny _ _ (forIn z05 _ _) _ _ s
 rw[<- Array.forIn_toList]
 refine wpAny_forIn_list _ (fun rest r s'=>r.1=none/\s'=s/\∃ l,ItemsAre (intKind prog w) l rest) _ ?_ ?_ _ _ ⟨rfl,rfl,ks,hi⟩
 ·rintro v rest r s' ⟨hr,rfl,l,hl⟩
  cases hl with
  | cons h1 h2=>
   rw[zad h1]
   refine wpAny_bind (wpAny_pure ?_)
   simp only[Bool.not_true,Bool.false_eq_true,if_false]
   exact wpAny_pure ⟨rfl,rfl,_,h2⟩
 ·rintro⟨r1,r2⟩ s' ⟨hr,rfl,_⟩
  simp only at hr
  subst hr
  exact wpAny_pure h
def z9P {ks:List Int}{a:Addr}{stored:List Value}{Q:Bool->Shared->Prop}(hk:TK prog w s.heap ks a)(hst:∀ y∈stored,∃ b k,y = .ref b/\TK prog w s.heap k b)(h:Q false s):wpAny (model prog w) A (searchCouldBeSeen (.ref a) stored) Q E s:=by
 unfold searchCouldBeSeen
 refine wpAny_bind ?_
 refine wpAny_forIn_list _ (fun rest r s'=>r.1=none/\s'=s/\∀ y∈rest,∃ b k,y = .ref b/\TK prog w s.heap k b) _ ?_ ?_ _ _ ⟨rfl,rfl,hst⟩
 ·rintro y rest r s' ⟨hr,rfl,hall⟩
  obtain⟨b,k,rfl,hb⟩:=hall y List.mem_cons_self
  dsimp only
  split
  ·exact wpAny_pure ⟨rfl,rfl,fun u hu=>hall u (List.mem_cons_of_mem _ hu)⟩
  ·refine wpAny_bind (wpAny_eqIsQuiet_tuple hk ?_)
   simp only[Bool.not_true,Bool.false_eq_true,if_false]
   refine wpAny_bind (wpAny_eqIsQuiet_tuple hb ?_)
   simp only[Bool.not_true,Bool.false_eq_true,if_false]
   refine wpAny_bind (z2p hk ?_)
   simp only[Bool.false_eq_true,if_false]
   refine wpAny_bind (z2p hb ?_)
   simp only[Bool.false_eq_true,if_false]
   exact wpAny_pure ⟨rfl,rfl,fun u hu=>hall u (List.mem_cons_of_mem _ hu)⟩
 ·rintro⟨r1,r2⟩ s' ⟨hr,rfl,_⟩
  simp only at hr
  subst hr
  exact wpAny_pure h
structure z8s (prog:Program)(w:World)(h:Heap)(a:Addr)(L:List (Rw Value))(o:Obj)(es:Array (Int × Value))(ep:Nat)(t:SetTable):Prop where
 get:h.get? a=some o
 ex:o.ExactSet
 data:o.data = .set es ep t
 tab:TabW t es L
 room:L.length<=t.mask
 small:t.mask<=8191
 plain:t.plain=true
 led:t.led = !w.params.followText "set-order"
 key:∀ r∈L,∃ b k,r.2.2 = .ref b/\TK prog w h k b/\r.2.1=tupleKeyHash (intKind prog w) k
def z8s.fits {h:Heap}{a:Addr}{L:List (Rw Value)}{o:Obj}{es:Array (Int × Value)}{ep:Nat}{t:SetTable}(x:z8s prog w h a L o es ep t):t.fits es.size=true:=by
 unfold SetTable.fits
 rw[x.tab.size.1,x.tab.size.2.1,x.tab.size.2.2]
 simp[x.room]
def z8s.odd {h:Heap}{a:Addr}{L:List (Rw Value)}{o:Obj}{es:Array (Int × Value)}{ep:Nat}{t:SetTable}(x:z8s prog w h a L o es ep t):t.gaveWay=false:=by
 unfold SetTable.gaveWay
 obtain⟨k,hk,e⟩:=x.tab.pow
 have:2 ^ k=2*2 ^ (k - 1):=by rw[<- Nat.pow_succ']; congr 1; lia
 have h1:t.mask % 2=1:=by lia
 rw[h1]
 rfl
def zdo {t:SetTable}{es:Array (Int × Value)}{L:List (Rw Value)}(w:TabW t es L){i j:Nat}(h:t.place[i]? = some j):∃ r,L[i]? = some r/\r.1=j/\es[i]? = some r.2:=by
 have h':(L.map (·.1))[i]? = some j:=by rw[w.place] at h; simpa using h
 rw[List.getElem?_map] at h'
 obtain⟨r,hr,e⟩:=Option.map_eq_some_iff.mp h'
 refine⟨r,hr,e,?_⟩
 rw[w.es]
 simp[hr]
def z7m {a b:Addr}{kx:List Int}{L:List (Rw Value)}{o:Obj}{es:Array (Int × Value)}{ep:Nat}{t:SetTable}(x:z8s prog w s.heap a L o es ep t)(hu:A.units < cLine)(hk:TK prog w s.heap kx b){N:Nat}
  (hN:¬ ∃ r∈L,r.1=(advs t.mask (st0 t.mask (tupleKeyHash (intKind prog w) kx)) N).j) {Q:SetFound->Shared->Prop}
  (hthere:(∃ r∈L,∃ c,r.2.2 = .ref c/\TK prog w s.heap kx c)->Q (.there none) s)
  (hfree:∀ n,(∀ m,m < n->∃ r∈L,r.1=(advs t.mask (st0 t.mask (tupleKeyHash (intKind prog w) kx)) m).j/\∀ c,r.2.2 = .ref c->¬ TK prog w s.heap kx c)->(¬ ∃ r∈L,r.1=(advs t.mask (st0 t.mask (tupleKeyHash (intKind prog w) kx)) n).j)->Q (.free (advs t.mask (st0 t.mask (tupleKeyHash (intKind prog w) kx)) n).j false) s):
  ∀ (fuel n:Nat) (stand:Option Probe),stand.getD (t.probeStart (tupleKeyHash (intKind prog w) kx))=advs t.mask (st0 t.mask (tupleKeyHash (intKind prog w) kx)) n->N < fuel+n->
   (∀ m,m < n->∃ r∈L,r.1=(advs t.mask (st0 t.mask (tupleKeyHash (intKind prog w) kx)) m).j/\∀ c,r.2.2 = .ref c->¬ TK prog w s.heap kx c)->
   wpAny (model prog w) A (setSearchFrom a (.ref b) (tupleKeyHash (intKind prog w) kx) true fuel stand) Q E s:=by
 intro fuel
 induction fuel with
 | zero=>
  intro n stand hs hl hocc
  obtain⟨r,hr,e,_⟩:=hocc N (by lia)
  exact absurd ⟨r,hr,e⟩ hN
 | succ fuel ih=>
  intro n stand hs hl hocc
  generalize hh:tupleKeyHash (intKind prog w) kx=hx at*
  unfold setSearchFrom
  refine wpAny_bind (wpAny_setState_of x.get x.data x.fits ?_)
  dsimp only
  rw[x.odd]
  simp only[Bool.false_eq_true,if_false]
  try refine wpAny_bind (wpAny_pure ?_)
  rw[hs]
  obtain⟨f,hf⟩:∃ f:Nat->Int,f=fun i=>(es[i]?.map (·.1)).getD 0:=⟨_,rfl⟩
  show wpAny (model prog w) A (match t.probe (fun i=>(es[i]?.map (·.1)).getD 0) hx (advs t.mask (st0 t.mask hx) n) with
   | some met=>_
   | _=>_) Q E s
  rw[<- hf]
  have other:∀ r∈L,r.2.1≠hx->∀ c,r.2.2 = .ref c->¬ TK prog w s.heap kx c:=fun r hr hne c e z=>by
   obtain⟨b',k,e',hk',eh⟩:=x.key r hr
   rw[e'] at e
   cases e
   rw[hk'.inj z] at eh
   exact hne (eh.trans hh)
  obtain⟨d,h1,h2⟩:=x.tab.probe x.room f hx n
  have grown:∀ m,m < n+d->∃ r∈L,r.1=(advs t.mask (st0 t.mask hx) m).j/\∀ c,r.2.2 = .ref c->¬ TK prog w s.heap kx c:=fun m hm=>by
   rcases Nat.lt_or_ge m n with z | z
   ·exact hocc m z
   ·obtain⟨i,hi,hne⟩:=h1 m z hm
    obtain⟨r,hr,e1,e2⟩:=zdo x.tab hi
    have hrL:r∈L:=List.mem_of_getElem? hr
    refine⟨r,hrL,e1,other r hrL ?_⟩
    rw[hf] at hne
    simpa[e2] using hne
  rcases h2 with ⟨hemp,e⟩ | ⟨i,hi,hhash,e⟩
  ·rw[e]
   dsimp only
   exact wpAny_pure (hfree (n+d) grown fun⟨r,hr,e'⟩=>by
    obtain⟨i,hi⟩:=x.tab.occ.mpr ⟨r,hr,e'⟩
    exact hemp i hi)
  ·rw[e]
   dsimp only
   obtain⟨r,hr,e1,e2⟩:=zdo x.tab hi
   have hrL:r∈L:=List.mem_of_getElem? hr
   obtain⟨c,k,ec,hc,ehash⟩:=x.key r hrL
   have rest:wpAny (model prog w) A (match es[i]? with
             | some (_,y)=>do
              let equal <- holding [y] (eqBool y (Value.ref b))
              let __x <- setState a
              if (true && equal)=true then pure (SetFound.there none)
               else
                match __x.2.snd.sameMemory t.moves t.mask with
                | some same=>
                 match if same=true then __x.2.snd.slot (advs t.mask (st0 t.mask hx) (n+d)).j else Slot.empty with
                 | Slot.live i'=>
                  match __x.fst[i']? with
                  | some (_,y')=>do
                   let __do_lift <- isSame y' y
                   let still <- pure (if __do_lift=true then some i' else none)
                   match still with
                    | none=>do
                     rule "set.search.anew"
                     setSearchFrom a (Value.ref b) hx true fuel none
                    | some i'=>if equal=true then pure (SetFound.there (some i')) else setSearchFrom a (Value.ref b) hx true fuel (some (advs t.mask (st0 t.mask hx) (n+d+1)))
                  | none=>do
                   let still <- pure none
                   match still with
                    | none=>do
                     rule "set.search.anew"
                     setSearchFrom a (Value.ref b) hx true fuel none
                    | some i'=>if equal=true then pure (SetFound.there (some i')) else setSearchFrom a (Value.ref b) hx true fuel (some (advs t.mask (st0 t.mask hx) (n+d+1)))
                 | _=>do
                  let still <- pure none
                  match still with
                   | none=>do
                    rule "set.search.anew"
                    setSearchFrom a (Value.ref b) hx true fuel none
                   | some i'=>if equal=true then pure (SetFound.there (some i')) else setSearchFrom a (Value.ref b) hx true fuel (some (advs t.mask (st0 t.mask hx) (n+d+1)))
                | _=>unsupported "set.changed-during-lookup:is-the-new-block-at-the-old-address"
             | _=>unsupported "internal:set-entry") Q E s:=by
    rw[e2, <- Prod.eta r.2]
    dsimp only
    rw[ec]
    refine wpAny_bind (wpAny_holding (wpAny_eqBool_tuple hu hc hk ?_))
    refine wpAny_bind (wpAny_setState_of x.get x.data x.fits ?_)
    dsimp only
    by_cases hkk:k=kx
    ·rw[decide_eq_true hkk]
     simp only[Bool.and_self,if_true]
     exact wpAny_pure (hthere ⟨r,hrL,c,ec,hkk ▸ hc⟩)
    ·rw[decide_eq_false hkk]
     simp only[Bool.and_false,Bool.false_eq_true,if_false]
     have hsm:t.sameMemory t.moves t.mask=some true:=by unfold SetTable.sameMemory; simp
     rw[hsm]
     dsimp only
     rw[if_pos rfl,z7v x.tab.riseP hi]
     dsimp only
     rw[e2, <- Prod.eta r.2]
     dsimp only
     rw[ec]
     refine wpAny_bind (wpAny_isSame_ref_self ?_)
     refine wpAny_bind (wpAny_pure ?_)
     simp only[if_true]
     refine ih (n+d+1) _ rfl (by lia) fun m hm => ?_
     rcases Nat.lt_or_ge m (n+d) with z | z
     ·exact grown m z
     ·have:m=n+d:=by lia
      subst this
      exact⟨r,hrL,e1,fun c' e' z=>by
       rw[ec] at e'
       cases e'
       exact hkk (hc.inj z)⟩
   by_cases hled:t.led=true
   ·rw[hled]
    simp only[Bool.not_true,Bool.false_eq_true,if_false]
    exact rest
   ·have hled':t.led=false:=by simpa using hled
    rw[hled']
    simp only[Bool.not_false,if_true]
    refine wpAny_bind (z9P hk (fun y hy => ?_) ?_)
    ·obtain⟨p,hp,rfl⟩:=List.mem_map.mp hy
     have hp':p∈es:=by
      have:=Array.mem_toList_iff.mp hp
      exact(Array.mem_filter.mp this).1
     have hp2:p∈L.map (·.2):=by rw[x.tab.es] at hp'; simpa using hp'
     obtain⟨r',hr',rfl⟩:=List.mem_map.mp hp2
     obtain⟨b',k',e',hk',_⟩:=x.key r' hr'
     exact⟨b',k',e',hk'⟩
    ·simp only[Bool.false_eq_true,if_false]
     exact rest
end
def z4R (n:Nat):∀ (fuel j:Nat),n < 2 ^ (j+fuel)->∃ k,sizeAbove.go n fuel (2 ^ j)=2 ^ k/\j<=k/\n < 2 ^ k/\(k=j\/2 ^ k<=2*n)
 | 0,j,h=>⟨j,rfl,Nat.le_refl _,h,.inl rfl⟩
 | fuel+1,j,h=>by
  rw[sizeAbove.go]
  by_cases hl:2 ^ j<=n
  ·rw[if_pos hl, <- Nat.pow_succ]
   obtain⟨k,h1,h2,h3,h4⟩:=z4R n fuel (j+1) (by rw[show j+1+fuel=j+(fuel+1) by lia]; exact h)
   refine⟨k,h1,by lia,h3,.inr ?_⟩
   rcases h4 with h4 | h4
   ·subst h4; rw[Nat.pow_succ]; lia
   ·exact h4
  ·rw[if_neg hl]
   exact⟨j,rfl,Nat.le_refl _,by lia,.inl rfl⟩
def z5R {n:Nat}(h:n < 2 ^ 60):∃ k,sizeAbove n=2 ^ k/\3<=k/\n < 2 ^ k/\(k=3\/2 ^ k<=2*n):=z4R n 64 3 (Nat.lt_of_lt_of_le h (by decide))
section
variable {prog:Program}{w:World}{A:Around}{E:Value->Shared->Prop}{s:Shared}
def TK.stay {h h':Heap}{k:List Int}{a b:Addr}{o:Obj}{es ep t}(x:TK prog w h k b)(ho:h.get? a=some o)(hd:o.data = .set es ep t)(hs:Heap.SameBut a h h'):TK prog w h' k b:=by
 obtain⟨o',z05,n,ho',hc,hd',hi⟩:=x
 have hne:b≠a:=by
  rintro rfl
  obtain rfl:o'=o:=Option.some.inj (ho'.symm.trans ho)
  rw[hd] at hd'
  cases hd'
 exact⟨o',z05,n,(hs.2 b hne).trans ho',hc,hd',hi⟩
structure zbS (prog:Program)(w:World)(h:Heap)(a:Addr)(L:List (Rw Value)):Prop where
 ex:∃ o es ep t,z8s prog w h a L o es ep t/\L.length*5 < t.mask*3
def z7t {h:Heap}{a:Addr}{o:Obj}{es:Array (Int × Value)}{ep:Nat}{t:SetTable}(ho:h.get? a=some o)(hd:o.data = .set es ep t)(es':Array (Int × Value))(t':SetTable):
  (h.update a (Obj.putSet es' t')).get? a=some { o with data :=.set es' (ep+1) t' }:=by
 have:=Heap.get?_update_self (Obj.putSet es' t') ho (by rw[putSet_of es' t' hd]; rfl)
 rw[putSet_of es' t' hd] at this
 exact this
def z55 {a b:Addr}{kx:List Int}{L:List (Rw Value)}(x:zbS prog w s.heap a L)(hu:A.units < cLine)(hk:TK prog w s.heap kx b)(hlen:L.length < 2047){Q:Bool->Shared->Prop}
  (hthere:(∃ r∈L,∃ c,r.2.2 = .ref c/\TK prog w s.heap kx c)->∀ tk,Q false { s with toks:=tk })
  (hnew:(¬ ∃ r∈L,∃ c,r.2.2 = .ref c/\TK prog w s.heap kx c)->∀ h' tk L',Heap.SameBut a s.heap h'->zbS prog w h' a L'->(L'.map (·.2)).Perm ((tupleKeyHash (intKind prog w) kx,.ref b)::L.map (·.2))->Q true { s with heap:=h',toks:=tk }):
  wpAny (model prog w) A (setAdd a (.ref b)) Q E s:=by
 obtain⟨o,es,ep,t,y,hfull⟩:=x.ex
 unfold setAdd
 refine wpAny_holding (wpAny_bind (wpAny_pyHash_tuple hu hk ?_))
 generalize hs1:({ s with toks:=s.toks+(kx.length+1) }:Shared)=s1
 have y1:z8s prog w s1.heap a L o es ep t:=by rw[<- hs1]; exact y
 have hk1:TK prog w s1.heap kx b:=by rw[<- hs1]; exact hk
 unfold setAddHashed
 refine wpAny_holding ?_
 show wpAny _ _ (setAddHashedIn a (.ref b) _ (99999+1)) _ _ _
 unfold setAddHashedIn
 refine wpAny_bind (wpAny_setState_of y1.get y1.data y1.fits ?_)
 dsimp only
 have hbs:byScan (Value.ref b) es=false:=by unfold byScan; simp[Value.scannable]
 rw[hbs]
 simp only[Bool.false_eq_true,if_false]
 obtain⟨N,hN,hNe⟩:=y1.tab.soon y1.room (tupleKeyHash (intKind prog w) kx)
 have hmask:t.mask<=8191:=y1.small
 refine wpAny_bind ?_
 unfold setSearch
 refine z7m (s:=s1) y1 hu hk1 hNe ?_ ?_ 100000 0 none rfl (by unfold turns at hN; lia) (fun m hm=>absurd hm (Nat.not_lt_zero _))
 ·intro hex
  dsimp only
  refine wpAny_pure ?_
  rw[<- hs1] at hex ⊢
  exact hthere hex _
 ·intro n hocc hemp
  dsimp only
  refine wpAny_bind (wpAny_setState_of y1.get y1.data y1.fits ?_)
  dsimp only
  have habs:¬ ∃ r∈L,∃ c,r.2.2 = .ref c/\TK prog w s1.heap kx c:=by
   rintro⟨r,hr,c,ec,hc⟩
   obtain⟨b',k',e',hk',eh⟩:=y1.key r hr
   rw[ec] at e'
   cases e'
   have ek:=hk'.inj hc
   subst ek
   obtain⟨m,e1,e2⟩:=y1.tab.reach r hr
   rw[eh] at e1 e2
   rcases Nat.lt_trichotomy m n with z | z | z
   ·obtain⟨r',hr',e3,e4⟩:=hocc m z
    have:r'=r:=by
     have nd:=y1.tab.nodup
     have e5:r'.1=r.1:=e3.trans e1
     obtain⟨i,hi,ei⟩:=List.mem_iff_getElem.mp hr'
     obtain⟨j,hj,ej⟩:=List.mem_iff_getElem.mp hr
     have hij:i=j:=by
      rcases Nat.lt_trichotomy i j with q | q | q
      ·have:=List.pairwise_iff_getElem.mp y1.tab.rise i j hi hj q
       rw[ei,ej] at this; lia
      ·exact q
      ·have:=List.pairwise_iff_getElem.mp y1.tab.rise j i hj hi q
       rw[ei,ej] at this; lia
     subst hij
     exact ei.symm.trans ej
    subst this
    exact e4 c ec hc
   ·subst z
    exact hemp ⟨r,hr,e1.symm⟩
   ·obtain⟨r',hr',e3⟩:=e2 n z
    exact hemp ⟨r',hr',e3⟩
  generalize hh:tupleKeyHash (intKind prog w) kx=hx at*
  generalize hj:(advs t.mask (st0 t.mask hx) n).j=j at*
  have hjl:j<=t.mask:=by rw[<- hj]; exact zay t.mask hx n
  have tab2:TabW (t.put j).1 (insertAt es (t.put j).2 (hx,Value.ref b)) (ins L (t.put j).2 (j,hx,Value.ref b)):=by
   have:=y1.tab.put (x:=Value.ref b) (h:=hx) (n:=n) (fun m hm=>by
    obtain⟨r,hr,e,_⟩:=hocc m hm
    exact⟨r,hr,e⟩) (by rw[hj]; exact hemp) (by rw[hj]; exact hjl)
   rw[hj] at this
   exact this
  have hlp:(ins L (t.put j).2 (j,hx,Value.ref b)).length=L.length+1:=by
   unfold ins
   rw[List.length_append,List.length_cons,List.length_take,List.length_drop]
   lia
  have hmk:(t.put j).1.mask=t.mask:=rfl
  have hpl:(t.put j).1.plain=true:=y1.plain
  have hperm:((ins L (t.put j).2 (j,hx,Value.ref b)).map (·.2)).Perm ((hx,Value.ref b)::L.map (·.2)):=by
   unfold ins
   rw[List.map_append,List.map_cons]
   refine List.perm_middle.trans ?_
   refine List.Perm.cons _ ?_
   rw[<- List.map_append,List.take_append_drop]
  generalize hT2:(t.put j).1=t2 at*
  generalize hL2:ins L (t.put j).2 (j,hx,Value.ref b)=L2 at*
  generalize hE2:insertAt es (t.put j).2 (hx,Value.ref b)=es2 at*
  have hput:t.put j=(t2,(t.put j).2):=by rw[<- hT2]
  rw[hpl]
  simp only[if_true]
  refine wpAny_bind (z48 hk1 ?_)
  simp only[if_true]
  have hsz2:es2.size=L.length+1:=by rw[tab2.size.2.1,hlp]
  refine wpAny_bind (wpAny_storeSet_of y1.get y1.data ?_ (by rw[hsz2]; exact fits_of_scanBound (by unfold scanBound; lia)))
  have g2:=z7t y1.get y1.data es2 t2
  have sb2:=Heap.SameBut.update s1.heap a (Obj.putSet es2 t2)
  have hled2:t2.led=t.led:=by rw[<- hT2]; rfl
  have key2:∀ h',Heap.SameBut a s1.heap h'->∀ r:Int × Value,r∈(hx,Value.ref b)::L.map (·.2)->∃ b' k,r.2 = .ref b'/\TK prog w h' k b'/\r.1=tupleKeyHash (intKind prog w) k:=fun h' sb r hr=>by
   rcases List.mem_cons.mp hr with rfl | hr
   ·exact⟨b,kx,rfl,hk1.stay y1.get y1.data sb,hh.symm⟩
   ·obtain⟨r',hr',rfl⟩:=List.mem_map.mp hr
    obtain⟨b',k',e',hk',eh⟩:=y1.key r' hr'
    exact⟨b',k',e',hk'.stay y1.get y1.data sb,eh⟩
  have fin:∀ h' L',Heap.SameBut a s1.heap h'->zbS prog w h' a L'->(L'.map (·.2)).Perm ((hx,.ref b)::L.map (·.2))->Q true { s1 with heap:=h' }:=fun h' L' sb ok pm=>by
   rw[<- hs1] at sb habs ⊢
   exact hnew habs h' _ L' sb ok pm
  have h7:7<=t.mask:=by
   obtain⟨k,hk3,e⟩:=y1.tab.pow
   have:2 ^ 3<=2 ^ k:=Nat.pow_le_pow_right (by decide) hk3
   lia
  have at2:z8s prog w (s1.heap.update a (Obj.putSet es2 t2)) a L2 { o with data :=.set es2 (ep+1) t2 } es2 (ep+1) t2:=by
   refine⟨g2,y1.ex,rfl,tab2,?_,?_,hpl,?_,fun r hr => ?_⟩
   ·rw[hlp,hmk]; lia
   ·rw[hmk]; exact hmask
   ·rw[hled2]; exact y1.led
   ·obtain⟨b',k',e',hk',eh⟩:=key2 _ sb2 r.2 (hperm.mem_iff.mp (List.mem_map.mpr ⟨r,hr,rfl⟩))
    exact⟨b',k',e',hk',eh⟩
  have hfill:t2.fill=L.length+1:=by rw[tab2.size.2.2,hlp]
  by_cases htf:t2.tooFull=true
  ·rw[htf]
   simp only[Bool.not_false,Bool.and_self,if_true]
   obtain⟨k,hk1',hk3,hk4,hk5⟩:=z5R (n:=SetTable.grown (es.size+1)) (by
    have:es.size=L.length:=y1.tab.size.2.1
    unfold SetTable.grown
    rw[this,if_neg (by lia)]
    exact Nat.lt_of_lt_of_le (show (L.length+1)*4 < 8192 by lia) (by decide))
   have hgr:SetTable.grown (es.size+1)=(L.length+1)*4:=by
    have:es.size=L.length:=y1.tab.size.2.1
    unfold SetTable.grown
    rw[this,if_neg (by lia)]
   have hk6:2 ^ k<=8192:=by
    rcases hk5 with z | z
    ·subst z; decide
    ·rw[hgr] at z
     rcases Nat.lt_or_ge k 14 with y | y
     ·exact Nat.pow_le_pow_right (by decide) (show k<=13 by lia)
     ·have:=Nat.pow_le_pow_right (show 0 < 2 by decide) y
      have:(2:Nat) ^ 14=16384:=by decide
      lia
   have hmk1:2 ^ k - 1+1=2 ^ k:=Nat.sub_add_cancel (Nat.one_le_two_pow)
   obtain⟨t3,z1V,L3,hl,m1,m2,m3,m4,m5,m6,tab3,pm3⟩:=zeF (es:=es2) (mask:=2 ^ k - 1) (finger:=t2.finger) (moves:=t2.movedTo (2 ^ k - 1)) (led:=t2.led) (plain:=t2.plain) hmk1 hk3 (by rw[hsz2,hmk1]; lia)
   unfold setRelay
   refine wpAny_bind (wpAny_bind (wpAny_setState_of at2.get at2.data at2.fits ?_))
   dsimp only
   rw[hk1']
   rw[if_neg (show ¬ 2 ^ k > sizeLine by rw[sizeLine_eq]; lia)]
   try refine wpAny_bind (wpAny_pure ?_)
   have hrl:t2.relaid (es2.map (·.1)) (SetTable.grown (es.size+1))=some (t3,z1V):=by
    unfold SetTable.relaid
    rw[hk1']
    exact hl
   rw[hrl]
   refine wpAny_bind ?_
   show wpAny _ _ (if (((z1V.filterMap (es2[·]?)).size != es2.size)=true) then _ else _) _ _ _
   rw[if_neg (by rw[m6]; simp)]
   refine wpAny_pure ?_
   dsimp only
   generalize hE3:z1V.filterMap (es2[·]?)=es3 at*
   have hsz3:es3.size=L.length+1:=by rw[m6,hsz2]
   have hl3:L3.length=L.length+1:=by rw[<- tab3.size.2.1,hsz3]
   refine wpAny_storeSet_of at2.get at2.data ?_ (by rw[hsz3]; exact fits_of_scanBound (by unfold scanBound; lia))
   have g3:=z7t at2.get at2.data es3 t3
   have sb3:=sb2.trans (Heap.SameBut.update (s1.heap.update a (Obj.putSet es2 t2)) a (Obj.putSet es3 t3))
   have e3:es3.toList=L3.map (·.2):=by rw[tab3.es]
   have e2':es2.toList=L2.map (·.2):=by rw[tab2.es]
   have pm:(L3.map (·.2)).Perm ((hx,Value.ref b)::L.map (·.2)):=by
    rw[e3,e2'] at pm3
    exact pm3.trans hperm
   refine wpAny_pure (fin _ L3 sb3 ⟨_,_,_,_,⟨g3,y1.ex,rfl,tab3,?_,?_,m5.trans hpl,?_,fun r hr => ?_⟩,?_⟩ pm)
   ·rw[hl3,m1]; lia
   ·rw[m1]; lia
   ·rw[m4,hled2]; exact y1.led
   ·obtain⟨b',k',e',hk',eh⟩:=key2 _ sb3 r.2 (pm.mem_iff.mp (List.mem_map.mpr ⟨r,hr,rfl⟩))
    exact⟨b',k',e',hk',eh⟩
   ·rw[hl3,m1]; lia
  ·have htf':t2.tooFull=false:=by simpa using htf
   rw[htf']
   simp only[Bool.and_false,Bool.false_eq_true,if_false]
   refine wpAny_pure (fin _ L2 sb2 ⟨_,_,_,_,at2,?_⟩ hperm)
   unfold SetTable.tooFull at htf'
   rw[hfill] at htf'
   rw[hlp]
   have:=of_decide_eq_false htf'
   lia
end
inductive Two {α β:Type}(R:α->β->Prop):List α->List β->Prop
 | nil:Two R [] []
 | cons {a b l m}:R a b->Two R l m->Two R (a::l) (b::m)
def Two.imp {α β:Type}{R R':α->β->Prop}(i:∀ a b,R a b->R' a b){l:List α}{m:List β}(h:Two R l m):Two R' l m:=by
 induction h with
 | nil=>exact .nil
 | cons h _ ih=>exact .cons (i _ _ h) ih
def Two.perm {α β:Type}{R:α->β->Prop}{l l':List α}(p:l.Perm l'):∀ {m:List β},Two R l m->∃ m',m.Perm m'/\Two R l' m':=by
 induction p with
 | nil=>intro m h; exact⟨m,List.Perm.refl _,h⟩
 | cons x _ ih=>
  intro m h
  cases h with
  | cons h1 h2=>
   obtain⟨m',p',h'⟩:=ih h2
   exact⟨_::m',p'.cons _,.cons h1 h'⟩
 | swap x y l=>
  intro m h
  cases h with
  | cons h1 h2=>
   cases h2 with
   | cons h3 h4=>exact⟨_,List.Perm.swap _ _ _,.cons h3 (.cons h1 h4)⟩
 | trans _ _ ih1 ih2=>
  intro m h
  obtain⟨m',p',h'⟩:=ih1 h
  obtain⟨m'',p'',h''⟩:=ih2 h'
  exact⟨m'',p'.trans p'',h''⟩
def Two.mem_left {α β:Type}{R:α->β->Prop}{l:List α}{m:List β}(h:Two R l m){a:α}(ha:a∈l):∃ b∈m,R a b:=by
 induction h with
 | nil=>simp at ha
 | cons h _ ih=>
  rcases List.mem_cons.mp ha with rfl | ha
  ·exact⟨_,by simp,h⟩
  ·obtain⟨b,hb,r⟩:=ih ha
   exact⟨b,by simp[hb],r⟩
def Two.mem_right {α β:Type}{R:α->β->Prop}{l:List α}{m:List β}(h:Two R l m){b:β}(hb:b∈m):∃ a∈l,R a b:=by
 induction h with
 | nil=>simp at hb
 | cons h _ ih=>
  rcases List.mem_cons.mp hb with rfl | hb
  ·exact⟨_,by simp,h⟩
  ·obtain⟨a,ha,r⟩:=ih hb
   exact⟨a,by simp[ha],r⟩
section
variable {prog:Program}{w:World}
def IsK (prog:Program)(w:World)(M:Value->Prop)(h:Heap)(v:Value)(k:List Int):Prop:=M v/\∃ b,v = .ref b/\TK prog w h k b
structure SetK (prog:Program)(w:World)(M:Value->Prop)(h:Heap)(a:Addr)(kl:List (List Int)):Prop where
 ex:∃ L,zbS prog w h a L/\Two (IsK prog w M h) (L.map (·.2.2)) kl
 nd:kl.Nodup
def SetK.len {M:Value->Prop}{h:Heap}{a:Addr}{kl:List (List Int)}(x:SetK prog w M h a kl):∃ L,zbS prog w h a L/\Two (IsK prog w M h) (L.map (·.2.2)) kl/\L.length=kl.length:=by
 obtain⟨L,h1,h2⟩:=x.ex
 refine⟨L,h1,h2,?_⟩
 have:∀ {l:List Value}{m:List (List Int)},Two (IsK prog w M h) l m->l.length=m.length:=by
  intro l m t
  induction t with
  | nil=>rfl
  | cons _ _ ih=>simp[ih]
 have:=this h2
 simpa using this
def SetK.stay {M:Value->Prop}{h h':Heap}{a:Addr}{kl:List (List Int)}{wr:List Addr}(x:SetK prog w M h a kl)(k:∀ b o,b ∉ wr->h.get? b=some o->h'.get? b=some o)(ha:a ∉ wr)(hw:∀ b∈wr,∀ ks,¬ TK prog w h ks b):SetK prog w M h' a kl:=by
 obtain⟨L,⟨o,es,ep,t,y,hf⟩,h2⟩:=x.ex
 have tk:∀ {ks:List Int}{b:Addr},TK prog w h ks b->TK prog w h' ks b:=fun {ks b} z=>by
  have hb:b ∉ wr:=fun q=>hw b q ks z
  obtain⟨o,it,n,e,r⟩:=z
  exact⟨o,it,n,k _ _ hb e,r⟩
 refine⟨⟨L,⟨o,es,ep,t,⟨k _ _ ha y.get,y.ex,y.data,y.tab,y.room,y.small,y.plain,y.led,fun r hr => ?_⟩,hf⟩,h2.imp fun a b ⟨m,c,e,z⟩=>⟨m,c,e,tk z⟩⟩,x.nd⟩
 obtain⟨b,ks,e,z,q⟩:=y.key r hr
 exact⟨b,ks,e,tk z,q⟩
variable {A:Around}{R:Result->Shared->Prop}{I:Addr}{fp wr:List Addr}{G:Array GenState->Array GenState->Prop}{n:Nat}{P:Nat->Value->Prop}{St:Nat->Shared->Prop}
def z5e {M:Value->Prop}(W:WalksS prog w A.in1 I fp wr G n P St)(S:Addr)(hSf:S ∉ fp)(hu:A.in1.units < cLine)(ks:Nat->List Int)(hn:n<=2040)(hw:∀ i s,St i s->∀ b∈wr,∀ k,¬ TK prog w s.heap k b)(hM:∀ j v,P j v->M v):
  ∀ (k i:Nat) (s:Shared) (kl:List (List Int)),n - i=k->i<=n->St i s->(∀ j v,P j v->∃ b,v = .ref b/\TK prog w s.heap (ks j) b)->
   SetK prog w M s.heap S kl->kl.length<=i->(∀ x,x∈kl↔∃ j,j < i/\ks j=x)->
   (∀ s' kl',Moved (S::wr) G s s'->SetK prog w M s'.heap S kl'->kl'.length<=n->(∀ x,x∈kl'↔∃ j,j < n/\ks j=x)->R (.ok (.ret .none)) s')->
   codeAny (model prog w) A (.builtin "set.update.loop" ⟨[.ref S,.ref I],[]⟩) R s:=by
 have hSw:S ∉ wr:=fun h=>hSf (W.sub _ h)
 have hsub:∀ b∈wr,b∈S::wr:=fun b hb=>List.mem_cons_of_mem _ hb
 intro k
 induction k with
 | zero=>
  intro i s kl hk hi hst hP hS hl hm hR
  have hin:i=n:=by lia
  subst hin
  refine codeAny_builtin F.entry_set_update_loop ?_
  rw[Around.under_plainId F.plain_set_update_loop _]
  show wpAny _ A.in1 (pyNext (.ref I) >>= _) _ _ s
  refine wpAny_bind (W.done s _ _ hst fun s' hmv => ?_)
  show wpAny _ A.in1 (ret Value.none) _ _ s'
  exact wpAny_pure (hR s' kl (hmv.mono hsub) (hS.stay hmv.heap hSw (hw _ _ hst)) hl hm)
 | succ k ih=>
  intro i s kl hk hi hst hP hS hl hm hR
  have hlt:i < n:=by lia
  refine codeAny_builtin F.entry_set_update_loop ?_
  rw[Around.under_plainId F.plain_set_update_loop _]
  show wpAny _ A.in1 (pyNext (.ref I) >>= _) _ _ s
  refine wpAny_bind (W.item i s _ _ hlt hst fun v s' hPv hst' hmv => ?_)
  have hS':=hS.stay hmv.heap hSw (hw _ _ hst)
  have hP':∀ j v,P j v->∃ b,v = .ref b/\TK prog w s'.heap (ks j) b:=fun j u hu'=>by
   obtain⟨b,e,z⟩:=hP j u hu'
   have hb:b ∉ wr:=fun q=>hw _ _ hst b q _ z
   obtain⟨o,it,m,e',r⟩:=z
   exact⟨b,e,o,it,m,hmv.heap _ _ hb e',r⟩
  obtain⟨b,rfl,hkb⟩:=hP' i v hPv
  show wpAny _ A.in1 (holding [Value.ref b] (setAdd S (.ref b)) >>= _) _ _ s'
  refine wpAny_bind (wpAny_holding ?_)
  obtain⟨L,hL,h2,hlen⟩:=hS'.len
  have grow:∀ (h':Heap) (tk:Nat),s'.toks<=tk->Heap.SameBut S s'.heap h'->St (i+1) { s' with heap:=h',toks:=tk }/\(∀ j v,P j v->∃ b,v = .ref b/\TK prog w h' (ks j) b)/\∀ s'',Moved (S::wr) G { s' with heap:=h',toks:=tk } s''->Moved (S::wr) G s s'':=fun h' tk htk hsb=>by
   obtain⟨o,es,ep,t,y,_⟩:=hL.ex
   refine⟨W.frame _ s' _ _ hst' htk fun c hc o' e => ?_,fun j u hu' => ?_,fun s'' hm'' => ?_⟩
   ·rw[hsb.2 c (fun z:c=S=>hSf (by rw[<- z]; exact hc))]; exact e
   ·obtain⟨c,e,z⟩:=hP' j u hu'
    exact⟨c,e,z.stay y.get y.data hsb⟩
   ·refine Moved.trans W.gtrans ((hmv.mono hsub).then_heap htk fun c o' hc e => ?_) hm''
    rw[hsb.2 c (fun z:c=S=>hc (by rw[z]; exact List.mem_cons_self))]; exact e
  refine wpAny_with_toks (Nat.le_refl s'.toks) ?_
  refine z55 hL hu hkb (by lia) ?_ ?_
  ·intro hex tk htk
   obtain⟨g1,g2,g3⟩:=grow s'.heap tk htk (Heap.SameBut.refl _ _)
   refine wpAny_pure ⟨plainId_quiet F.plain_set_update_loop _,ih (i+1) _ kl (by lia) hlt g1 g2 hS' (by lia) (fun x => ?_) fun s'' kl' hm''=>hR s'' kl' (g3 s'' hm'')⟩
   rw[hm x]
   constructor
   ·rintro⟨j,hj,e⟩
    exact⟨j,by lia,e⟩
   ·rintro⟨j,hj,e⟩
    rcases Nat.lt_or_ge j i with z | z
    ·exact⟨j,z,e⟩
    ·have:j=i:=by lia
     subst this
     obtain⟨r,hr,c,ec,hc⟩:=hex
     obtain⟨y,hy,_,c',ec',hc'⟩:=h2.mem_left (List.mem_map.mpr ⟨r,hr,rfl⟩)
     rw[ec] at ec'
     cases ec'
     have:=hc.inj hc'
     rw[<- e,this]
     exact(hm y).mp hy
  ·intro habs h' tk L' hsb hok pm htk
   obtain⟨g1,g2,g3⟩:=grow h' tk htk hsb
   obtain⟨o,es,ep,t,y,_⟩:=hL.ex
   have t1:Two (IsK prog w M h') (Value.ref b::L.map (·.2.2)) (ks i::kl) :=.cons ⟨hM i _ hPv,b,rfl,hkb.stay y.get y.data hsb⟩ (h2.imp fun a k ⟨m,c,e,z⟩=>⟨m,c,e,z.stay y.get y.data hsb⟩)
   have pm2:(Value.ref b::L.map (·.2.2)).Perm (L'.map (·.2.2)):=by
    have:=pm.symm.map (·.2)
    simpa[Function.comp_def] using this
   obtain⟨kl',p',t'⟩:=t1.perm pm2
   have hnk:ks i ∉ kl:=fun z=>by
    obtain⟨a',ha',_,c,e,z'⟩:=h2.mem_right z
    obtain⟨r,hr,rfl⟩:=List.mem_map.mp ha'
    exact habs ⟨r,hr,c,e,z'⟩
   have nd':kl'.Nodup:=p'.nodup_iff.mp (List.nodup_cons.mpr ⟨hnk,hS.nd⟩)
   have hl':kl'.length=kl.length+1:=by rw[<- p'.length_eq]; rfl
   refine wpAny_pure ⟨plainId_quiet F.plain_set_update_loop _,ih (i+1) _ kl' (by lia) hlt g1 g2 ⟨⟨L',hok,t'⟩,nd'⟩ (by lia) (fun x => ?_) fun s'' kl'' hm''=>hR s'' kl'' (g3 s'' hm'')⟩
   rw[<- p'.mem_iff,List.mem_cons,hm x]
   constructor
   ·rintro(e | ⟨j,hj,e⟩)
    ·exact⟨i,by lia,e.symm⟩
    ·exact⟨j,by lia,e⟩
   ·rintro⟨j,hj,e⟩
    rcases Nat.lt_or_ge j i with z | z
    ·exact .inr ⟨j,z,e⟩
    ·have:j=i:=by lia
     subst this
     exact .inl e.symm
end
section
variable {prog:Program}{w:World}{A:Around}{E:Value->Shared->Prop}{s:Shared}
def z6E:isSubtype (.type "tuple") (.type "set")=pure false:=by rw[isSubtype_type]; kernel_rfl
def z41:isSubtype (.type "tuple") (.type "frozenset")=pure false:=by rw[isSubtype_type]; kernel_rfl
abbrev led0 (w:World):Bool := !w.params.followText "set-order"
def z4t (a:Value){Q₁:Value->Shared->Prop}
  (h:Q₁ (.ref s.heap.objs.size) { s with heap:=s.heap.push { cls :=.type "set",dict:=none,data :=.set #[] 0 (.fresh 0 0 (led0 w)) } }):
  codeAny (model prog w) A (.call (.builtin "set.__new__") ⟨[.type "set",a],[]⟩) (wants Q₁ E) s:=by
 refine codeAny_of_tree ?_
 show wpAny _ A.in1 (do checkBuiltinCall "set.__new__" ⟨[.type "set",a],[]⟩; again (.builtin "set.__new__" ⟨[.type "set",a],[]⟩)) _ _ s
 refine wpAny_bind (wpAny_of_eq (F.newCall_set_1 a) (wpAny_pure ⟨plainId_quiet F.plain_set_new _,codeAny_builtin F.entry_set_new ?_⟩))
 rw[Around.under_plainId F.plain_set_new _]
 unfold Builtin.«set.__new__» Builtin.Frozenset.newClass
 have hsub:=sub_set_self
 obtain⟨hp,g,d,tk,os⟩:=s
 dsimp only
 wp_walk
 refine wpAny_askSetting (wpAny_pure ?_)
 dsimp only
 simp only[newObj]
 refine wpAny_bind (wpAny_alloc (wpAny_pure ?_))
 exact wpAny_pure h
def z6f {M:Value->Prop}{h:Heap}{a:Addr}(e:h.get? a=some { cls :=.type "set",dict:=none,data :=.set #[] 0 (.fresh 0 0 (led0 w)) }):SetK prog w M h a []:=by
 refine⟨⟨[],⟨_, #[],0,_,⟨e,⟨rfl,rfl,rfl⟩,rfl,⟨rfl,rfl,.nil,(fun r hr=>by simp at hr),rfl,⟨3,Nat.le_refl _,rfl⟩,(fun r hr=>by simp at hr)⟩,(by show 0<=7; decide),(by show 7<=8191; decide),rfl,rfl,(fun r hr=>by simp at hr)⟩,(by show 0*5 < 7*3; decide)⟩,.nil⟩,.nil⟩
def z7g {M:Value->Prop}{l:Addr}{z05:Array Value}{ks:List (List Int)}{Q:Value->Shared->Prop}
  (hh:A.handled=none) (hu:A.units+8 < cLine) (hl:s.heap.IsList l z05) (hi:Two (IsK prog w M s.heap) z05.toList ks) (hb:z05.size<=2040)
  (h:∀ (h':Heap) (tk:Nat) (kl:List (List Int)),SetK prog w M h' s.heap.objs.size kl->kl.length<=z05.size->(∀ x,x∈kl↔x∈ks)->
   (∀ b o,b < s.heap.objs.size->s.heap.get? b=some o->h'.get? b=some o)->Q (.ref s.heap.objs.size) { s with heap:=h',toks:=tk }):
  wpAny (model prog w) A (call (.type "set") [.ref l]) Q E s:=by
 obtain⟨c,tl,hmro⟩:=F.called_set.mro
 have hmade:=F.called_set.made
 have hsub:=F.called_set.sub
 refine wpAny_call (codeAny_of_tree ?_)
 show wpAny _ _ (callAny (.type "set") _) _ _ _
 refine wpAny_pure ⟨Code.quiet_builtin _ (by decide +kernel),codeAny_builtin F.entry_type_call ?_⟩
 rw[Around.under_plain (weight_type_call_type "set" [.ref l] []) rfl]
 have h1:=F.called_set.notType
 have h2:=F.called_set.canCreate
 have hct:=F.typeCall_set_1 (.ref l)
 repeat (any_goals (first | assumption | wp_step))
 refine codeAny_mono (z4t (.ref l) (E:=E) (Q₁:=fun obj s₁=>obj = .ref s.heap.objs.size/\s₁={ s with heap:=s.heap.push { cls :=.type "set",dict:=none,data :=.set #[] 0 (.fresh 0 0 (led0 w)) } }) ⟨rfl,rfl⟩) fun r s₁ hr => ?_
 cases r with
 | error e=>exact hr
 | ok fl=>
  cases fl with
  | ret obj=>
   obtain⟨rfl,rfl⟩:=hr
   generalize hled:led0 w=led at*
   have hS:(s.heap.push { cls :=.type "set",dict:=none,data :=.set #[] 0 (.fresh 0 0 led) }).get? s.heap.objs.size=some { cls :=.type "set",dict:=none,data :=.set #[] 0 (.fresh 0 0 led) }:=Heap.get?_push_size _ rfl
   have hT:Shared.TypeIs { s with heap:=s.heap.push { cls :=.type "set",dict:=none,data :=.set #[] 0 (.fresh 0 0 led) } } (.ref s.heap.objs.size) "set":=⟨_,hS,rfl⟩
   have hli:=F.called_set.init.lookup
   have hbi:=F.called_set.init.bind (.ref s.heap.objs.size)
   repeat (any_goals (first | assumption | wp_step))
   refine codeAny_mono (codeAny_call_builtin (R:=wants (fun r s₂=>r = .none/\∃ h' tk kl,s₂={ s with heap:=h',toks:=tk }/\SetK prog w M h' s.heap.objs.size kl/\kl.length<=z05.size/\(∀ x,x∈kl↔x∈ks)/\
     (∀ b o,b < s.heap.objs.size->s.heap.get? b=some o->h'.get? b=some o)) E) F.called_set.init.plain F.entry_set_init (check_set_init_1 hT ?_)) fun r₂ s₂ hr₂ => ?_
   ·obtain⟨ol,hol,hcl,nl,hdl⟩:=hl
    obtain⟨ocls,odict,odata,oslots⟩:=ol
    simp only at hcl hdl
    subst hcl; subst hdl
    have hol':(s.heap.push { cls :=.type "set",dict:=none,data :=.set #[] 0 (.fresh 0 0 led) }).get? l=some { cls :=.type "list",dict:=odict,data :=.seq z05 nl,slots:=oslots }:=Heap.get?_push_of_some _ hol
    have hsls:=F.sub_list_set
    have hslf:=F.sub_list_frozenset
    have hne:(Value.type "list" == Value.type "dict")=false:=by decide
    have hl1:(s.heap.push { cls :=.type "set",dict:=none,data :=.set #[] 0 (.fresh 0 0 led) }).IsList l z05:=⟨_,hol',rfl,nl,rfl⟩
    unfold Builtin.«set.__init__» noKeywords Builtin.Frozenset.updateFrom
    generalize hPI:pyIter=PI
    wp_walk
    subst hPI
    refine wpAny_pyIter_list hl1 ?_
    refine wpAny_bind (wpAny_runValue ?_)
    have hlS:l < s.heap.objs.size:=Heap.lt_size hol
    have hh3:A.in1.in1.in1.handled=none:=by simp[hh]
    have hneI:l≠(s.heap.push { cls :=.type "set",dict:=none,data :=.set #[] 0 (.fresh 0 0 led) }).objs.size:=by
     rw[Heap.size_push]; exact Nat.ne_of_lt (Nat.lt_succ_of_lt hlS)
    have hSf:s.heap.objs.size ∉ [(s.heap.push { cls :=.type "set",dict:=none,data :=.set #[] 0 (.fresh 0 0 led) }).objs.size,l]:=by
     rw[Heap.size_push]; simp only[List.mem_cons,List.mem_singleton,List.not_mem_nil,or_false,not_or]
     exact⟨Nat.ne_of_lt (Nat.lt_succ_self _),Nat.ne_of_gt hlS⟩
    have hkat:∀ (i:Nat) (v:Value),z05[i]? = some v->M v/\∃ b,v = .ref b/\TK prog w s.heap (ks.getD i []) b:=fun i v hv=>by
     have hv':z05.toList[i]? = some v:=by simpa using hv
     generalize z05.toList=il at hi hv'
     clear hv h
     induction hi generalizing i with
     | nil=>simp at hv'
     | cons h0 _ ih=>
      cases i with
      | zero=>
       simp at hv'
       subst hv'
       exact h0
      | succ i=>exact ih i (by simpa using hv')
    have hks:ks.length=z05.size:=by
     have:∀ {l:List Value}{m:List (List Int)},Two (IsK prog w M s.heap) l m->l.length=m.length:=by
      intro l m t
      induction t with
      | nil=>rfl
      | cons _ _ ih=>simp[ih]
     have:=this hi
     simpa using this.symm
    refine z5e ((Walks.list hh3 _ l hneI z05).toS) s.heap.objs.size hSf (by simp; lia) (fun i=>ks.getD i []) hb ?hw (fun j v hv=>(hkat j v hv).1) (z05.size - 0) 0 _ [] (by lia) (Nat.zero_le _)
     ⟨⟨_,Heap.get?_push_size _ rfl,rfl,rfl⟩,?hl2⟩ (fun j v hv => ?hP) ?hS0 (Nat.zero_le _) (fun x=>by simp) ?hR
    case hl2=>exact⟨_,Heap.get?_push_of_some _ hol',rfl,nl,rfl⟩
    case hw=>
     intro i s0 hst b hb' k z
     rw[List.mem_singleton.mp hb'] at z
     obtain⟨⟨o1,e1,c1,_⟩,_⟩:=hst
     obtain⟨o2,_,_,e2,c2,_⟩:=z
     rw[e1] at e2
     cases e2
     rw[c1] at c2
     injection c2 with c3
     exact absurd c3 (by decide)
    case hP=>
     obtain⟨_,b,e,o2,it,m,e2,r⟩:=hkat j v hv
     exact⟨b,e,o2,it,m,Heap.get?_push_of_some _ (Heap.get?_push_of_some _ e2),r⟩
    case hS0=>
     refine z6f (h:=(s.heap.push { cls :=.type "set",dict:=none,data :=.set #[] 0 (.fresh 0 0 led) }).push { cls :=.type "list_iterator",data :=.fields #[.ref l,.int 0 0] }) ?_
     rw[hled]
     exact Heap.get?_push_of_some _ hS
    case hR=>
     intro s' kl hm hS' hkl hmem
     obtain⟨h',g',d',tk',os'⟩:=s'
     have eg:g'=s.gens:=hm.gens
     have ed:d'=s.drawn:=hm.drawn
     have eo:os'=s.os:=hm.os
     subst eg; subst ed; subst eo
     show wpAny _ _ _ _ _ _
     refine wpAny_pure ?_
     show wpAny _ _ (ret Value.none) _ _ _
     refine wpAny_pure ⟨rfl,h',tk',kl,rfl,hS',hkl,fun x => ?_,fun b o hb e => ?_⟩
     ·rw[hmem x]
      constructor
      ·rintro⟨j,hj,e⟩
       have hj':j < ks.length:=by rw[hks]; exact hj
       rw[<- e]
       show ks.getD j []∈ks
       rw[List.getD_eq_getElem?_getD,List.getElem?_eq_getElem hj']
       exact List.getElem_mem hj'
      ·intro hx
       obtain⟨j,hj,e⟩:=List.mem_iff_getElem.mp hx
       refine⟨j,by rw[<- hks]; exact hj,?_⟩
       show ks.getD j []=x
       rw[List.getD_eq_getElem?_getD,List.getElem?_eq_getElem hj]
       exact e
     ·have hb1:b≠s.heap.objs.size:=Nat.ne_of_lt hb
      have hb2:b≠(s.heap.push { cls :=.type "set",dict:=none,data :=.set #[] 0 (.fresh 0 0 led) }).objs.size:=by
       rw[Heap.size_push]; exact Nat.ne_of_lt (Nat.lt_succ_of_lt hb)
      exact hm.heap b o (by simp only[List.mem_cons,List.mem_singleton,List.not_mem_nil,or_false,not_or]; exact⟨hb1,hb2⟩) (Heap.get?_push_of_some _ (Heap.get?_push_of_some _ e))
   ·cases r₂ with
    | error e=>exact hr₂
    | ok fl₂=>
     cases fl₂ with
     | ret r=>
      obtain⟨rfl,h',tk,kl,rfl,hS',hk1,hk2,hk'⟩:=hr₂
      repeat (any_goals (first | assumption | wp_step))
      exact h _ _ _ hS' hk1 hk2 hk'
     | _=>exact hr₂.elim
  | _=>exact hr.elim
def z68 {M:Value->Prop}{l:Addr}{z05:Array Value}{ks:List (List Int)}{Q:Value->Shared->Prop}
  (hh:A.handled=none) (hu:A.units+8 < cLine) (hl:s.heap.IsTuple l z05) (hi:Two (IsK prog w M s.heap) z05.toList ks) (hb:z05.size<=2040)
  (h:∀ (h':Heap) (tk:Nat) (kl:List (List Int)),SetK prog w M h' s.heap.objs.size kl->kl.length<=z05.size->(∀ x,x∈kl↔x∈ks)->
   (∀ b o,b < s.heap.objs.size->s.heap.get? b=some o->h'.get? b=some o)->Q (.ref s.heap.objs.size) { s with heap:=h',toks:=tk }):
  wpAny (model prog w) A (call (.type "set") [.ref l]) Q E s:=by
 obtain⟨c,tl,hmro⟩:=F.called_set.mro
 have hmade:=F.called_set.made
 have hsub:=F.called_set.sub
 refine wpAny_call (codeAny_of_tree ?_)
 show wpAny _ _ (callAny (.type "set") _) _ _ _
 refine wpAny_pure ⟨Code.quiet_builtin _ (by decide +kernel),codeAny_builtin F.entry_type_call ?_⟩
 rw[Around.under_plain (weight_type_call_type "set" [.ref l] []) rfl]
 have h1:=F.called_set.notType
 have h2:=F.called_set.canCreate
 have hct:=F.typeCall_set_1 (.ref l)
 repeat (any_goals (first | assumption | wp_step))
 refine codeAny_mono (z4t (.ref l) (E:=E) (Q₁:=fun obj s₁=>obj = .ref s.heap.objs.size/\s₁={ s with heap:=s.heap.push { cls :=.type "set",dict:=none,data :=.set #[] 0 (.fresh 0 0 (led0 w)) } }) ⟨rfl,rfl⟩) fun r s₁ hr => ?_
 cases r with
 | error e=>exact hr
 | ok fl=>
  cases fl with
  | ret obj=>
   obtain⟨rfl,rfl⟩:=hr
   generalize hled:led0 w=led at*
   have hS:(s.heap.push { cls :=.type "set",dict:=none,data :=.set #[] 0 (.fresh 0 0 led) }).get? s.heap.objs.size=some { cls :=.type "set",dict:=none,data :=.set #[] 0 (.fresh 0 0 led) }:=Heap.get?_push_size _ rfl
   have hT:Shared.TypeIs { s with heap:=s.heap.push { cls :=.type "set",dict:=none,data :=.set #[] 0 (.fresh 0 0 led) } } (.ref s.heap.objs.size) "set":=⟨_,hS,rfl⟩
   have hli:=F.called_set.init.lookup
   have hbi:=F.called_set.init.bind (.ref s.heap.objs.size)
   repeat (any_goals (first | assumption | wp_step))
   refine codeAny_mono (codeAny_call_builtin (R:=wants (fun r s₂=>r = .none/\∃ h' tk kl,s₂={ s with heap:=h',toks:=tk }/\SetK prog w M h' s.heap.objs.size kl/\kl.length<=z05.size/\(∀ x,x∈kl↔x∈ks)/\
     (∀ b o,b < s.heap.objs.size->s.heap.get? b=some o->h'.get? b=some o)) E) F.called_set.init.plain F.entry_set_init (check_set_init_1 hT ?_)) fun r₂ s₂ hr₂ => ?_
   ·obtain⟨ol,hol,hcl,nl,hdl⟩:=hl
    obtain⟨ocls,odict,odata,oslots⟩:=ol
    simp only at hcl hdl
    subst hcl; subst hdl
    have hol':(s.heap.push { cls :=.type "set",dict:=none,data :=.set #[] 0 (.fresh 0 0 led) }).get? l=some { cls :=.type "tuple",dict:=odict,data :=.seq z05 nl,slots:=oslots }:=Heap.get?_push_of_some _ hol
    have hsls:=z6E
    have hslf:=z41
    have hne:(Value.type "tuple" == Value.type "dict")=false:=by decide
    have hl1:(s.heap.push { cls :=.type "set",dict:=none,data :=.set #[] 0 (.fresh 0 0 led) }).IsTuple l z05:=⟨_,hol',rfl,nl,rfl⟩
    unfold Builtin.«set.__init__» noKeywords Builtin.Frozenset.updateFrom
    generalize hPI:pyIter=PI
    wp_walk
    subst hPI
    refine wpAny_pyIter_tuple hl1 ?_
    refine wpAny_bind (wpAny_runValue ?_)
    have hlS:l < s.heap.objs.size:=Heap.lt_size hol
    have hh3:A.in1.in1.in1.handled=none:=by simp[hh]
    have hneI:l≠(s.heap.push { cls :=.type "set",dict:=none,data :=.set #[] 0 (.fresh 0 0 led) }).objs.size:=by
     rw[Heap.size_push]; exact Nat.ne_of_lt (Nat.lt_succ_of_lt hlS)
    have hSf:s.heap.objs.size ∉ [(s.heap.push { cls :=.type "set",dict:=none,data :=.set #[] 0 (.fresh 0 0 led) }).objs.size,l]:=by
     rw[Heap.size_push]; simp only[List.mem_cons,List.mem_singleton,List.not_mem_nil,or_false,not_or]
     exact⟨Nat.ne_of_lt (Nat.lt_succ_self _),Nat.ne_of_gt hlS⟩
    have hkat:∀ (i:Nat) (v:Value),z05[i]? = some v->M v/\∃ b,v = .ref b/\TK prog w s.heap (ks.getD i []) b:=fun i v hv=>by
     have hv':z05.toList[i]? = some v:=by simpa using hv
     generalize z05.toList=il at hi hv'
     clear hv h
     induction hi generalizing i with
     | nil=>simp at hv'
     | cons h0 _ ih=>
      cases i with
      | zero=>
       simp at hv'
       subst hv'
       exact h0
      | succ i=>exact ih i (by simpa using hv')
    have hks:ks.length=z05.size:=by
     have:∀ {l:List Value}{m:List (List Int)},Two (IsK prog w M s.heap) l m->l.length=m.length:=by
      intro l m t
      induction t with
      | nil=>rfl
      | cons _ _ ih=>simp[ih]
     have:=this hi
     simpa using this.symm
    refine z5e ((Walks.tuple hh3 _ l hneI z05).toS) s.heap.objs.size hSf (by simp; lia) (fun i=>ks.getD i []) hb ?hw (fun j v hv=>(hkat j v hv).1) (z05.size - 0) 0 _ [] (by lia) (Nat.zero_le _)
     ⟨⟨_,Heap.get?_push_size _ rfl,rfl,rfl⟩,?hl2⟩ (fun j v hv => ?hP) ?hS0 (Nat.zero_le _) (fun x=>by simp) ?hR
    case hl2=>exact⟨_,Heap.get?_push_of_some _ hol',rfl,nl,rfl⟩
    case hw=>
     intro i s0 hst b hb' k z
     rw[List.mem_singleton.mp hb'] at z
     obtain⟨⟨o1,e1,c1,_⟩,_⟩:=hst
     obtain⟨o2,_,_,e2,c2,_⟩:=z
     rw[e1] at e2
     cases e2
     rw[c1] at c2
     injection c2 with c3
     exact absurd c3 (by decide)
    case hP=>
     obtain⟨_,b,e,o2,it,m,e2,r⟩:=hkat j v hv
     exact⟨b,e,o2,it,m,Heap.get?_push_of_some _ (Heap.get?_push_of_some _ e2),r⟩
    case hS0=>
     refine z6f (h:=(s.heap.push { cls :=.type "set",dict:=none,data :=.set #[] 0 (.fresh 0 0 led) }).push { cls :=.type "tuple_iterator",data :=.fields #[.ref l,.int 0 0] }) ?_
     rw[hled]
     exact Heap.get?_push_of_some _ hS
    case hR=>
     intro s' kl hm hS' hkl hmem
     obtain⟨h',g',d',tk',os'⟩:=s'
     have eg:g'=s.gens:=hm.gens
     have ed:d'=s.drawn:=hm.drawn
     have eo:os'=s.os:=hm.os
     subst eg; subst ed; subst eo
     show wpAny _ _ _ _ _ _
     refine wpAny_pure ?_
     show wpAny _ _ (ret Value.none) _ _ _
     refine wpAny_pure ⟨rfl,h',tk',kl,rfl,hS',hkl,fun x => ?_,fun b o hb e => ?_⟩
     ·rw[hmem x]
      constructor
      ·rintro⟨j,hj,e⟩
       have hj':j < ks.length:=by rw[hks]; exact hj
       rw[<- e]
       show ks.getD j []∈ks
       rw[List.getD_eq_getElem?_getD,List.getElem?_eq_getElem hj']
       exact List.getElem_mem hj'
      ·intro hx
       obtain⟨j,hj,e⟩:=List.mem_iff_getElem.mp hx
       refine⟨j,by rw[<- hks]; exact hj,?_⟩
       show ks.getD j []=x
       rw[List.getD_eq_getElem?_getD,List.getElem?_eq_getElem hj]
       exact e
     ·have hb1:b≠s.heap.objs.size:=Nat.ne_of_lt hb
      have hb2:b≠(s.heap.push { cls :=.type "set",dict:=none,data :=.set #[] 0 (.fresh 0 0 led) }).objs.size:=by
       rw[Heap.size_push]; exact Nat.ne_of_lt (Nat.lt_succ_of_lt hb)
      exact hm.heap b o (by simp only[List.mem_cons,List.mem_singleton,List.not_mem_nil,or_false,not_or]; exact⟨hb1,hb2⟩) (Heap.get?_push_of_some _ (Heap.get?_push_of_some _ e))
   ·cases r₂ with
    | error e=>exact hr₂
    | ok fl₂=>
     cases fl₂ with
     | ret r=>
      obtain⟨rfl,h',tk,kl,rfl,hS',hk1,hk2,hk'⟩:=hr₂
      repeat (any_goals (first | assumption | wp_step))
      exact h _ _ _ hS' hk1 hk2 hk'
     | _=>exact hr₂.elim
  | _=>exact hr.elim
end
end Tab
namespace Tim
open PySem PyProof.Rows
def z8U:Bool->Keyed->Array Keyed->Nat->Nat->Nat->StateT SortSt Sem (Option Nat):=sortPriv% PySem.Builtin.gallop
def z1L:Nat->StateT SortSt Sem Unit:=sortPriv% PySem.Builtin.setMinGallop
def zcP:Array Keyed->Array Keyed->StateT SortSt Sem (Array Keyed):=sortPriv% PySem.Builtin.mergeLo
def zcQ:Array Keyed->Array Keyed->StateT SortSt Sem (Array Keyed):=sortPriv% PySem.Builtin.mergeHi
abbrev z1M (st:SortSt)(g:Nat):SortSt:=SortSt.mk' (kindOf st) (arrOf st) (pendingOf st) g (failedOf st)
def z1x (g:Nat):z1L g=modify fun s=>z1M s g:=rfl
section
variable {M:Model}{A:Around}{E:Value->Shared->Prop}{s:Shared}{rk:Keyed->Nat}{κ:SortKind}{a₀:Array Keyed}
def Asks (M:Model)(A:Around)(s:Shared)(κ:SortKind)(a₀:Array Keyed)(rk:Keyed->Nat):Prop:=
 ∀ x y,x∈a₀.toList->y∈a₀.toList->∀ (Q:Bool->Shared->Prop) (E:Value->Shared->Prop),Q (decide (rk x < rk y)) s->wpAny M A (keyLt' κ x.1 y.1) Q E s
structure TB (κ:SortKind)(a₀:Array Keyed)(st:SortSt):Prop where
 kind:kindOf st=κ
 failed:failedOf st=none
 perm:(arrOf st).Perm a₀
def zgk {α:Type}{P:α->Prop}{G:Prop}(p:∀ x,P x)(u:(∀ x,P x)->G):G:=u p
def zcE {α β:Type}{H P:α->β->Prop}{G:Prop}(p:∀ x y,H x y->P x y)(u:(∀ x y,H x y->P x y)->G):G:=u p
def zgj {α:Type}{H P:α->Prop}{G:Prop}(p:∀ x,H x->P x)(u:(∀ x,H x->P x)->G):G:=u p
def z7k (hL:Asks M A s κ a₀ rk){st:SortSt}{x y:Keyed}{Q:Option Bool->SortSt->Prop}(hk:kindOf st=κ)(hx:x∈a₀.toList)(hy:y∈a₀.toList)(h:Q (some (decide (rk x < rk y))) st):
  wpS M A E s (lt' x y) Q st:=by
 rw[lt'_eq]
 refine wpS_bind (wpS_get ?_)
 rw[hk]
 refine wpS_bind (wpS_lift (wpAny_attempt (hL x y hx hy _ _ ⟨rfl,?_⟩)))
 exact wpS_pure h
def z0s {st:SortSt}{arr:Array Keyed}{i:Nat}{p:Keyed}{Q:Keyed->SortSt->Prop}(e:arr[i]? = some p)(h:Q p st):wpS M A E s (elem' arr i) Q st:=by
 rw[elem'_eq,e]
 exact wpS_pure h
def TB.size {st:SortSt}(h:TB κ a₀ st):(arrOf st).size=a₀.size:=h.perm.size_eq
def TB.mem {st:SortSt}(h:TB κ a₀ st){p:Keyed}(hp:p∈(arrOf st).toList):p∈a₀.toList:=(Array.perm_iff_toList_perm.mp h.perm).mem_iff.mp hp
def Rk (rk:Keyed->Nat)(xs:Array Keyed)(i:Nat):Nat:=match xs[i]? with
 | some p=>rk p
 | none=>0
def z0C {xs:Array Keyed}{i:Nat}{p:Keyed}(h:xs[i]? = some p):Rk rk xs i=rk p:=by unfold Rk; rw[h]
def z1q {xs ys:Array Keyed}{i j:Nat}(h:xs[i]? = ys[j]?):Rk rk xs i=Rk rk ys j:=by unfold Rk; rw[h]
def z1C {xs:Array Keyed}{i:Nat}(h:i < xs.size):∃ p,xs[i]? = some p/\p∈xs.toList:=⟨xs[i],getElem?_pos xs i h,by simp⟩
def TB.setArr {st:SortSt}(h:TB κ a₀ st){xs:Array Keyed}(hp:xs.Perm (arrOf st)):TB κ a₀ (setArr st xs):=⟨h.kind,h.failed,hp.trans h.perm⟩
def z4x (hL:Asks M A s κ a₀ rk){st:SortSt}{i j:Nat}{Q:Option Bool->SortSt->Prop}(hB:TB κ a₀ st)(hi:i < a₀.size)(hj:j < a₀.size)
  (h:Q (some (decide (Rk rk (arrOf st) i < Rk rk (arrOf st) j))) st):wpS M A E s (ltAt' i j) Q st:=by
 obtain⟨p,e1,m1⟩:=z1C (xs:=arrOf st) (i:=i) (by rw[hB.size]; exact hi)
 obtain⟨q,e2,m2⟩:=z1C (xs:=arrOf st) (i:=j) (by rw[hB.size]; exact hj)
 rw[z0C e1,z0C e2] at h
 rw[ltAt'_eq]
 refine wpS_bind (wpS_get ?_)
 exact wpS_bind (z0s e1 (wpS_bind (z0s e2 (z7k hL hB.kind (hB.mem m1) (hB.mem m2) h))))
def z6b (hL:Asks M A s κ a₀ rk){st:SortSt}{left:Bool}{key:Keyed}{arr:Array Keyed}{base n hint:Nat}{Q:Option Nat->SortSt->Prop}(hk:kindOf st=κ)(hkey:key∈a₀.toList)
  (harr:∀ p∈arr.toList,p∈a₀.toList) (hn:base+n<=arr.size) (hh:hint < n) (P:Nat->Bool)
  (hP:∀ i,i < n->P i=(if left then decide (Rk rk arr (base+i) < rk key) else !decide (rk key < Rk rk arr (base+i))))
  (hmono:∀ i j,i<=j->j < n->P j=true->P i=true)
  (h:∀ k,k<=n->(∀ i,i < k->P i=true)->(∀ i,k<=i->i < n->P i=false)->Q (some k) st):wpS M A E s (z8U left key arr base n hint) Q st:=by
 have ask:∀ (i:Nat) (R:Option Bool->SortSt->Prop),i < n->R (some (P i)) st->wpS M A E s (do
   let x <- elem' arr (base+i)
   if left=true then lt' x key else do
    let r <- lt' key x
    pure (r.map (!·))) R st:=by
  intro i R hi hr
  obtain⟨p,e1,m1⟩:=z1C (xs:=arr) (i:=base+i) (by omega)
  rw[hP i hi,z0C e1] at hr
  refine wpS_bind (z0s e1 ?_)
  cases left with
  | true=>exact z7k hL hk (harr _ m1) hkey hr
  | false=>exact wpS_bind (z7k hL hk hkey (harr _ m1) (wpS_pure hr))
 have hmonoF:∀ i j,i<=j->j < n->P i=false->P j=false:=fun i j hij hj hi=>by
  cases q:P j with
  | false=>rfl
  | true=>rw[hmono i j hij hj q] at hi; cases hi
 have last:∀ lo hi,lo<=hi->hi<=n->(∀ i,i < lo->P i=true)->(∀ i,hi<=i->i < n->P i=false)->∀ (f:Nat->Option (Option Nat) × Nat × Nat->StateT SortSt Sem (ForInStep (Option (Option Nat) × Nat × Nat))) (k:Option (Option Nat) × Nat × Nat->StateT SortSt Sem (Option Nat)),
   (∀ x l r (R:ForInStep (Option (Option Nat) × Nat × Nat)->SortSt->Prop),r<=n->(l>=r->R (.done (none,l,r)) st)->(l < r->P (l+(r - l) / 2)=true->R (.yield (none,l+(r - l) / 2+1,r)) st)->(l < r->P (l+(r - l) / 2)=false->R (.yield (none,l,l+(r - l) / 2)) st)->wpS M A E s (f x (none,l,r)) R st)->
   (∀ l r (R:Option Nat->SortSt->Prop),R (some r) st->wpS M A E s (k (none,l,r)) R st)->wpS M A E s (forIn [0:n] ((none,lo,hi):Option (Option Nat) × Nat × Nat) f >>= k) Q st:=by
  intro lo hi hlh hhn hlo hhi f k hf hk
  refine wpS_bind (wpS_mono (wpS_forRange (I:=fun x c st'=>st'=st/\∃ l r,c=(none,l,r)/\l<=r/\r<=n/\r - l<=n - x/\(∀ i,i < l->P i=true)/\(∀ i,r<=i->i < n->P i=false))
   (Q:=fun c st'=>st'=st/\∃ l,c=(none,l,l)/\l<=n/\(∀ i,i < l->P i=true)/\(∀ i,l<=i->i < n->P i=false)) ?step ?fin ⟨rfl,lo,hi,rfl,hlh,hhn,by omega,hlo,hhi⟩) ?post)
  case fin=>
   rintro c st' ⟨rfl,l,r,rfl,h1,h2,h3,h4,h5⟩
   have:l=r:=by omega
   subst this
   exact⟨rfl,l,rfl,h2,h4,h5⟩
  case post=>
   rintro c st' ⟨rfl,l,rfl,h2,h4,h5⟩
   exact hk _ _ _ (h l h2 h4 h5)
  case step=>
   rintro x c st' _ hx ⟨rfl,l,r,rfl,h1,h2,h3,h4,h5⟩
   refine hf x l r _ h2 (fun hge => ?_) (fun hlt q => ?_) (fun hlt q => ?_)
   ·have:l=r:=by omega
    subst this
    exact⟨rfl,l,rfl,h2,h4,h5⟩
   ·exact⟨rfl,_,_,rfl,by omega,h2,by omega,fun i hi=>hmono i _ (by omega) (by omega) q,h5⟩
   ·exact⟨rfl,_,_,rfl,by omega,by omega,by omega,h4,fun i h1 h2=>hmonoF _ i h1 h2 q⟩
 try dsimp only
 refine wpS_bind (ask hint _ hh ?_)
 cases q:P hint with
 | true=>
  simp only[if_true]
  refine wpS_bind (wpS_mono (wpS_forRange (I:=fun x c st'=>st'=st/\∃ la o,c=(none,la,o)/\la < o/\x < o/\hint+la < n/\P (hint+la)=true)
   (Q:=fun c st'=>st'=st/\∃ la o,c=(none,la,o)/\la < o/\hint+la < n/\P (hint+la)=true/\(o>=n - hint\/(hint+o < n/\P (hint+o)=false))) ?step ?fin ⟨rfl,0,1,rfl,by omega,by omega,by omega,q⟩) ?post)
  case post=>
   rintro c st' ⟨rfl,la,o,rfl,h1,h2,h3,h4⟩
   dsimp only
   refine last (hint+la+1) (hint+min o (n - hint)) (by omega) (by omega) (fun i hi=>hmono i (hint+la) (by omega) h2 h3) (fun i h5 h6 => ?_) _ _ ?_ ?_
   rotate_left
   ·intro x l r R hr ha hb hc
    dsimp only
    by_cases hge:l>=r
    ·rw[if_pos hge]; exact wpS_pure (ha hge)
    ·rw[if_neg hge]
     refine wpS_bind (ask (l+(r - l) / 2) _ (by omega) ?_)
     cases q9:P (l+(r - l) / 2) with
     | true=>simp only[if_true]; exact wpS_pure (hb (by omega) q9)
     | false=>simp only[Bool.false_eq_true,if_false]; exact wpS_pure (hc (by omega) q9)
   ·intro l r R hr
    exact wpS_pure hr
   rcases h4 with h4 | ⟨h4,h7⟩
   ·omega
   ·exact hmonoF (hint+o) i (by omega) h6 h7
  case fin=>
   rintro c st' ⟨rfl,la,o,rfl,h1,h0,h2,h3⟩
   exact⟨rfl,la,o,rfl,h1,h2,h3,.inl (by omega)⟩
  case step=>
   rintro x c st' _ hx ⟨rfl,la,o,rfl,h1,h0,h2,h3⟩
   dsimp only
   by_cases hge:o>=n - hint
   ·rw[if_pos hge]
    exact wpS_pure ⟨rfl,la,o,rfl,h1,h2,h3,.inl hge⟩
   ·rw[if_neg hge]
    refine wpS_bind (ask (hint+o) _ (by omega) ?_)
    cases q':P (hint+o) with
    | true=>
     simp only[Bool.not_true,Bool.false_eq_true,if_false]
     exact wpS_pure ⟨rfl,_,_,rfl,by omega,by omega,by omega,q'⟩
    | false=>
     simp only[Bool.not_false,if_true]
     exact wpS_pure ⟨rfl,la,o,rfl,h1,h2,h3,.inr ⟨by omega,q'⟩⟩
 | false=>
  simp only[Bool.false_eq_true,if_false]
  refine wpS_bind (wpS_mono (wpS_forRange (I:=fun x c st'=>st'=st/\∃ la o,c=(none,la,o)/\la < o/\x < o/\la<=hint/\P (hint - la)=false)
   (Q:=fun c st'=>st'=st/\∃ la o,c=(none,la,o)/\la < o/\la<=hint/\P (hint - la)=false/\(o>=hint+1\/(o<=hint/\P (hint - o)=true))) ?step ?fin ⟨rfl,0,1,rfl,by omega,by omega,by omega,q⟩) ?post)
  case post=>
   rintro c st' ⟨rfl,la,o,rfl,h1,h2,h3,h4⟩
   dsimp only
   refine last (hint+1 - min o (hint+1)) (hint - la) (by omega) (by omega) (fun i hi => ?_) (fun i h5 h6=>hmonoF (hint - la) i h5 h6 h3) _ _ ?_ ?_
   rotate_left
   ·intro x l r R hr ha hb hc
    dsimp only
    by_cases hge:l>=r
    ·rw[if_pos hge]; exact wpS_pure (ha hge)
    ·rw[if_neg hge]
     refine wpS_bind (ask (l+(r - l) / 2) _ (by omega) ?_)
     cases q9:P (l+(r - l) / 2) with
     | true=>simp only[if_true]; exact wpS_pure (hb (by omega) q9)
     | false=>simp only[Bool.false_eq_true,if_false]; exact wpS_pure (hc (by omega) q9)
   ·intro l r R hr
    exact wpS_pure hr
   rcases h4 with h4 | ⟨h4,h7⟩
   ·omega
   ·exact hmono i (hint - o) (by omega) (by omega) h7
  case fin=>
   rintro c st' ⟨rfl,la,o,rfl,h1,h0,h2,h3⟩
   exact⟨rfl,la,o,rfl,h1,h2,h3,.inl (by omega)⟩
  case step=>
   rintro x c st' _ hx ⟨rfl,la,o,rfl,h1,h0,h2,h3⟩
   dsimp only
   by_cases hge:o>=hint+1
   ·rw[if_pos hge]
    exact wpS_pure ⟨rfl,la,o,rfl,h1,h2,h3,.inl hge⟩
   ·rw[if_neg hge]
    refine wpS_bind (ask (hint - o) _ (by omega) ?_)
    cases q':P (hint - o) with
    | false=>
     simp only[Bool.false_eq_true,if_false]
     by_cases h9:2*o+1<=hint+1
     ·exact wpS_pure ⟨rfl,_,_,rfl,by omega,by omega,by omega,q'⟩
     ·exact wpS_pure ⟨rfl,_,_,rfl,by omega,by omega,by omega,q'⟩
    | true=>
     simp only[if_true]
     exact wpS_pure ⟨rfl,la,o,rfl,h1,h2,h3,.inr ⟨by omega,q'⟩⟩
def z0e {σ α:Type}{c:Prop}[Decidable c]{x y:StateT σ Sem α}{Q:α->σ->Prop}{st:σ}(h:c)(k:wpS M A E s x Q st):wpS M A E s (if c then x else y) Q st:=by
 rw[if_pos h]
 exact k
def z0a {σ α:Type}{c:Prop}[Decidable c]{x y:StateT σ Sem α}{Q:α->σ->Prop}{st:σ}(h:¬ c)(k:wpS M A E s y Q st):wpS M A E s (if c then x else y) Q st:=by
 rw[if_neg h]
 exact k
end
section
variable {t1 t2 t3 t4 t5 t6 t7 C S:Type}{c:C}{s:S}{G:C->S->Prop}
def el5 {F:t1->t2->t3->t4->t5->C}{H:t1->t2->t3->t4->t5->S}{P:t1->t2->t3->t4->t5->Prop}(h:∃ a b x d e,c=F a b x d e/\s=H a b x d e/\P a b x d e)(k:∀ a b x d e,P a b x d e->G (F a b x d e) (H a b x d e)):G c s:=by
 obtain⟨a,b,x,d,e,rfl,rfl,p⟩:=h
 exact k a b x d e p
def el7 {F:t1->t2->t3->t4->t5->t6->t7->C}{H:t1->t2->t3->t4->t5->t6->t7->S}{P:t1->t2->t3->t4->t5->t6->t7->Prop}(h:∃ a b x d e f g,c=F a b x d e f g/\s=H a b x d e f g/\P a b x d e f g)(k:∀ a b x d e f g,P a b x d e f g->G (F a b x d e f g) (H a b x d e f g)):G c s:=by
 obtain⟨a,b,x,d,e,f,g,rfl,rfl,p⟩:=h
 exact k a b x d e f g p
def elc0 {C:Type}{c F:C}{P:Prop}{G:C->Prop}(h:c=F/\P)(k:P->G F):G c:=by
 obtain⟨rfl,p⟩:=h
 exact k p
def elc1 {t1 C:Type}{c:C}{F:t1->C}{P:t1->Prop}{G:C->Prop}(h:∃ a,c=F a/\P a)(k:∀ a,P a->G (F a)):G c:=by
 obtain⟨a,rfl,p⟩:=h
 exact k a p
end
section
variable {M:Model}{A:Around}{E:Value->Shared->Prop}{s:Shared}{rk:Keyed->Nat}{κ:SortKind}{a₀:Array Keyed}
def Seg (rk:Keyed->Nat)(xs:Array Keyed)(i j:Nat):Prop:=∀ p q,i<=p->p<=q->q < j->Rk rk xs p<=Rk rk xs q
def Gec (rk:Keyed->Nat)(xs:Array Keyed)(i j:Nat):Prop:=∀ p q,i<=p->p<=q->q < j->Rk rk xs q<=Rk rk xs p
def Low (xs ys:Array Keyed)(lo:Nat):Prop:=∀ k,k < lo->xs[k]? = ys[k]?
def Seg.one {xs:Array Keyed}{i j:Nat}(h:j<=i+1):Seg rk xs i j:=fun p q a1 a2 a3=>by
 obtain rfl:p=q:=by lia
 exact Nat.le_refl _
def Low.refl {xs:Array Keyed}{lo:Nat}:Low xs xs lo:=fun _ _=>rfl
def Low.trans {xs ys zs:Array Keyed}{lo:Nat}(h:Low xs ys lo)(k:Low ys zs lo):Low xs zs lo:=fun i hi=>(h i hi).trans (k i hi)
def z5N {xs:Array Keyed}{i j:Nat}(hj:j<=xs.size)(k:Nat):
  Rk rk (mirror xs i j ((j - i) / 2)) k=if i<=k/\k < j then Rk rk xs (i+j - 1 - k) else Rk rk xs k:=by
 have e:=getElem?_mirror_all (i:=i) hj k
 by_cases h1:i<=k/\k < j
 ·rw[if_pos h1] at e ⊢; exact z1q e
 ·rw[if_neg h1] at e ⊢; exact z1q e
def z1m {xs:Array Keyed}{i j:Nat}(hj:j<=xs.size)(heq:∀ k,i<=k->k < j->Rk rk xs k=Rk rk xs (j - 1))(k:Nat):
  Rk rk (mirror xs i j ((j - i) / 2)) k=Rk rk xs k:=by
 rw[z5N hj]
 split
 ·rw[heq _ (by lia) (by lia),heq k (by lia) (by lia)]
 ·rfl
def z3K {xs:Array Keyed}{i j lo:Nat}(hj:j<=xs.size)(hi:lo<=i):Low (mirror xs i j ((j - i) / 2)) xs lo:=fun k hk=>by
 rw[getElem?_mirror_all hj k,if_neg (by lia)]
def z8t {xs:Array Keyed}{src d:Nat}(hs:src < xs.size)(hd:d<=src)(k:Nat):
  Rk rk (bubble xs src d) k=if k=src - d then Rk rk xs src else if src - d < k/\k<=src then Rk rk xs (k - 1) else Rk rk xs k:=by
 have e:=getElem?_bubble hs d hd k
 by_cases h1:k=src - d
 ·rw[if_pos h1] at e ⊢; exact z1q e
 ·rw[if_neg h1] at e ⊢
  by_cases h2:src - d < k/\k<=src
  ·rw[if_pos h2] at e ⊢; exact z1q e
  ·rw[if_neg h2] at e ⊢; exact z1q e
def zan {xs:Array Keyed}{src d lo:Nat}(hs:src < xs.size)(hd:d<=src)(hl:lo<=src - d):Low (bubble xs src d) xs lo:=fun k hk=>by
 rw[getElem?_bubble hs d hd k,if_neg (by lia),if_neg (by lia)]
def z2z {st:SortSt}{i j:Nat}{Q:Unit->SortSt->Prop}(h:Q () (setArr st (mirror (arrOf st) i j ((j - i) / 2)))):
  wpS M A E s (reverseSlice' i j) Q st:=by
 rw[reverseSlice'_eq]; exact wpS_modify h
def zao {st:SortSt}{lo a nrem:Nat}{Q:Option Nat->SortSt->Prop}{f:Nat->Option (Option Nat) × Nat->StateT SortSt Sem (ForInStep (Option (Option Nat) × Nat))}{k:Option (Option Nat) × Nat->StateT SortSt Sem (Option Nat)}
  (ha:1<=a) (han:a<=nrem) (hs:Seg rk (arrOf st) lo (lo+a))
  (hf:∀ x n (R:ForInStep (Option (Option Nat) × Nat)->SortSt->Prop),1<=n->n < nrem->(Rk rk (arrOf st) (lo+n) < Rk rk (arrOf st) (lo+n - 1)->R (.done (none,n)) st)->(Rk rk (arrOf st) (lo+n - 1)<=Rk rk (arrOf st) (lo+n)->R (.yield (none,n+1)) st)->wpS M A E s (f x (none,n)) R st)
  (hk:∀ n,a<=n->n<=nrem->Seg rk (arrOf st) lo (lo+n)->(n=nrem\/Rk rk (arrOf st) (lo+n) < Rk rk (arrOf st) (lo+n - 1))->wpS M A E s (k (none,n)) Q st):
  wpS M A E s (forIn [a:nrem] ((none,a):Option (Option Nat) × Nat) f >>= k) Q st:=by
 refine wpS_bind (wpS_mono (wpS_forRange (I:=fun x c st'=>st'=st/\c=(none,x)/\Seg rk (arrOf st) lo (lo+x))
  (Q:=fun c st'=>st'=st/\∃ n,c=(none,n)/\a<=n/\n<=nrem/\Seg rk (arrOf st) lo (lo+n)/\(n=nrem\/Rk rk (arrOf st) (lo+n) < Rk rk (arrOf st) (lo+n - 1))) ?step ?fin ⟨rfl,rfl,hs⟩) ?post)
 case fin=>
  rintro c st' ⟨rfl,rfl,hs'⟩
  rw[show max a nrem=nrem by lia] at hs' ⊢
  exact⟨rfl,nrem,rfl,han,Nat.le_refl _,hs',.inl rfl⟩
 case post=>
  rintro c st' ⟨rfl,n,rfl,h1,h2,h3,h4⟩
  exact hk n h1 h2 h3 h4
 case step=>
  rintro x c st' hax hxn ⟨rfl,rfl,hs'⟩
  refine hf x x _ (by lia) hxn (fun hl=>⟨rfl,x,rfl,hax,by lia,hs',.inr hl⟩) (fun hl=>⟨rfl,rfl,fun p q h1 h2 h3 => ?_⟩)
  by_cases hq:q < lo+x
  ·exact hs' p q h1 h2 hq
  ·have e:q=lo+x:=by lia
   subst e
   by_cases hp:p=lo+x
   ·subst hp; exact Nat.le_refl _
   ·exact Nat.le_trans (hs' p (lo+x - 1) h1 (by lia) (by lia)) hl
def z7l (hL:Asks M A s κ a₀ rk){st:SortSt}{lo nrem:Nat}{Q:Option Nat->SortSt->Prop}(hn:lo+nrem<=a₀.size)(h1:1<=nrem)(hB:TB κ a₀ st)
  (h:∀ m st',TB κ a₀ st'->pendingOf st'=pendingOf st->1<=m->m<=nrem->Seg rk (arrOf st') lo (lo+m)->Low (arrOf st') (arrOf st) lo->Q (some m) st'):
  wpS M A E s (countRun' lo nrem) Q st:=by
 try dsimp only
 refine zao (rk:=rk) (lo:=lo) (Nat.le_refl 1) h1 (Seg.one (Nat.le_refl _)) ?f ?k
 case f=>
  intro x n R n1 n2 ha hb
  dsimp only
  refine wpS_bind (z4x hL hB (by lia) (by lia) ?_)
  by_cases hl:Rk rk (arrOf st) (lo+n) < Rk rk (arrOf st) (lo+n - 1)
  ·refine z0e (by simpa using hl) ?_; exact wpS_pure (ha hl)
  ·refine z0a (by simpa using hl) ?_; exact wpS_pure (hb (by lia))
 case k=>
  intro n hn1 hn2 hsn hor
  dsimp only
  by_cases hnn:n=nrem
  ·refine z0e (by simpa using hnn) ?_
   exact wpS_pure (h n st hB rfl hn1 hn2 hsn Low.refl)
  ·refine z0a (by simpa using hnn) ?_
   have hlt:=hor.resolve_left hnn
   have hsz:lo+n<=(arrOf st).size:=by rw[hB.size]; lia
   refine zgj (H:=fun st1:SortSt=>TB κ a₀ st1/\pendingOf st1=pendingOf st/\Gec rk (arrOf st1) lo (lo+n+1)/\Low (arrOf st1) (arrOf st) lo) (P := ?pp1) ?tl1 ?us1
   case us1=>
    intro J
    by_cases hgt:n > 1
    ·refine z0e hgt ?_
     refine wpS_bind (z4x hL hB (by lia) (by lia) ?_)
     by_cases hrose:Rk rk (arrOf st) lo < Rk rk (arrOf st) (lo+n - 1)
     ·refine z0e (by simpa using hrose) ?_
      exact wpS_pure (h n st hB rfl hn1 hn2 hsn Low.refl)
     refine z0a (by simpa using hrose) ?_
     have hall:∀ k,lo<=k->k < lo+n->Rk rk (arrOf st) k=Rk rk (arrOf st) (lo+n - 1):=by
      intro k k1 k2
      have a1:=hsn lo k (by lia) (by lia) k2
      have a2:=hsn k (lo+n - 1) (by lia) (by lia) (by lia)
      lia
     refine wpS_bind (z2z ?_)
     obtain⟨st1,e1,hB1,hp1,hG1,hl1⟩:∃ st1:SortSt,st1=setArr st (mirror (arrOf st) lo (lo+n) ((lo+n - lo) / 2))/\TB κ a₀ st1/\pendingOf st1=pendingOf st/\Gec rk (arrOf st1) lo (lo+n+1)/\Low (arrOf st1) (arrOf st) lo:=by
      refine⟨_,rfl,hB.setArr (mirror_perm _ _ _ _),rfl,fun p q p1 p2 p3 => ?_,z3K hsz (Nat.le_refl _)⟩
      show Rk rk (mirror (arrOf st) _ _ _) q<=Rk rk (mirror (arrOf st) _ _ _) p
      rw[z1m hsz hall,z1m hsz hall]
      by_cases hq:q < lo+n
      ·rw[hall p (by lia) (by lia),hall q (by lia) hq]; exact Nat.le_refl _
      ·have e:q=lo+n:=by lia
       subst e
       by_cases hp:p=lo+n
       ·subst hp; exact Nat.le_refl _
       ·rw[hall p (by lia) (by lia)]; lia
     rw[<- e1]
     exact J st1 ⟨hB1,hp1,hG1,hl1⟩
    ·refine z0a hgt ?_
     refine J st ⟨hB,rfl,fun p q p1 p2 p3 => ?_,Low.refl⟩
     by_cases hp:p=q
     ·subst hp; exact Nat.le_refl _
     ·obtain rfl:p=lo:=by lia
      obtain rfl:q=p+n:=by lia
      obtain rfl:n=1:=by lia
      rw[show p+1 - 1=p by lia] at hlt
      lia
   rintro st1 ⟨hB1,hp1,hG1,hl1⟩
   refine wpS_bind (wpS_lift (wpAny_rule ⟨rfl,?_⟩))
   refine wpS_bind (wpS_mono (wpS_forRange (I:=fun x c st2=>∃ neq,c=(none,x,neq)/\TB κ a₀ st2/\pendingOf st2=pendingOf st/\Low (arrOf st2) (arrOf st) lo/\Gec rk (arrOf st2) lo (lo+x)/\neq+1<=x/\
     (∀ i,lo+x - (neq+1)<=i->i < lo+x->Rk rk (arrOf st2) i=Rk rk (arrOf st2) (lo+x - 1)))
    (Q:=fun c st2=>∃ m neq,c=(none,m,neq)/\m<=nrem/\TB κ a₀ st2/\pendingOf st2=pendingOf st/\Low (arrOf st2) (arrOf st) lo/\Gec rk (arrOf st2) lo (lo+m)/\neq+1<=m/\
     (∀ i,lo+m - (neq+1)<=i->i < lo+m->Rk rk (arrOf st2) i=Rk rk (arrOf st2) (lo+m - 1))) ?step ?fin ⟨0,rfl,hB1,hp1,hl1,hG1,by lia,fun i h1 h2=>by congr 1; lia⟩) ?post)
   case fin=>
    rintro c st2 hI1
    apply elc1 (c:=c) hI1
    intro neq p1
    have hB2:=p1.1
    have hp2:=p1.2.1
    have hl2:=p1.2.2.1
    have hG2:=p1.2.2.2.1
    have hq:=p1.2.2.2.2.1
    have he:=p1.2.2.2.2.2
    clear p1 hI1
    refine⟨_,neq,rfl,by lia,hB2,hp2,hl2,hG2,hq,he⟩
   case step=>
    rintro x c st2 hax hxn hI2
    apply elc1 (c:=c) hI2
    intro neq p2
    have hB2:=p2.1
    have hp2:=p2.2.1
    have hl2:=p2.2.2.1
    have hG2:=p2.2.2.2.1
    have hq:=p2.2.2.2.2.1
    have he:=p2.2.2.2.2.2
    clear p2 hI2
    dsimp only
    have hsz2:lo+x<=(arrOf st2).size:=by rw[hB2.size]; lia
    refine wpS_bind (z4x hL hB2 (by lia) (by lia) ?_)
    by_cases hless:Rk rk (arrOf st2) (lo+x) < Rk rk (arrOf st2) (lo+x - 1)
    ·refine z0e (by simpa using hless) ?_
     have step1:∀ xs:Array Keyed,(∀ k,Rk rk xs k=Rk rk (arrOf st2) k)->Gec rk xs lo (lo+(x+1)):=by
      intro xs hk p q p1 p2 p3
      rw[hk,hk]
      by_cases hq':q < lo+x
      ·exact hG2 p q p1 p2 hq'
      ·obtain rfl:q=lo+x:=by lia
       by_cases hp':p=lo+x
       ·subst hp'; exact Nat.le_refl _
       ·exact Nat.le_trans (Nat.le_of_lt hless) (hG2 p (lo+x - 1) p1 (by lia) (by lia))
     by_cases hneq:neq > 0
     ·refine z0e hneq ?_
      refine wpS_bind (z2z (wpS_pure ⟨0,rfl,hB2.setArr (mirror_perm _ _ _ _),hp2,(z3K hsz2 (by lia)).trans hl2,step1 _ (z1m hsz2 he),by lia,fun i h1 h2=>by congr 1; lia⟩))
     ·refine z0a hneq ?_
      exact wpS_pure ⟨0,rfl,hB2,hp2,hl2,step1 _ (fun _=>rfl),by lia,fun i h1 h2=>by congr 1; lia⟩
    ·refine z0a (by simpa using hless) ?_
     refine wpS_bind (z4x hL hB2 (by lia) (by lia) ?_)
     by_cases hlarger:Rk rk (arrOf st2) (lo+x - 1) < Rk rk (arrOf st2) (lo+x)
     ·refine z0e (by simpa using hlarger) ?_
      exact wpS_pure ⟨x,neq,rfl,by lia,hB2,hp2,hl2,hG2,hq,he⟩
     ·refine z0a (by simpa using hlarger) ?_
      have heqx:Rk rk (arrOf st2) (lo+x)=Rk rk (arrOf st2) (lo+x - 1):=by lia
      refine wpS_pure ⟨neq+1,rfl,hB2,hp2,hl2,fun p q p1 p2 p3 => ?_,by lia,fun i h1 h2 => ?_⟩
      ·by_cases hq':q < lo+x
       ·exact hG2 p q p1 p2 hq'
       ·obtain rfl:q=lo+x:=by lia
        by_cases hp':p=lo+x
        ·subst hp'; exact Nat.le_refl _
        ·rw[heqx]; exact hG2 p (lo+x - 1) p1 (by lia) (by lia)
      ·rw[show lo+(x+1) - 1=lo+x by lia]
       by_cases hix:i=lo+x
       ·subst hix; rfl
       ·rw[heqx]; exact he i (by lia) (by lia)
   case post=>
    rintro c st2 ⟨m,neq,rfl,hm,hB2,hp2,hl2,hG2,hq,he⟩
    dsimp only
    have hsz2:lo+m<=(arrOf st2).size:=by rw[hB2.size]; lia
    refine zgj (H:=fun st3:SortSt=>TB κ a₀ st3/\pendingOf st3=pendingOf st/\Low (arrOf st3) (arrOf st) lo/\Gec rk (arrOf st3) lo (lo+m)) (P := ?pp2) ?tl2 ?us2
    case us2=>
     intro J
     by_cases hneq:neq > 0
     ·refine z0e hneq ?_
      refine wpS_bind (z2z ?_)
      obtain⟨st3,e3,hB3,hp3,hl3,hG3⟩:∃ st3:SortSt,st3=setArr st2 (mirror (arrOf st2) (lo+m - (neq+1)) (lo+m) ((lo+m - (lo+m - (neq+1))) / 2))/\TB κ a₀ st3/\pendingOf st3=pendingOf st/\Low (arrOf st3) (arrOf st) lo/\Gec rk (arrOf st3) lo (lo+m):=by
       refine⟨_,rfl,hB2.setArr (mirror_perm _ _ _ _),hp2,(z3K hsz2 (by lia)).trans hl2,fun p q p1 p2 p3 => ?_⟩
       show Rk rk (mirror (arrOf st2) _ _ _) q<=Rk rk (mirror (arrOf st2) _ _ _) p
       rw[z1m hsz2 he,z1m hsz2 he]
       exact hG2 p q p1 p2 p3
      rw[<- e3]
      exact J st3 ⟨hB3,hp3,hl3,hG3⟩
     ·refine z0a hneq ?_
      exact J st2 ⟨hB2,hp2,hl2,hG2⟩
    rintro st3 ⟨hB3,hp3,hl3,hG3⟩
    have hsz3:lo+m<=(arrOf st3).size:=by rw[hB3.size]; lia
    refine wpS_bind (z2z ?_)
    have hB4:TB κ a₀ (setArr st3 (mirror (arrOf st3) lo (lo+m) ((lo+m - lo) / 2))):=hB3.setArr (mirror_perm _ _ _ _)
    refine zao (rk:=rk) (lo:=lo) (by lia) hm (fun p q p1 p2 p3 => ?_) ?f ?k
    case f=>
     intro x n R n1 n2 ha hb
     dsimp only
     refine wpS_bind (z4x hL hB4 (by lia) (by lia) ?_)
     by_cases hl:Rk rk (mirror (arrOf st3) lo (lo+m) ((lo+m - lo) / 2)) (lo+n) < Rk rk (mirror (arrOf st3) lo (lo+m) ((lo+m - lo) / 2)) (lo+n - 1)
     ·refine z0e (by simpa using hl) ?_; exact wpS_pure (ha hl)
     ·refine z0a (by simpa using hl) ?_; exact wpS_pure (hb (Nat.le_of_not_lt hl))
    case k=>
     intro n hn1 hn2 hsn _
     exact wpS_pure (h n _ hB4 hp3 (by lia) hn2 hsn ((z3K hsz3 (Nat.le_refl _)).trans hl3))
    show Rk rk (mirror (arrOf st3) lo (lo+m) ((lo+m - lo) / 2)) p<=Rk rk (mirror (arrOf st3) lo (lo+m) ((lo+m - lo) / 2)) q
    rw[z5N hsz3,z5N hsz3,if_pos (by lia),if_pos (by lia)]
    exact hG3 _ _ (by lia) (by lia) (by lia)
end
section
variable {M:Model}{A:Around}{E:Value->Shared->Prop}{s:Shared}{rk:Keyed->Nat}{κ:SortKind}{a₀:Array Keyed}
def z5P (hL:Asks M A s κ a₀ rk){st:SortSt}{lo n ok:Nat}{Q:Bool->SortSt->Prop}(hn:lo+n<=a₀.size)(hok:ok<=n)(h1:1<=ok)(hB:TB κ a₀ st)(hs:Seg rk (arrOf st) lo (lo+ok))
  (h:∀ st',TB κ a₀ st'->pendingOf st'=pendingOf st->Seg rk (arrOf st') lo (lo+n)->Low (arrOf st') (arrOf st) lo->Q true st'):wpS M A E s (binarySort' lo n ok) Q st:=by
 refine wpS_bind (wpS_mono (wpS_forRange (I:=fun k c st'=>c=(none,())/\TB κ a₀ st'/\pendingOf st'=pendingOf st/\Seg rk (arrOf st') lo (lo+k)/\Low (arrOf st') (arrOf st) lo)
  (Q:=fun c st'=>c=(none,())/\TB κ a₀ st'/\pendingOf st'=pendingOf st/\Seg rk (arrOf st') lo (lo+n)/\Low (arrOf st') (arrOf st) lo) ?step ?fin ?init) ?post)
 case post=>
  rintro c st' hI1
  apply elc0 (c:=c) hI1
  intro p1
  have hB':=p1.1
  have hp':=p1.2.1
  have hs':=p1.2.2.1
  have hl':=p1.2.2.2
  clear p1 hI1
  exact wpS_pure (h st' hB' hp' hs' hl')
 case init=>
  rw[show max ok 1=ok by lia]
  exact⟨rfl,hB,rfl,hs,Low.refl⟩
 case fin=>
  rintro c st' ⟨hc,hB',hp',hs',hl'⟩
  rw[show max (max ok 1) n=n by lia] at hs'
  exact⟨hc,hB',hp',hs',hl'⟩
 case step=>
  rintro k c st' hak hkn hI2
  apply elc0 (c:=c) hI2
  intro p2
  have hB':=p2.1
  have hp':=p2.2.1
  have hs':=p2.2.2.1
  have hl':=p2.2.2.2
  clear p2 hI2
  dsimp only
  have hk:lo+k < a₀.size:=by lia
  refine wpS_bind (wpS_mono (wpS_forRange (I:=fun x c st''=>st''=st'/\∃ l r,c=(none,l,r)/\l<=r/\r<=k/\r - l<=k - x/\
    (∀ i,i < l->Rk rk (arrOf st') (lo+i)<=Rk rk (arrOf st') (lo+k))/\(∀ i,r<=i->i < k->Rk rk (arrOf st') (lo+k) < Rk rk (arrOf st') (lo+i)))
   (Q:=fun c st''=>st''=st'/\∃ l r,c=(none,l,r)/\l<=k/\
    (∀ i,i < l->Rk rk (arrOf st') (lo+i)<=Rk rk (arrOf st') (lo+k))/\(∀ i,l<=i->i < k->Rk rk (arrOf st') (lo+k) < Rk rk (arrOf st') (lo+i))) ?istep ?ifin ?iinit) ?ipost)
  case iinit=>exact⟨rfl,0,k,rfl,by lia,by lia,by lia,fun i hi=>by lia,fun i h1 h2=>by lia⟩
  case ifin=>
   rintro c st'' ⟨rfl,l,r,rfl,hlr,hrk,hm,hlo,hhi⟩
   obtain rfl:l=r:=by lia
   exact⟨rfl,l,l,rfl,hrk,hlo,hhi⟩
  case istep=>
   rintro x c st'' _ hxk ⟨rfl,l,r,rfl,hlr,hrk,hm,hlo,hhi⟩
   dsimp only
   by_cases hge:l>=r
   ·refine z0e hge ?_
    obtain rfl:l=r:=by lia
    exact wpS_pure ⟨rfl,l,l,rfl,hrk,hlo,hhi⟩
   ·refine z0a hge ?_
    refine wpS_bind (z4x hL hB' hk (by lia) ?_)
    by_cases hless:Rk rk (arrOf st'') (lo+k) < Rk rk (arrOf st'') (lo+(l+r) / 2)
    ·refine z0e (by simpa using hless) ?_
     refine wpS_pure ⟨rfl,l,(l+r) / 2,rfl,by lia,by lia,by lia,hlo,fun i h1 h2 => ?_⟩
     exact Nat.lt_of_lt_of_le hless (hs' _ _ (by lia) (by lia) (by lia))
    ·refine z0a (by simpa using hless) ?_
     refine wpS_pure ⟨rfl,(l+r) / 2+1,r,rfl,by lia,by lia,by lia,fun i h1 => ?_,hhi⟩
     exact Nat.le_trans (hs' (lo+i) (lo+(l+r) / 2) (by lia) (by lia) (by lia)) (Nat.le_of_not_lt hless)
  case ipost=>
   rintro c st'' ⟨rfl,l,r,rfl,hlk,hlo,hhi⟩
   dsimp only
   show wpS M A E s (moveDown' _ _ >>= _) _ _
   rw[moveDown'_eq]
   have hks:lo+k < (arrOf st'').size:=by rw[hB'.size]; exact hk
   refine wpS_bind (wpS_modify (wpS_pure ⟨rfl,hB'.setArr (bubble_perm _ _ _),hp',?_,(zan hks (by lia) (by lia)).trans hl'⟩))
   intro i j hi hij hj
   show Rk rk (bubble (arrOf st'') (lo+k) (lo+k - (lo+l))) i<=Rk rk (bubble (arrOf st'') (lo+k) (lo+k - (lo+l))) j
   rw[z8t hks (by lia),z8t hks (by lia),show lo+k - (lo+k - (lo+l))=lo+l by lia]
   have hlo':∀ i,lo<=i->i < lo+l->Rk rk (arrOf st'') i<=Rk rk (arrOf st'') (lo+k):=fun i h1 h2=>by
    have:=hlo (i - lo) (by lia)
    rwa [show lo+(i - lo)=i by lia] at this
   have hhi':∀ i,lo+l<=i->i < lo+k->Rk rk (arrOf st'') (lo+k) < Rk rk (arrOf st'') i:=fun i h1 h2=>by
    have:=hhi (i - lo) (by lia) (by lia)
    rwa [show lo+(i - lo)=i by lia] at this
   repeat' split
   all_goals first
    | (exfalso; lia)
    | exact Nat.le_refl _
    | exact hlo' _ (by lia) (by lia)
    | exact Nat.le_of_lt (hhi' _ (by lia) (by lia))
    | exact hs' _ _ (by lia) (by lia) (by lia)
end
section
variable {M:Model}{A:Around}{E:Value->Shared->Prop}{s:Shared}{rk:Keyed->Nat}{κ:SortKind}{a₀:Array Keyed}
def Up (rk:Keyed->Nat)(l:List Keyed):Prop:=l.Pairwise fun x y=>rk x<=rk y
def z2a (rk:Keyed->Nat)(l m:List Keyed):Prop:=∀ x∈l,∀ y∈m,rk x<=rk y
def Up.append {l m:List Keyed}(h:Up rk l)(k:Up rk m)(c:z2a rk l m):Up rk (l++m):=List.pairwise_append.mpr ⟨h,k,c⟩
def Up.drop {l:List Keyed}(h:Up rk l)(n:Nat):Up rk (l.drop n):=List.Pairwise.sublist (List.drop_sublist n l) h
def Up.take {l:List Keyed}(h:Up rk l)(n:Nat):Up rk (l.take n):=List.Pairwise.sublist (List.take_sublist n l) h
def Up.cut {l:List Keyed}(h:Up rk l)(n:Nat):z2a rk (l.take n) (l.drop n):=by
 have:=h
 unfold Up at this
 rw[<- List.take_append_drop n l] at this
 exact(List.pairwise_append.mp this).2.2
def Up.seg {a:Array Keyed}(h:Up rk a.toList):Seg rk a 0 a.size:=fun p q _ hpq hq=>by
 by_cases e:p=q
 ·subst e; exact Nat.le_refl _
 ·have:=List.pairwise_iff_getElem.mp h p q (by simpa using (by lia:p < a.size)) (by simpa using hq) (by lia)
  rw[z0C (getElem?_pos a p (by lia)),z0C (getElem?_pos a q hq)]
  simpa using this
def z9d {a:Array Keyed}{i j:Nat}(h:Seg rk a i j)(hj:j<=a.size):Up rk (a.extract i j).toList:=by
 refine List.pairwise_iff_getElem.mpr fun p q hp hq hpq => ?_
 have hp':p < (a.extract i j).size:=by rw[<- Array.length_toList]; exact hp
 have hq':q < (a.extract i j).size:=by rw[<- Array.length_toList]; exact hq
 have hsz:(a.extract i j).size=j - i:=by rw[Array.size_extract]; lia
 have:=h (i+p) (i+q) (by lia) (by lia) (by lia)
 rw[z0C (getElem?_pos a (i+p) (by lia)),z0C (getElem?_pos a (i+q) (by lia))] at this
 simpa[Array.getElem_extract] using this
structure Mrg (rk:Keyed->Nat)(a b o:List Keyed)(ia ib:Nat):Prop where
 up:Up rk o
 ina:z2a rk o (a.drop ia)
 inb:z2a rk o (b.drop ib)
 perm:(o++a.drop ia++b.drop ib).Perm (a++b)
def z5a (l:List Keyed)(i k:Nat):l.drop i=(l.drop i).take k++l.drop (i+k):=by
 rw[<- List.drop_drop]; exact(List.take_append_drop k _).symm
def Mrg.moveA {a b o:List Keyed}{ia ib:Nat}(h:Mrg rk a b o ia ib)(ha:Up rk a)(k:Nat)(hle:z2a rk ((a.drop ia).take k) (b.drop ib)):Mrg rk a b (o++(a.drop ia).take k) (ia+k) ib:=by
 have e:=z5a a ia k
 refine⟨h.up.append ((ha.drop ia).take k) (fun x hx y hy=>h.ina x hx y (List.mem_of_mem_take hy)),fun x hx y hy => ?_,fun x hx y hy => ?_,?_⟩
 ·rcases List.mem_append.mp hx with hx | hx
  ·exact h.ina x hx y (by rw[e]; exact List.mem_append.mpr (.inr hy))
  ·exact(ha.drop ia).cut k x hx y (by rw[List.drop_drop]; exact hy)
 ·rcases List.mem_append.mp hx with hx | hx
  ·exact h.inb x hx y hy
  ·exact hle x hx y hy
 ·have:=h.perm
  rw[e] at this
  simpa[List.append_assoc] using this
def Mrg.moveB {a b o:List Keyed}{ia ib:Nat}(h:Mrg rk a b o ia ib)(hb:Up rk b)(k:Nat)(hle:z2a rk ((b.drop ib).take k) (a.drop ia)):Mrg rk a b (o++(b.drop ib).take k) ia (ib+k):=by
 have e:=z5a b ib k
 refine⟨h.up.append ((hb.drop ib).take k) (fun x hx y hy=>h.inb x hx y (List.mem_of_mem_take hy)),fun x hx y hy => ?_,fun x hx y hy => ?_,?_⟩
 ·rcases List.mem_append.mp hx with hx | hx
  ·exact h.ina x hx y hy
  ·exact hle x hx y hy
 ·rcases List.mem_append.mp hx with hx | hx
  ·exact h.inb x hx y (by rw[e]; exact List.mem_append.mpr (.inr hy))
  ·exact(hb.drop ib).cut k x hx y (by rw[List.drop_drop]; exact hy)
 ·have hp:=h.perm
  rw[e] at hp
  refine List.Perm.trans ?_ hp
  simp only[List.append_assoc]
  refine List.Perm.append_left o ?_
  rw[<- List.append_assoc, <- List.append_assoc]
  exact List.Perm.append_right _ List.perm_append_comm
def Mrg.done {a b o:List Keyed}{ia ib:Nat}(h:Mrg rk a b o ia ib)(ha:Up rk a)(hb:Up rk b)(e:a.length<=ia\/b.length<=ib):Up rk (o++a.drop ia++b.drop ib):=by
 rcases e with e | e
 ·rw[List.drop_eq_nil_of_le e,List.append_nil]; exact h.up.append (hb.drop _) h.inb
 ·rw[List.drop_eq_nil_of_le e,List.append_nil]; exact h.up.append (ha.drop _) h.ina
def Mrg.lastA {a b o:List Keyed}{ia ib:Nat}(h:Mrg rk a b o ia ib)(ha:Up rk a)(hb:Up rk b)(e:z2a rk (b.drop ib) (a.drop ia)):Up rk (o++b.drop ib++a.drop ia)/\(o++b.drop ib++a.drop ia).Perm (a++b):=by
 refine⟨(h.up.append (hb.drop _) h.inb).append (ha.drop _) (fun x hx y hy => ?_),?_⟩
 ·rcases List.mem_append.mp hx with hx | hx
  ·exact h.ina x hx y hy
  ·exact e x hx y hy
 ·refine List.Perm.trans ?_ h.perm
  simp only[List.append_assoc]
  exact List.Perm.append_left o List.perm_append_comm
def z1Z {l:List Keyed}{i:Nat}{p:Keyed}(h:l[i]? = some p):(l.drop i).take 1=[p]:=by
 obtain⟨hi,rfl⟩:=List.getElem?_eq_some_iff.mp h
 rw[List.drop_eq_getElem_cons hi]; rfl
def z4l {l:List Keyed}{i k:Nat}{x:Keyed}(h:x∈(l.drop i).take k):∃ j,j < k/\i+j < l.length/\l[i+j]? = some x:=by
 obtain⟨j,hj,e⟩:=List.getElem_of_mem h
 have hj':j < k/\i+j < l.length:=by simp at hj; lia
 refine⟨j,hj'.1,hj'.2,?_⟩
 rw[List.getElem_take,List.getElem_drop] at e
 rw[List.getElem?_eq_getElem hj'.2,e]
def z8N {l:List Keyed}{i:Nat}{x:Keyed}(h:x∈l.drop i):∃ j,i+j < l.length/\l[i+j]? = some x:=by
 obtain⟨j,hj,e⟩:=List.getElem_of_mem h
 have hj':i+j < l.length:=by simp at hj; lia
 refine⟨j,hj',?_⟩
 rw[List.getElem_drop] at e
 rw[List.getElem?_eq_getElem hj',e]
def z2x {a:Array Keyed}{j:Nat}{x:Keyed}(h:a.toList[j]? = some x):Rk rk a j=rk x:=z0C (by rw[<- Array.getElem?_toList]; exact h)
def z6x (hL:Asks M A s κ a₀ rk){st:SortSt}{key:Keyed}{arr:Array Keyed}{base n hint:Nat}{Q:Option Nat->SortSt->Prop}(hk:kindOf st=κ)(hkey:key∈a₀.toList)
  (harr:∀ p∈arr.toList,p∈a₀.toList) (hn:base+n<=arr.size) (hh:hint < n) (hs:Seg rk arr base (base+n))
  (h:∀ k,k<=n->(∀ i,i < k->Rk rk arr (base+i)<=rk key)->(∀ i,k<=i->i < n->rk key < Rk rk arr (base+i))->Q (some k) st):wpS M A E s (z8U false key arr base n hint) Q st:=by
 refine z6b hL hk hkey harr hn hh (fun i => !decide (rk key < Rk rk arr (base+i))) (fun i hi=>by simp) (fun i j hij hj q => ?_) (fun k hk h1 h2=>h k hk (fun i hi => ?_) (fun i h3 h4 => ?_))
 ·have:=hs (base+i) (base+j) (by lia) (by lia) (by lia)
  simp at q ⊢; lia
 ·have:=h1 i hi; simp at this; lia
 ·have:=h2 i h3 h4; simp at this; lia
def z6y (hL:Asks M A s κ a₀ rk){st:SortSt}{key:Keyed}{arr:Array Keyed}{base n hint:Nat}{Q:Option Nat->SortSt->Prop}(hk:kindOf st=κ)(hkey:key∈a₀.toList)
  (harr:∀ p∈arr.toList,p∈a₀.toList) (hn:base+n<=arr.size) (hh:hint < n) (hs:Seg rk arr base (base+n))
  (h:∀ k,k<=n->(∀ i,i < k->Rk rk arr (base+i) < rk key)->(∀ i,k<=i->i < n->rk key<=Rk rk arr (base+i))->Q (some k) st):wpS M A E s (z8U true key arr base n hint) Q st:=by
 refine z6b hL hk hkey harr hn hh (fun i=>decide (Rk rk arr (base+i) < rk key)) (fun i hi=>by simp) (fun i j hij hj q => ?_) (fun k hk h1 h2=>h k hk (fun i hi => ?_) (fun i h3 h4 => ?_))
 ·have:=hs (base+i) (base+j) (by lia) (by lia) (by lia)
  simp at q ⊢; lia
 ·have:=h1 i hi; simp at this; lia
 ·have:=h2 i h3 h4; simp at this; lia
end
section
variable {M:Model}{A:Around}{E:Value->Shared->Prop}{s:Shared}{rk:Keyed->Nat}{κ:SortKind}{a₀:Array Keyed}
def z2A {a:Array Keyed}{i j:Nat}:(a.extract i j).toList=(a.toList.drop i).take (j - i):=by
 rw[Array.toList_extract]
def z95 {a:Array Keyed}{i:Nat}:(a.extract i a.size).toList=a.toList.drop i:=by
 rw[z2A]
 exact List.take_of_length_le (by simp)
def z1J {a:Array Keyed}{i:Nat}{p:Keyed}(h:a[i]? = some p):a.toList[i]? = some p:=by rw[Array.getElem?_toList]; exact h
def z8u (hL:Asks M A s κ a₀ rk){st:SortSt}{a b:Array Keyed}{Q:Array Keyed->SortSt->Prop}(hk:kindOf st=κ)
  (hma:∀ p∈a.toList,p∈a₀.toList) (hmb:∀ p∈b.toList,p∈a₀.toList) (ha:Up rk a.toList) (hb:Up rk b.toList) (h1:1<=a.size) (h2:1<=b.size)
  (hf:z2a rk (b.toList.take 1) a.toList) (hl:z2a rk b.toList (a.toList.drop (a.size - 1)))
  (h:∀ r g,Up rk r.toList->r.toList.Perm (a.toList++b.toList)->Q r (z1M st g)):wpS M A E s (zcP a b) Q st:=by
 have sa:=ha.seg
 have sb:=hb.seg
 have la:a.toList.length=a.size:=by simp
 have lb:b.toList.length=b.size:=by simp
 have fin:∀ (out:Array Keyed) (ia ib g:Nat),Mrg rk a.toList b.toList out.toList ia ib->(a.size<=ia\/b.size<=ib)->Q (out++a.extract ia a.size++b.extract ib b.size) (z1M st g):=fun out ia ib g m e=>by
  have t:(out++a.extract ia a.size++b.extract ib b.size).toList=out.toList++a.toList.drop ia++b.toList.drop ib:=by
   rw[Array.toList_append,Array.toList_append,z95,z95]
  exact h _ g (by rw[t]; exact m.done ha hb (by rw[la,lb]; exact e)) (by rw[t]; exact m.perm)
 have fin2:∀ (out:Array Keyed) (ia ib g:Nat),Mrg rk a.toList b.toList out.toList ia ib->ia+1=a.size->Q (out++b.extract ib b.size++a.extract ia a.size) (z1M st g):=fun out ia ib g m e=>by
  have t:(out++b.extract ib b.size++a.extract ia a.size).toList=out.toList++b.toList.drop ib++a.toList.drop ia:=by
   rw[Array.toList_append,Array.toList_append,z95,z95]
  have q:=m.lastA ha hb (fun x hx y hy=>hl x (List.mem_of_mem_drop hx) y (by rw[show a.size - 1=ia by lia]; exact hy))
  exact h _ g (by rw[t]; exact q.1) (by rw[t]; exact q.2)
 refine wpS_bind (wpS_lift (wpAny_rule ⟨rfl,?_⟩))
 dsimp only
 obtain⟨b0,eb0,mb0⟩:=z1C (xs:=b) (i:=0) (by lia)
 refine wpS_bind (z0s eb0 ?_)
 have m0:Mrg rk a.toList b.toList (#[b0]:Array Keyed).toList 0 1:=by
  have z:Mrg rk a.toList b.toList [] 0 0:=⟨List.Pairwise.nil,(fun x hx=>by cases hx),(fun x hx=>by cases hx),by simp⟩
  have:=z.moveB hb 1 (by rw[List.drop_zero]; exact hf)
  rw[z1Z (z1J eb0)] at this
  simpa using this
 by_cases c1:1=b.size
 ·refine z0e (by simpa using c1) ?_
  exact wpS_pure (fin _ _ _ (gallopOf st) m0 (.inr (by lia)))
 refine z0a (by simpa using c1) ?_
 by_cases c2:0+1=a.size
 ·refine z0e (by simpa using c2) ?_
  exact wpS_pure (fin2 _ _ _ (gallopOf st) m0 c2)
 refine z0a (by simpa using c2) ?_
 refine wpS_bind (wpS_get ?_)
 refine wpS_bind (wpS_mono (wpS_forRange
  (I:=fun x c st'=>∃ out ia ib mg g,c=(none,out,ia,ib,mg)/\st'=z1M st g/\Mrg rk a.toList b.toList out.toList ia ib/\ia+1 < a.size/\ib < b.size/\x+1<=ia+ib)
  (Q:=fun c st'=>∃ r rest,c=(some r,rest)/\Q r st') ?step ?fin ⟨_,_,_,_,gallopOf st,rfl,rfl,m0,by lia,by lia,by lia⟩) ?post)
 case post=>
  rintro c st' ⟨r,rest,rfl,q⟩
  exact wpS_pure q
 case fin=>
  rintro c st' hI1
  apply el5 (c:=c) (s:=st') hI1
  intro out ia ib mg g p1
  have m:=p1.1
  have i1:=p1.2.1
  have i2:=p1.2.2.1
  have i3:=p1.2.2.2
  clear p1 hI1
  lia
 case step=>
  rintro x c st' _ hx hI2
  apply el5 (c:=c) (s:=st') hI2
  intro out ia ib mg g p2
  have m:=p2.1
  have i1:=p2.2.1
  have i2:=p2.2.2.1
  have i3:=p2.2.2.2
  clear p2 hI2
  dsimp only
  refine wpS_bind (wpS_mono (wpS_forRange
   (I:=fun y c st'=>∃ out ja jb ac bc,c=(none,out,ja,jb,ac,bc)/\st'=z1M st g/\Mrg rk a.toList b.toList out.toList ja jb/\ja+1 < a.size/\jb < b.size/\ia+ib+y<=ja+jb)
   (Q:=fun c st'=>(∃ r rest,c=(some r,rest)/\Q r st')\/∃ out ja jb ac bc,c=(none,out,ja,jb,ac,bc)/\st'=z1M st g/\Mrg rk a.toList b.toList out.toList ja jb/\ja+1 < a.size/\jb < b.size/\ia+ib+1<=ja+jb)
   ?istep ?ifin ⟨_,_,_,_,_,rfl,rfl,m,i1,i2,by lia⟩) ?ipost)
  case ifin=>
   rintro c st' hI3
   apply el5 (c:=c) (s:=st') hI3
   intro out ja jb ac bc p3
   have m:=p3.1
   have j1:=p3.2.1
   have j2:=p3.2.2.1
   have j3:=p3.2.2.2
   clear p3 hI3
   exact .inr ⟨_,_,_,_,_,rfl,rfl,m,j1,j2,by lia⟩
  case istep=>
   rintro y c st' _ hy hI4
   apply el5 (c:=c) (s:=st') hI4
   intro out ja jb ac bc p4
   have m:=p4.1
   have j1:=p4.2.1
   have j2:=p4.2.2.1
   have j3:=p4.2.2.2
   clear p4 hI4
   dsimp only
   obtain⟨pb,eb,mb⟩:=z1C (xs:=b) (i:=jb) j2
   obtain⟨pa,ea,ma⟩:=z1C (xs:=a) (i:=ja) (by lia)
   refine wpS_bind (z0s eb (wpS_bind (z0s ea (wpS_bind (z7k hL hk (hmb _ mb) (hma _ ma) ?_)))))
   by_cases hw:rk pb < rk pa
   ·refine z0e (by simpa using hw) ?_
    refine wpS_bind (z0s eb ?_)
    have m':Mrg rk a.toList b.toList (out.push pb).toList ja (jb+1):=by
     have:=m.moveB hb 1 (by
      rw[z1Z (z1J eb)]
      intro x hx y hy
      obtain rfl:=List.mem_singleton.mp hx
      obtain⟨j,hj,e⟩:=z8N hy
      have:=sa ja (ja+j) (by lia) (by lia) (by lia)
      rw[z0C ea,z2x e] at this
      lia)
     rw[z1Z (z1J eb)] at this
     simpa using this
    by_cases c3:jb+1=b.size
    ·refine z0e (by simpa using c3) ?_
     exact wpS_pure (.inl ⟨_,_,rfl,fin _ _ _ g m' (.inr (by lia))⟩)
    refine z0a (by simpa using c3) ?_
    split
    ·exact wpS_pure (.inr ⟨_,_,_,_,_,rfl,rfl,m',j1,by lia,by lia⟩)
    ·exact wpS_pure ⟨_,_,_,_,_,rfl,rfl,m',j1,by lia,by lia⟩
   ·refine z0a (by simpa using hw) ?_
    refine wpS_bind (z0s ea ?_)
    have m':Mrg rk a.toList b.toList (out.push pa).toList (ja+1) jb:=by
     have:=m.moveA ha 1 (by
      rw[z1Z (z1J ea)]
      intro x hx y hy
      obtain rfl:=List.mem_singleton.mp hx
      obtain⟨j,hj,e⟩:=z8N hy
      have:=sb jb (jb+j) (by lia) (by lia) (by lia)
      rw[z0C eb,z2x e] at this
      lia)
     rw[z1Z (z1J ea)] at this
     simpa using this
    by_cases c3:ja+1+1=a.size
    ·refine z0e (by simpa using c3) ?_
     exact wpS_pure (.inl ⟨_,_,rfl,fin2 _ _ _ g m' c3⟩)
    refine z0a (by simpa using c3) ?_
    split
    ·exact wpS_pure (.inr ⟨_,_,_,_,_,rfl,rfl,m',by lia,j2,by lia⟩)
    ·exact wpS_pure ⟨_,_,_,_,_,rfl,rfl,m',by lia,j2,by lia⟩
  case ipost=>
   rintro c st' (hA | hI5)
   ·obtain⟨r,rest,rfl,q⟩:=hA
    obtain⟨r1,r2,r3,r4,r5⟩:=rest
    exact wpS_pure ⟨_,_,rfl,q⟩
   apply el5 (c:=c) (s:=st') hI5
   intro out ka kb ac bc p5
   have m:=p5.1
   have j1:=p5.2.1
   have j2:=p5.2.2.1
   have j3:=p5.2.2.2
   clear p5 hI5
   dsimp only
   refine wpS_bind (wpS_lift (wpAny_rule ⟨rfl,?_⟩))
   refine wpS_bind (wpS_mono (wpS_forRange
    (I:=fun y c st'=>∃ out ja jb mg ac bc g,c=(none,out,ja,jb,mg,ac,bc)/\st'=z1M st g/\Mrg rk a.toList b.toList out.toList ja jb/\ja+1 < a.size/\jb < b.size/\ia+ib+1<=ja+jb)
    (Q:=fun c st'=>(∃ r rest,c=(some r,rest)/\Q r st')\/∃ out ja jb mg ac bc g,c=(none,out,ja,jb,mg,ac,bc)/\st'=z1M st g/\Mrg rk a.toList b.toList out.toList ja jb/\ja+1 < a.size/\jb < b.size/\ia+ib+1<=ja+jb)
    ?gstep ?gfin ⟨_,_,_,_,_,_,g,rfl,rfl,m,j1,j2,j3⟩) ?gpost)
   case gfin=>
    rintro c st' z
    exact .inr z
   case gpost=>
    rintro c st' (hA | hI6)
    ·obtain⟨r,rest,rfl,q⟩:=hA
     obtain⟨r1,r2,r3,r4,r5,r6⟩:=rest
     exact wpS_pure ⟨_,_,rfl,q⟩
    apply el7 (c:=c) (s:=st') hI6
    intro out ka kb mg ac bc g p6
    have m:=p6.1
    have j1:=p6.2.1
    have j2:=p6.2.2.1
    have j3:=p6.2.2.2
    clear p6 hI6
    dsimp only
    show wpS M A E s (z1L _ >>= _) _ _
    rw[z1x]
    refine wpS_bind (wpS_modify (wpS_pure ⟨_,_,_,_,mg+1,rfl,rfl,m,j1,j2,by lia⟩))
   case gstep=>
    clear m j1 j2 j3 out ka kb ac bc g
    rintro y c st' _ hy hI7
    apply el7 (c:=c) (s:=st') hI7
    intro out ja jb mg ac bc g p7
    have m:=p7.1
    have j1:=p7.2.1
    have j2:=p7.2.2.1
    have j3:=p7.2.2.2
    clear p7 hI7
    dsimp only
    obtain⟨pb,eb,mb⟩:=z1C (xs:=b) (i:=jb) j2
    refine zgk (α:=Nat) (P := ?pp1) ?tl1 ?us1
    case us1=>
     intro J
     by_cases cg:mg > 1
     ·refine z0e cg ?_
      generalize mg - 1=mg'
      exact J mg'
     ·refine z0a cg ?_
      exact J mg
    intro mg'
    show wpS M A E s (z1L _ >>= _) _ _
    rw[z1x]
    refine wpS_bind (wpS_modify ?_)
    refine wpS_bind (z0s eb ?_)
    refine wpS_bind (z6x hL hk (hmb _ mb) hma (by lia) (by lia) (fun p q p1 p2 p3=>sa p q (by lia) p2 (by lia)) fun k hk1 g1 g2 => ?_)
    dsimp only
    have mA:Mrg rk a.toList b.toList (out.toList++(a.toList.drop ja).take k) (ja+k) jb:=m.moveA ha k (by
     intro x hx y hy
     obtain⟨i,hi,hi2,e⟩:=z4l hx
     obtain⟨j,hj,e2⟩:=z8N hy
     have q1:=g1 i hi
     have q2:=sb jb (jb+j) (by lia) (by lia) (by lia)
     rw[z2x e] at q1
     rw[z0C eb,z2x e2] at q2
     lia)
    have hgt:z2a rk [pb] (a.toList.drop (ja+k)):=by
     intro x hx y hy
     obtain rfl:=List.mem_singleton.mp hx
     obtain⟨j,hj,e⟩:=z8N hy
     have:=g2 (k+j) (by lia) (by lia)
     rw[show ja+(k+j)=ja+k+j by lia,z2x e] at this
     lia
    refine zcE (H:=fun(ka:Nat) (out1:Array Keyed)=>ka+1 < a.size/\ja<=ka/\Mrg rk a.toList b.toList out1.toList ka jb/\z2a rk [pb] (a.toList.drop ka)) (P := ?pp2) ?tl2 ?us2
    case us2=>
     intro J
     by_cases c3:k > 0
     ·refine z0e c3 ?_
      have mA':Mrg rk a.toList b.toList (out++a.extract ja (ja+k)).toList (ja+k) jb:=by
       rw[Array.toList_append,z2A,show ja+k - ja=k by lia]; exact mA
      by_cases c4:ja+k+1=a.size
      ·refine z0e (by simpa using c4) ?_
       exact wpS_pure (.inl ⟨_,_,rfl,fin2 _ _ _ mg' mA' c4⟩)
      refine z0a (by simpa using c4) ?_
      by_cases c5:ja+k=a.size
      ·refine z0e (by simpa using c5) ?_
       exact wpS_pure (.inl ⟨_,_,rfl,fin _ _ _ mg' mA' (.inl (by lia))⟩)
      refine z0a (by simpa using c5) ?_
      have kl:ja+k+1 < a.size/\ja<=ja+k:=by lia
      generalize out++a.extract ja (ja+k)=out1 at mA' ⊢
      have hg:=hgt
      generalize ja+k=ka at mA' hg kl ⊢
      exact J ka out1 ⟨kl.1,kl.2,mA',hg⟩
     ·refine z0a c3 ?_
      obtain rfl:k=0:=by lia
      exact J ja out ⟨by lia,by lia,m,hgt⟩
    clear mA hgt g1 g2 m
    rintro ka out1 ⟨kl,kk,mA',hgt⟩
    refine wpS_bind (z0s eb ?_)
    have mB:Mrg rk a.toList b.toList (out1.push pb).toList ka (jb+1):=by
     have:=mA'.moveB hb 1 (by rw[z1Z (z1J eb)]; exact hgt)
     rw[z1Z (z1J eb)] at this
     simpa using this
    by_cases c6:jb+1=b.size
    case pos=>
     refine z0e (by simpa using c6) ?_
     exact wpS_pure (.inl ⟨_,_,rfl,fin _ _ _ mg' mB (.inr (by lia))⟩)
    refine z0a (by simpa using c6) ?_
    obtain⟨pa,ea,ma⟩:=z1C (xs:=a) (i:=ka) (by lia)
    refine wpS_bind (z0s ea ?_)
    refine wpS_bind (z6y hL hk (hma _ ma) hmb (by lia) (by lia) (fun p q p1 p2 p3=>sb p q (by lia) p2 (by lia)) fun l hl1 f1 f2 => ?_)
    dsimp only
    have mC:Mrg rk a.toList b.toList ((out1.push pb).toList++(b.toList.drop (jb+1)).take l) ka (jb+1+l):=mB.moveB hb l (by
     intro x hx y hy
     obtain⟨i,hi,hi2,e⟩:=z4l hx
     obtain⟨j,hj,e2⟩:=z8N hy
     have q1:=f1 i hi
     have q2:=sa ka (ka+j) (by lia) (by lia) (by lia)
     rw[z2x e] at q1
     rw[z0C ea,z2x e2] at q2
     lia)
    have hgt2:z2a rk [pa] (b.toList.drop (jb+1+l)):=by
     intro x hx y hy
     obtain rfl:=List.mem_singleton.mp hx
     obtain⟨j,hj,e⟩:=z8N hy
     have:=f2 (l+j) (by lia) (by lia)
     rw[show jb+1+(l+j)=jb+1+l+j by lia,z2x e] at this
     lia
    refine zcE (H:=fun(kb:Nat) (out2:Array Keyed)=>kb < b.size/\jb+1<=kb/\Mrg rk a.toList b.toList out2.toList ka kb/\z2a rk [pa] (b.toList.drop kb)) (P := ?pp3) ?tl3 ?us3
    case us3=>
     intro J
     by_cases c7:l > 0
     ·refine z0e c7 ?_
      have mC':Mrg rk a.toList b.toList (out1.push pb++b.extract (jb+1) (jb+1+l)).toList ka (jb+1+l):=by
       rw[Array.toList_append,z2A,show jb+1+l - (jb+1)=l by lia]; exact mC
      by_cases c8:jb+1+l=b.size
      ·refine z0e (by simpa using c8) ?_
       exact wpS_pure (.inl ⟨_,_,rfl,fin _ _ _ mg' mC' (.inr (by lia))⟩)
      refine z0a (by simpa using c8) ?_
      have kl:jb+1+l < b.size/\jb+1<=jb+1+l:=by lia
      generalize out1.push pb++b.extract (jb+1) (jb+1+l)=out2 at mC' ⊢
      have hg:=hgt2
      generalize jb+1+l=kb at mC' hg kl ⊢
      exact J kb out2 ⟨kl.1,kl.2,mC',hg⟩
     ·refine z0a c7 ?_
      obtain rfl:l=0:=by lia
      exact J (jb+1) (out1.push pb) ⟨by lia,by lia,mB,hgt2⟩
    clear mC hgt2 f1 f2 mB mA' hgt
    rintro kb out2 ⟨kbl,kk2,mC',hgt2⟩
    refine wpS_bind (z0s ea ?_)
    have mD:Mrg rk a.toList b.toList (out2.push pa).toList (ka+1) kb:=by
     have:=mC'.moveA ha 1 (by rw[z1Z (z1J ea)]; exact hgt2)
     rw[z1Z (z1J ea)] at this
     simpa using this
    by_cases c9:ka+1+1=a.size
    case pos=>
     refine z0e (by simpa using c9) ?_
     exact wpS_pure (.inl ⟨_,_,rfl,fin2 _ _ _ mg' mD c9⟩)
    refine z0a (by simpa using c9) ?_
    split
    ·exact wpS_pure (.inr ⟨_,_,_,_,_,_,mg',rfl,rfl,mD,by lia,kbl,by lia⟩)
    ·exact wpS_pure ⟨_,_,_,_,_,_,mg',rfl,rfl,mD,by lia,kbl,by lia⟩
end
section
variable {M:Model}{A:Around}{E:Value->Shared->Prop}{s:Shared}{rk:Keyed->Nat}{κ:SortKind}{a₀:Array Keyed}
structure Mrh (rk:Keyed->Nat)(a b o:List Keyed)(na nb:Nat):Prop where
 up:Up rk o
 ina:z2a rk (a.take na) o
 inb:z2a rk (b.take nb) o
 perm:(a.take na++b.take nb++o).Perm (a++b)
def z97 (l:List Keyed){n k:Nat}(h:k<=n):l.take n=l.take k++(l.take n).drop k:=by
 have:=(List.take_append_drop k (l.take n)).symm
 rwa [List.take_take,Nat.min_eq_left h] at this
def Mrh.moveA {a b o:List Keyed}{na nb:Nat}(h:Mrh rk a b o na nb)(ha:Up rk a)(k:Nat)(hk:k<=na)(hle:z2a rk (b.take nb) ((a.take na).drop k)):Mrh rk a b ((a.take na).drop k++o) k nb:=by
 have e:=z97 a hk
 refine⟨((ha.take na).drop k).append h.up (fun x hx y hy=>h.ina x (List.mem_of_mem_drop hx) y hy),fun x hx y hy => ?_,fun x hx y hy => ?_,?_⟩
 ·rcases List.mem_append.mp hy with hy | hy
  ·have:=(ha.take na).cut k x (by rw[List.take_take,Nat.min_eq_left hk]; exact hx) y hy
   exact this
  ·exact h.ina x (by rw[e]; exact List.mem_append.mpr (.inl hx)) y hy
 ·rcases List.mem_append.mp hy with hy | hy
  ·exact hle x hx y hy
  ·exact h.inb x hx y hy
 ·have hp:=h.perm
  rw[e] at hp
  refine List.Perm.trans ?_ hp
  simp only[List.append_assoc]
  refine List.Perm.append_left _ ?_
  rw[<- List.append_assoc, <- List.append_assoc]
  exact List.Perm.append_right _ List.perm_append_comm
def Mrh.moveB {a b o:List Keyed}{na nb:Nat}(h:Mrh rk a b o na nb)(hb:Up rk b)(k:Nat)(hk:k<=nb)(hle:z2a rk (a.take na) ((b.take nb).drop k)):Mrh rk a b ((b.take nb).drop k++o) na k:=by
 have e:=z97 b hk
 refine⟨((hb.take nb).drop k).append h.up (fun x hx y hy=>h.inb x (List.mem_of_mem_drop hx) y hy),fun x hx y hy => ?_,fun x hx y hy => ?_,?_⟩
 ·rcases List.mem_append.mp hy with hy | hy
  ·exact hle x hx y hy
  ·exact h.ina x hx y hy
 ·rcases List.mem_append.mp hy with hy | hy
  ·have:=(hb.take nb).cut k x (by rw[List.take_take,Nat.min_eq_left hk]; exact hx) y hy
   exact this
  ·exact h.inb x (by rw[e]; exact List.mem_append.mpr (.inl hx)) y hy
 ·have hp:=h.perm
  rw[e] at hp
  simpa[List.append_assoc] using hp
def Mrh.done {a b o:List Keyed}{na nb:Nat}(h:Mrh rk a b o na nb)(ha:Up rk a)(hb:Up rk b)(e:na=0\/nb=0):Up rk (a.take na++b.take nb++o):=by
 rcases e with rfl | rfl
 ·rw[List.take_zero,List.nil_append]; exact(hb.take _).append h.up h.inb
 ·rw[List.take_zero,List.append_nil]; exact(ha.take _).append h.up h.ina
def Mrh.firstB {a b o:List Keyed}{na nb:Nat}(h:Mrh rk a b o na nb)(ha:Up rk a)(hb:Up rk b)(e:z2a rk (b.take nb) (a.take na)):Up rk (b.take nb++a.take na++o)/\(b.take nb++a.take na++o).Perm (a++b):=by
 refine⟨((hb.take _).append (ha.take _) e).append h.up (fun x hx y hy => ?_),?_⟩
 ·rcases List.mem_append.mp hx with hx | hx
  ·exact h.inb x hx y hy
  ·exact h.ina x hx y hy
 ·exact List.Perm.trans (List.Perm.append_right _ List.perm_append_comm) h.perm
def z26 {l:List Keyed}{n:Nat}{p:Keyed}(h:l[n]? = some p):(l.take (n+1)).drop n=[p]:=by
 obtain⟨hi,rfl⟩:=List.getElem?_eq_some_iff.mp h
 rw[List.drop_take,show n+1 - n=1 by lia]
 exact z1Z (List.getElem?_eq_getElem hi)
def za7 {l:List Keyed}{n:Nat}{x:Keyed}(h:x∈l.take n):∃ j,j < n/\j < l.length/\l[j]? = some x:=by
 have:=z4l (i:=0) (k:=n) (l:=l) (x:=x) (by simpa using h)
 obtain⟨j,h1,h2,h3⟩:=this
 exact⟨j,h1,by lia,by simpa using h3⟩
def zdy {l:List Keyed}{n k:Nat}{x:Keyed}(h:x∈(l.take n).drop k):∃ j,k<=j/\j < n/\j < l.length/\l[j]? = some x:=by
 rw[List.drop_take] at h
 obtain⟨j,h1,h2,h3⟩:=z4l h
 exact⟨k+j,by lia,by lia,h2,h3⟩
def z96 {a:Array Keyed}{n:Nat}:(a.extract 0 n).toList=a.toList.take n:=by
 rw[z2A,List.drop_zero,Nat.sub_zero]
def z8v (hL:Asks M A s κ a₀ rk){st:SortSt}{a b:Array Keyed}{Q:Array Keyed->SortSt->Prop}(hk:kindOf st=κ)
  (hma:∀ p∈a.toList,p∈a₀.toList) (hmb:∀ p∈b.toList,p∈a₀.toList) (ha:Up rk a.toList) (hb:Up rk b.toList) (h1:1<=a.size) (h2:1<=b.size)
  (hf:z2a rk (b.toList.take 1) a.toList) (hl:z2a rk b.toList (a.toList.drop (a.size - 1)))
  (h:∀ r g,Up rk r.toList->r.toList.Perm (a.toList++b.toList)->Q r (z1M st g)):wpS M A E s (zcQ a b) Q st:=by
 have sa:=ha.seg
 have sb:=hb.seg
 have la:a.toList.length=a.size:=by simp
 have lb:b.toList.length=b.size:=by simp
 have fin:∀ (out:Array Keyed) (na nb g:Nat),Mrh rk a.toList b.toList out.toList.reverse na nb->(na=0\/nb=0)->Q (a.extract 0 na++b.extract 0 nb++out.reverse) (z1M st g):=fun out na nb g m e=>by
  have t:(a.extract 0 na++b.extract 0 nb++out.reverse).toList=a.toList.take na++b.toList.take nb++out.toList.reverse:=by
   rw[Array.toList_append,Array.toList_append,z96,z96,Array.toList_reverse]
  exact h _ g (by rw[t]; exact m.done ha hb e) (by rw[t]; exact m.perm)
 have fin2:∀ (out:Array Keyed) (na nb g:Nat),Mrh rk a.toList b.toList out.toList.reverse na nb->nb=1->Q (b.extract 0 nb++a.extract 0 na++out.reverse) (z1M st g):=fun out na nb g m e=>by
  have t:(b.extract 0 nb++a.extract 0 na++out.reverse).toList=b.toList.take nb++a.toList.take na++out.toList.reverse:=by
   rw[Array.toList_append,Array.toList_append,z96,z96,Array.toList_reverse]
  have q:=m.firstB ha hb (fun x hx y hy=>hf x (by rw[e] at hx; exact hx) y (List.mem_of_mem_take hy))
  exact h _ g (by rw[t]; exact q.1) (by rw[t]; exact q.2)
 refine wpS_bind (wpS_lift (wpAny_rule ⟨rfl,?_⟩))
 dsimp only
 obtain⟨pz,ez,mz⟩:=z1C (xs:=a) (i:=a.size - 1) (by lia)
 refine wpS_bind (z0s ez ?_)
 have m0:Mrh rk a.toList b.toList (#[pz]:Array Keyed).toList.reverse (a.size - 1) b.size:=by
  have z:Mrh rk a.toList b.toList [] (a.size - 1+1) b.size:=⟨List.Pairwise.nil,(fun x _ y hy=>by cases hy),(fun x _ y hy=>by cases hy),by
   rw[show a.size - 1+1=a.toList.length by lia, <- lb,List.take_length,List.take_length,List.append_nil]⟩
  have:=z.moveA ha (a.size - 1) (by lia) (by
   rw[z26 (z1J ez)]
   intro x hx y hy
   exact hl x (List.mem_of_mem_take hx) y (by
    obtain rfl:=List.mem_singleton.mp hy
    rw[List.drop_eq_getElem_cons (by lia)]
    have:=z1J ez
    rw[List.getElem?_eq_getElem (by lia)] at this
    rw[Option.some.inj this]
    exact List.mem_cons_self))
  rw[z26 (z1J ez)] at this
  simpa using this
 by_cases c1:a.size - 1=0
 ·refine z0e (by simpa using c1) ?_
  exact wpS_pure (fin _ _ _ (gallopOf st) m0 (.inl c1))
 refine z0a (by simpa using c1) ?_
 by_cases c2:b.size=1
 ·refine z0e (by simpa using c2) ?_
  exact wpS_pure (fin2 _ _ _ (gallopOf st) m0 c2)
 refine z0a (by simpa using c2) ?_
 refine wpS_bind (wpS_get ?_)
 refine wpS_bind (wpS_mono (wpS_forRange
  (I:=fun x c st'=>∃ out na nb mg g,c=(none,na,nb,out,mg)/\st'=z1M st g/\Mrh rk a.toList b.toList out.toList.reverse na nb/\0 < na/\1 < nb/\na < a.size/\nb<=b.size/\na+nb+x+1<=a.size+b.size)
  (Q:=fun c st'=>∃ r rest,c=(some r,rest)/\Q r st') ?step ?fin ⟨_,_,_,_,gallopOf st,rfl,rfl,m0,by lia,by lia,by lia,by lia,by lia⟩) ?post)
 case post=>
  rintro c st' ⟨r,rest,rfl,q⟩
  exact wpS_pure q
 case fin=>
  rintro c st' hI1
  apply el5 (c:=c) (s:=st') hI1
  intro out na nb mg g p1
  have m:=p1.1
  have i1:=p1.2.1
  have i2:=p1.2.2.1
  have i3:=p1.2.2.2
  clear p1 hI1
  lia
 case step=>
  rintro x c st' _ hx hI2
  apply el5 (c:=c) (s:=st') hI2
  intro out na nb mg g p2
  have m:=p2.1
  have i1:=p2.2.1
  have i2:=p2.2.2.1
  have i3:=p2.2.2.2.1
  have i4:=p2.2.2.2.2.1
  have i5:=p2.2.2.2.2.2
  clear p2 hI2
  dsimp only
  refine wpS_bind (wpS_mono (wpS_forRange
   (I:=fun y c st'=>∃ out ja jb ac bc,c=(none,ja,jb,out,ac,bc)/\st'=z1M st g/\Mrh rk a.toList b.toList out.toList.reverse ja jb/\0 < ja/\1 < jb/\ja < a.size/\jb<=b.size/\ja+jb+y<=na+nb)
   (Q:=fun c st'=>(∃ r rest,c=(some r,rest)/\Q r st')\/∃ out ja jb ac bc,c=(none,ja,jb,out,ac,bc)/\st'=z1M st g/\Mrh rk a.toList b.toList out.toList.reverse ja jb/\0 < ja/\1 < jb/\ja < a.size/\jb<=b.size/\ja+jb+1<=na+nb)
   ?istep ?ifin ⟨_,_,_,_,_,rfl,rfl,m,i1,i2,i3,i4,by lia⟩) ?ipost)
  case ifin=>
   rintro c st' hI3
   apply el5 (c:=c) (s:=st') hI3
   intro out ja jb ac bc p3
   have m:=p3.1
   have j1:=p3.2.1
   have j2:=p3.2.2.1
   have j3:=p3.2.2.2.1
   have j4:=p3.2.2.2.2.1
   have j5:=p3.2.2.2.2.2
   clear p3 hI3
   exact .inr ⟨_,_,_,_,_,rfl,rfl,m,j1,j2,j3,j4,by lia⟩
  case istep=>
   rintro y c st' _ hy hI4
   apply el5 (c:=c) (s:=st') hI4
   intro out ja jb ac bc p4
   have m:=p4.1
   have j1:=p4.2.1
   have j2:=p4.2.2.1
   have j3:=p4.2.2.2.1
   have j4:=p4.2.2.2.2.1
   have j5:=p4.2.2.2.2.2
   clear p4 hI4
   obtain⟨ja,rfl⟩:∃ i,ja=i+1:=⟨ja - 1,by lia⟩
   obtain⟨jb,rfl⟩:∃ i,jb=i+1:=⟨jb - 1,by lia⟩
   dsimp only[Nat.add_one_sub_one]
   obtain⟨pb,eb,mb⟩:=z1C (xs:=b) (i:=jb) (by lia)
   obtain⟨pa,ea,ma⟩:=z1C (xs:=a) (i:=ja) (by lia)
   refine wpS_bind (z0s eb (wpS_bind (z0s ea (wpS_bind (z7k hL hk (hmb _ mb) (hma _ ma) ?_)))))
   by_cases hw:rk pb < rk pa
   ·refine z0e (by simpa using hw) ?_
    refine wpS_bind (z0s ea ?_)
    have m':Mrh rk a.toList b.toList (out.push pa).toList.reverse ja (jb+1):=by
     have:=m.moveA ha ja (by lia) (by
      rw[z26 (z1J ea)]
      intro x hx y hy
      obtain rfl:=List.mem_singleton.mp hy
      obtain⟨j,hj,hj2,e⟩:=za7 hx
      have:=sb j jb (by lia) (by lia) (by lia)
      rw[z0C eb,z2x e] at this
      lia)
     rw[z26 (z1J ea)] at this
     simpa using this
    by_cases c3:ja=0
    ·refine z0e (by simpa using c3) ?_
     exact wpS_pure (.inl ⟨_,_,rfl,fin _ _ _ g m' (.inl c3)⟩)
    refine z0a (by simpa using c3) ?_
    split
    ·exact wpS_pure (.inr ⟨_,_,_,_,_,rfl,rfl,m',by lia,j2,by lia,j4,by lia⟩)
    ·exact wpS_pure ⟨_,_,_,_,_,rfl,rfl,m',by lia,j2,by lia,j4,by lia⟩
   ·refine z0a (by simpa using hw) ?_
    refine wpS_bind (z0s eb ?_)
    have m':Mrh rk a.toList b.toList (out.push pb).toList.reverse (ja+1) jb:=by
     have:=m.moveB hb jb (by lia) (by
      rw[z26 (z1J eb)]
      intro x hx y hy
      obtain rfl:=List.mem_singleton.mp hy
      obtain⟨j,hj,hj2,e⟩:=za7 hx
      have:=sa j ja (by lia) (by lia) (by lia)
      rw[z0C ea,z2x e] at this
      lia)
     rw[z26 (z1J eb)] at this
     simpa using this
    by_cases c3:jb=1
    ·refine z0e (by simpa using c3) ?_
     exact wpS_pure (.inl ⟨_,_,rfl,fin2 _ _ _ g m' c3⟩)
    refine z0a (by simpa using c3) ?_
    split
    ·exact wpS_pure (.inr ⟨_,_,_,_,_,rfl,rfl,m',j1,by lia,by lia,by lia,by lia⟩)
    ·exact wpS_pure ⟨_,_,_,_,_,rfl,rfl,m',j1,by lia,by lia,by lia,by lia⟩
  case ipost=>
   rintro c st' (hA | hI5)
   ·obtain⟨r,rest,rfl,q⟩:=hA
    obtain⟨r1,r2,r3,r4,r5⟩:=rest
    exact wpS_pure ⟨_,_,rfl,q⟩
   apply el5 (c:=c) (s:=st') hI5
   intro out ka kb ac bc p5
   have m:=p5.1
   have j1:=p5.2.1
   have j2:=p5.2.2.1
   have j3:=p5.2.2.2.1
   have j4:=p5.2.2.2.2.1
   have j5:=p5.2.2.2.2.2
   clear p5 hI5
   dsimp only
   refine wpS_bind (wpS_lift (wpAny_rule ⟨rfl,?_⟩))
   refine wpS_bind (wpS_mono (wpS_forRange
    (I:=fun y c st'=>∃ out ja jb mg ac bc g,c=(none,ja,jb,out,mg,ac,bc)/\st'=z1M st g/\Mrh rk a.toList b.toList out.toList.reverse ja jb/\0 < ja/\1 < jb/\ja < a.size/\jb<=b.size/\ja+jb+1<=na+nb)
    (Q:=fun c st'=>(∃ r rest,c=(some r,rest)/\Q r st')\/∃ out ja jb mg ac bc g,c=(none,ja,jb,out,mg,ac,bc)/\st'=z1M st g/\Mrh rk a.toList b.toList out.toList.reverse ja jb/\0 < ja/\1 < jb/\ja < a.size/\jb<=b.size/\ja+jb+1<=na+nb)
    ?gstep ?gfin ⟨_,_,_,_,_,_,g,rfl,rfl,m,j1,j2,j3,j4,j5⟩) ?gpost)
   case gfin=>
    rintro c st' z
    exact .inr z
   case gpost=>
    rintro c st' (hA | hI6)
    ·obtain⟨r,rest,rfl,q⟩:=hA
     obtain⟨r1,r2,r3,r4,r5,r6⟩:=rest
     exact wpS_pure ⟨_,_,rfl,q⟩
    apply el7 (c:=c) (s:=st') hI6
    intro out ka kb mg ac bc g p6
    have m:=p6.1
    have j1:=p6.2.1
    have j2:=p6.2.2.1
    have j3:=p6.2.2.2.1
    have j4:=p6.2.2.2.2.1
    have j5:=p6.2.2.2.2.2
    clear p6 hI6
    dsimp only
    show wpS M A E s (z1L _ >>= _) _ _
    rw[z1x]
    refine wpS_bind (wpS_modify (wpS_pure ⟨_,_,_,_,mg+1,rfl,rfl,m,j1,j2,j3,j4,by lia⟩))
   case gstep=>
    clear m j1 j2 j3 j4 j5 out ka kb ac bc g
    rintro y c st' _ hy hI7
    apply el7 (c:=c) (s:=st') hI7
    intro out ja jb mg ac bc g p7
    have m:=p7.1
    have j1:=p7.2.1
    have j2:=p7.2.2.1
    have j3:=p7.2.2.2.1
    have j4:=p7.2.2.2.2.1
    have j5:=p7.2.2.2.2.2
    clear p7 hI7
    obtain⟨jb,rfl⟩:∃ i,jb=i+1:=⟨jb - 1,by lia⟩
    dsimp only[Nat.add_one_sub_one]
    obtain⟨pb,eb,mb⟩:=z1C (xs:=b) (i:=jb) (by lia)
    refine zgk (α:=Nat) (P := ?pp1) ?tl1 ?us1
    case us1=>
     intro J
     by_cases cg:mg > 1
     ·refine z0e cg ?_
      generalize mg - 1=mg'
      exact J mg'
     ·refine z0a cg ?_
      exact J mg
    intro mg'
    show wpS M A E s (z1L _ >>= _) _ _
    rw[z1x]
    refine wpS_bind (wpS_modify ?_)
    refine wpS_bind (z0s eb ?_)
    refine wpS_bind (z6x hL hk (hmb _ mb) hma (by lia) (by lia) (fun p q p1 p2 p3=>sa p q (by lia) p2 (by lia)) fun k hk1 g1 g2 => ?_)
    simp only[Nat.zero_add] at g1 g2
    dsimp only
    have mA:Mrh rk a.toList b.toList ((a.toList.take ja).drop k++out.toList.reverse) k (jb+1):=m.moveA ha k hk1 (by
     intro x hx y hy
     obtain⟨i,hi,hi2,e⟩:=za7 hx
     obtain⟨j,hj,hj2,hj3,e2⟩:=zdy hy
     have q1:=g2 j hj hj2
     have q2:=sb i jb (by lia) (by lia) (by lia)
     rw[z2x e2] at q1
     rw[z0C eb,z2x e] at q2
     lia)
    have hgt:z2a rk (a.toList.take k) [pb]:=by
     intro x hx y hy
     obtain rfl:=List.mem_singleton.mp hy
     obtain⟨j,hj,hj2,e⟩:=za7 hx
     have:=g1 j hj
     rw[z2x e] at this
     lia
    refine zcE (H:=fun(ka:Nat) (out1:Array Keyed)=>0 < ka/\ka<=ja/\Mrh rk a.toList b.toList out1.toList.reverse ka (jb+1)/\z2a rk (a.toList.take ka) [pb]) (P := ?pp2) ?tl2 ?us2
    case us2=>
     intro J
     have hk2:=hk1
     have hg:=hgt
     by_cases c3:ja - k > 0
     ·refine z0e c3 ?_
      have mA':Mrh rk a.toList b.toList (out++(a.extract k ja).reverse).toList.reverse k (jb+1):=by
       rw[Array.toList_append,List.reverse_append,Array.toList_reverse,List.reverse_reverse,z2A, <- List.drop_take]; exact mA
      by_cases c4:k=0
      ·refine z0e (by simpa using c4) ?_
       exact wpS_pure (.inl ⟨_,_,rfl,fin _ _ _ mg' mA' (.inl c4)⟩)
      refine z0a (by simpa using c4) ?_
      generalize out++(a.extract k ja).reverse=out1 at mA' ⊢
      generalize k=ka at mA' hg hk2 c4 ⊢
      exact J ka out1 ⟨by lia,hk2,mA',hg⟩
     ·refine z0a c3 ?_
      obtain rfl:k=ja:=by lia
      exact J k out ⟨by lia,by lia,m,hg⟩
    clear mA hgt g1 g2
    rintro ka out1 ⟨kl,kn,mA',hgt⟩
    refine wpS_bind (z0s eb ?_)
    have mB:Mrh rk a.toList b.toList (out1.push pb).toList.reverse ka jb:=by
     have:=mA'.moveB hb jb (by lia) (by rw[z26 (z1J eb)]; exact hgt)
     rw[z26 (z1J eb)] at this
     simpa using this
    by_cases c6:jb=1
    case pos=>
     refine z0e (by simpa using c6) ?_
     exact wpS_pure (.inl ⟨_,_,rfl,fin2 _ _ _ mg' mB c6⟩)
    refine z0a (by simpa using c6) ?_
    obtain⟨kc,ekc⟩:∃ i,ka=i+1:=⟨ka - 1,by lia⟩
    subst ekc
    dsimp only[Nat.add_one_sub_one]
    obtain⟨pa,ea,ma⟩:=z1C (xs:=a) (i:=kc) (by lia)
    refine wpS_bind (z0s ea ?_)
    refine wpS_bind (z6y hL hk (hma _ ma) hmb (by lia) (by lia) (fun p q p1 p2 p3=>sb p q (by lia) p2 (by lia)) fun l hl1 f1 f2 => ?_)
    simp only[Nat.zero_add] at f1 f2
    dsimp only
    have mC:Mrh rk a.toList b.toList ((b.toList.take jb).drop l++(out1.push pb).toList.reverse) (kc+1) l:=mB.moveB hb l hl1 (by
     intro x hx y hy
     obtain⟨i,hi,hi2,e⟩:=za7 hx
     obtain⟨j,hj,hj2,hj3,e2⟩:=zdy hy
     have q1:=f2 j hj hj2
     have q2:=sa i kc (by lia) (by lia) (by lia)
     rw[z2x e2] at q1
     rw[z0C ea,z2x e] at q2
     lia)
    have hgt2:z2a rk (b.toList.take l) [pa]:=by
     intro x hx y hy
     obtain rfl:=List.mem_singleton.mp hy
     obtain⟨j,hj,hj2,e⟩:=za7 hx
     have:=f1 j hj
     rw[z2x e] at this
     lia
    refine zcE (H:=fun(kb:Nat) (out2:Array Keyed)=>1 < kb/\kb<=jb/\Mrh rk a.toList b.toList out2.toList.reverse (kc+1) kb/\z2a rk (b.toList.take kb) [pa]) (P := ?pp3) ?tl3 ?us3
    case us3=>
     intro J
     have hk2:=hl1
     have hg:=hgt2
     by_cases c7:jb - l > 0
     ·refine z0e c7 ?_
      have mC':Mrh rk a.toList b.toList (out1.push pb++(b.extract l jb).reverse).toList.reverse (kc+1) l:=by
       rw[Array.toList_append,List.reverse_append,Array.toList_reverse,List.reverse_reverse,z2A, <- List.drop_take]; exact mC
      by_cases c8:l=1
      ·refine z0e (by simpa using c8) ?_
       exact wpS_pure (.inl ⟨_,_,rfl,fin2 _ _ _ mg' mC' c8⟩)
      refine z0a (by simpa using c8) ?_
      by_cases c8':l=0
      ·refine z0e (by simpa using c8') ?_
       exact wpS_pure (.inl ⟨_,_,rfl,fin _ _ _ mg' mC' (.inr c8')⟩)
      refine z0a (by simpa using c8') ?_
      generalize out1.push pb++(b.extract l jb).reverse=out2 at mC' ⊢
      generalize l=kb at mC' hg hk2 c8 c8' ⊢
      exact J kb out2 ⟨by lia,hk2,mC',hg⟩
     ·refine z0a c7 ?_
      obtain rfl:l=jb:=by lia
      exact J l (out1.push pb) ⟨by lia,by lia,mB,hgt2⟩
    clear mC hgt2 f1 f2
    rintro kb out2 ⟨kbl,kbn,mC',hgt2⟩
    refine wpS_bind (z0s ea ?_)
    have mD:Mrh rk a.toList b.toList (out2.push pa).toList.reverse kc kb:=by
     have:=mC'.moveA ha kc (by lia) (by rw[z26 (z1J ea)]; exact hgt2)
     rw[z26 (z1J ea)] at this
     simpa using this
    by_cases c9:kc=0
    case pos=>
     refine z0e (by simpa using c9) ?_
     exact wpS_pure (.inl ⟨_,_,rfl,fin _ _ _ mg' mD (.inl c9)⟩)
    refine z0a (by simpa using c9) ?_
    split
    ·exact wpS_pure (.inr ⟨_,_,_,_,_,_,mg',rfl,rfl,mD,by lia,by lia,by lia,by lia,by lia⟩)
    ·exact wpS_pure ⟨_,_,_,_,_,_,mg',rfl,rfl,mD,by lia,by lia,by lia,by lia,by lia⟩
end
section
variable {M:Model}{A:Around}{E:Value->Shared->Prop}{s:Shared}{rk:Keyed->Nat}{κ:SortKind}{a₀:Array Keyed}
def Runs (rk:Keyed->Nat)(xs:Array Keyed):List (Nat × Nat)->Nat->Nat->Prop
 | [],i,j=>i=j
 | (b,n)::r,i,j=>b=i/\1<=n/\Seg rk xs i (i+n)/\Runs rk xs r (i+n) j
def Runs.le {xs:Array Keyed}:∀ {l:List (Nat × Nat)}{i j:Nat},Runs rk xs l i j->i+l.length<=j
 | [],i,j,h=>by cases h; simp
 | (b,n)::r,i,j,h=>by
  have:=Runs.le h.2.2.2
  have:=h.2.1
  simp only[List.length_cons]; lia
def Runs.app {xs:Array Keyed}:∀ {l m:List (Nat × Nat)}{i j:Nat},Runs rk xs (l++m) i j↔∃ k,Runs rk xs l i k/\Runs rk xs m k j
 | [],m,i,j=>⟨fun h=>⟨i,rfl,h⟩,fun⟨k,h,h'⟩=>by cases h; exact h'⟩
 | (b,n)::r,m,i,j=>by
  constructor
  ·rintro⟨h1,h2,h3,h4⟩
   obtain⟨k,q1,q2⟩:=Runs.app.mp h4
   exact⟨k,⟨h1,h2,h3,q1⟩,q2⟩
  ·rintro⟨k,⟨h1,h2,h3,h4⟩,q⟩
   exact⟨h1,h2,h3,Runs.app.mpr ⟨k,h4,q⟩⟩
def Seg.congr {xs ys:Array Keyed}{i j:Nat}(e:∀ k,i<=k->k < j->ys[k]? = xs[k]?)(h:Seg rk xs i j):Seg rk ys i j:=fun p q h1 h2 h3=>by
 rw[z1q (e p h1 (by lia)),z1q (e q (by lia) h3)]
 exact h p q h1 h2 h3
def Runs.congr {xs ys:Array Keyed}:∀ {l:List (Nat × Nat)}{i j:Nat},(∀ k,i<=k->k < j->ys[k]? = xs[k]?)->Runs rk xs l i j->Runs rk ys l i j
 | [],_,_,_,h=>h
 | (b,n)::r,i,j,e,h=>by
  have:=Runs.le h.2.2.2
  exact⟨h.1,h.2.1,h.2.2.1.congr fun k h1 h2=>e k h1 (by lia),Runs.congr (fun k h1 h2=>e k (by lia) h2) h.2.2.2⟩
def prs (p:Array (Nat × Nat × Nat)):List (Nat × Nat):=p.toList.map fun r=>(r.1,r.2.1)
def zaX (p:Array (Nat × Nat × Nat)):(prs p).length=p.size:=by simp[prs]
def zeZ (i:Nat):∀ (m:List Keyed) (n:Nat) (arr:Array Keyed),i+n+m.length<=arr.size->
  ((m.zipIdx n).foldl (fun a x=>match x with | (p,j)=>a.setIfInBounds (i+j) p) arr).size=arr.size/\
  ∀ k,((m.zipIdx n).foldl (fun a x=>match x with | (p,j)=>a.setIfInBounds (i+j) p) arr)[k]? = if i+n<=k/\k < i+n+m.length then m[k - (i+n)]? else arr[k]?
 | [],n,arr,_=>⟨rfl,fun k=>by rw[if_neg (by simp)]; rfl⟩
 | x::m,n,arr,h=>by
  simp only[List.length_cons] at h
  have ih:=zeZ i m (n+1) (arr.setIfInBounds (i+n) x) (by rw[Array.size_setIfInBounds]; lia)
  rw[List.zipIdx_cons,List.foldl_cons]
  refine⟨ih.1.trans Array.size_setIfInBounds,fun k => ?_⟩
  rw[ih.2 k]
  simp only[List.length_cons]
  by_cases h1:i+(n+1)<=k/\k < i+(n+1)+m.length
  ·rw[if_pos h1,if_pos (by lia),show k - (i+n)=k - (i+(n+1))+1 by lia,List.getElem?_cons_succ]
  ·rw[if_neg h1]
   by_cases h2:k=i+n
   ·subst h2
    rw[if_pos (by lia),Nat.sub_self,Array.getElem?_setIfInBounds_self_of_lt (by lia)]; rfl
   ·rw[if_neg (by lia),Array.getElem?_setIfInBounds_ne (by lia)]
def z5c (hL:Asks M A s κ a₀ rk){st:SortSt}{i hi:Nat}{Q:Bool->SortSt->Prop}(hB:TB κ a₀ st)(hr:Runs rk (arrOf st) (prs (pendingOf st)) 0 hi)(hhi:hi<=a₀.size)(hi1:i+1 < (pendingOf st).size)
  (h:∀ st',TB κ a₀ st'->Runs rk (arrOf st') (prs (pendingOf st')) 0 hi->(pendingOf st').size+1=(pendingOf st).size->(∀ k,hi<=k->(arrOf st')[k]? = (arrOf st)[k]?)->Q true st'):
  wpS M A E s (mergeAt' i) Q st:=by
 obtain⟨kd,X,P,G,F⟩:=st
 replace hi1:i+1 < P.size:=hi1
 replace h:∀ st',TB κ a₀ st'->Runs rk (arrOf st') (prs (pendingOf st')) 0 hi->(pendingOf st').size+1=P.size->(∀ k,hi<=k->(arrOf st')[k]? = X[k]?)->Q true st':=h
 obtain⟨⟨sa,na,pw⟩,ep⟩:∃ v,P[i]? = some v:=⟨_,getElem?_pos _ i (by lia)⟩
 obtain⟨⟨sb,nb,pw2⟩,ep2⟩:∃ v,P[i+1]? = some v:=⟨_,getElem?_pos _ (i+1) hi1⟩
 obtain⟨l1,l2,el,ll⟩:∃ l1 l2,P.toList=l1++(sa,na,pw)::(sb,nb,pw2)::l2/\l1.length=i:=by
  have e1:P.toList[i]? = some (sa,na,pw):=by rw[Array.getElem?_toList]; exact ep
  have e2:P.toList[i+1]? = some (sb,nb,pw2):=by rw[Array.getElem?_toList]; exact ep2
  obtain⟨q1,r1⟩:=List.getElem?_eq_some_iff.mp e1
  obtain⟨q2,r2⟩:=List.getElem?_eq_some_iff.mp e2
  refine⟨P.toList.take i,P.toList.drop (i+2),?_,by rw[List.length_take]; lia⟩
  rw[<- r1, <- r2, <- List.drop_eq_getElem_cons q2, <- List.drop_eq_getElem_cons q1,List.take_append_drop]
 have hr':Runs rk X (prs P) 0 hi:=hr
 unfold prs at hr'
 rw[el,List.map_append,List.map_cons,List.map_cons] at hr'
 obtain⟨k0,r1,r2⟩:=Runs.app.mp hr'
 obtain⟨f1,f2,f3,f4,f5,f6,f7⟩:=r2
 dsimp only at f1 f2 f3 f4 f5 f6 f7
 subst f1
 subst f4
 have hend:=Runs.le f7
 have hsz:X.size=a₀.size:=hB.size
 have hpend:(P.setIfInBounds i (sa,na+nb,pw)).eraseIdxIfInBounds (i+1)=(l1++(sa,na+nb,pw)::l2).toArray:=by
  apply Array.toList_inj.mp
  rw[Array.toList_eraseIdxIfInBounds,Array.toList_setIfInBounds,el, <- ll,List.set_append_right _ _ (Nat.le_refl _),Nat.sub_self,List.set_cons_zero,List.eraseIdx_append_of_length_le (by lia),show l1.length+1 - l1.length=1 by lia]
  rfl
 have hps:P.size=l1.length+l2.length+2:=by
  rw[<- Array.length_toList,el,List.length_append,List.length_cons,List.length_cons]; lia
 have fin:∀ (st':SortSt),TB κ a₀ st'->pendingOf st'=(P.setIfInBounds i (sa,na+nb,pw)).eraseIdxIfInBounds (i+1)->Seg rk (arrOf st') sa (sa+na+nb)->(∀ k,k < sa\/sa+na+nb<=k->(arrOf st')[k]? = X[k]?)->Q true st':=by
  intro st' hB' hp' hs' ho
  refine h st' hB' ?_ ?_ (fun k hk=>ho k (.inr (by lia)))
  ·rw[hp',hpend]
   unfold prs
   rw[List.map_append,List.map_cons]
   refine Runs.app.mpr ⟨sa,r1.congr (fun k _ hk=>ho k (.inl hk)),rfl,(by show 1<=na+nb; lia),?_,?_⟩
   ·rw[show sa+(na+nb)=sa+na+nb by lia]; exact hs'
   ·rw[show sa+(na+nb)=sa+na+nb by lia]; exact f7.congr (fun k hk _=>ho k (.inr hk))
  ·rw[hp',hpend,hps]
   show (l1++(sa,na+nb,pw)::l2).length+1=_
   rw[List.length_append,List.length_cons]; lia
 refine wpS_bind (wpS_get ?_)
 rw[ep,ep2]
 dsimp only
 refine wpS_bind ?_
 show wpS M A E s (set (setPending (SortSt.mk' kd X P G F) ((P.setIfInBounds i (sa,na+nb,pw)).eraseIdxIfInBounds (i+1))):StateT SortSt Sem PUnit) _ (SortSt.mk' kd X P G F)
 obtain⟨st1,e1⟩:∃ st1:SortSt,st1=setPending (SortSt.mk' kd X P G F) ((P.setIfInBounds i (sa,na+nb,pw)).eraseIdxIfInBounds (i+1)):=⟨_,rfl⟩
 rw[<- e1]
 have hset:∀ (R:PUnit->SortSt->Prop),R ⟨⟩ st1->wpS M A E s (set st1:StateT SortSt Sem PUnit) R (SortSt.mk' kd X P G F):=fun R hR=>by
  unfold wpS
  rw[StateT.run_set]
  exact wpAny_pure ⟨rfl,hR⟩
 refine hset _ ?_
 have a1:arrOf st1=X:=by rw[e1]
 have p1:pendingOf st1=(P.setIfInBounds i (sa,na+nb,pw)).eraseIdxIfInBounds (i+1):=by rw[e1]
 have hB1:TB κ a₀ st1:=by rw[e1]; exact⟨hB.kind,hB.failed,hB.perm⟩
 clear e1
 have hmem:∀ p∈X.toList,p∈a₀.toList:=fun p hp=>hB.mem (st:=SortSt.mk' kd X P G F) hp
 obtain⟨qb,eb,mb⟩:=z1C (xs:=X) (i:=sa+na) (by lia)
 refine wpS_bind (z0s eb ?_)
 refine wpS_bind (z6x hL hB1.kind (hmem _ mb) hmem (by lia) (by lia) f3 fun k hk1 g1 g2 => ?_)
 dsimp only
 by_cases c1:na - k=0
 ·rw[if_pos (by simpa using c1)]
  obtain rfl:k=na:=by lia
  refine wpS_pure (fin st1 hB1 p1 (fun p q x1 x2 x3 => ?_) (fun k _=>by rw[a1]))
  rw[a1]
  by_cases y1:q < sa+k
  ·exact f3 p q x1 x2 y1
  ·by_cases y2:sa+k<=p
   ·exact f6 p q y2 x2 x3
   ·have z1:=g1 (p - sa) (by lia)
    have z2:=f6 (sa+k) q (by lia) (by lia) x3
    rw[show sa+(p - sa)=p by lia] at z1
    rw[z0C eb] at z2
    lia
 rw[if_neg (by simpa using c1)]
 rw[show sa+k+(na - k) - 1=sa+na - 1 by lia]
 obtain⟨qa,ea,ma⟩:=z1C (xs:=X) (i:=sa+na - 1) (by lia)
 refine wpS_bind (z0s ea ?_)
 refine wpS_bind (z6y hL hB1.kind (hmem _ ma) hmem (by lia) (by lia) f6 fun l hl1 u1 u2 => ?_)
 dsimp only
 by_cases c2:l=0
 ·rw[if_pos (by simpa using c2)]
  refine wpS_pure (fin st1 hB1 p1 (fun p q x1 x2 x3 => ?_) (fun k _=>by rw[a1]))
  rw[a1]
  by_cases y1:q < sa+na
  ·exact f3 p q x1 x2 y1
  ·by_cases y2:sa+na<=p
   ·exact f6 p q y2 x2 x3
   ·have z1:=u2 (q - (sa+na)) (by lia) (by lia)
    have z2:=f3 p (sa+na - 1) x1 (by lia) (by lia)
    rw[show sa+na+(q - (sa+na))=q by lia] at z1
    rw[z0C ea] at z2
    lia
 rw[if_neg (by simpa using c2)]
 have back:∀ (r:Array Keyed) (g:Nat),Up rk r.toList->r.toList.Perm ((X.extract (sa+k) (sa+na)).toList++(X.extract (sa+na) (sa+na+l)).toList)->
   ∀ (arr':Array Keyed),arr'=r.toList.zipIdx.foldl (fun a x=>match x with | (p,j)=>a.setIfInBounds (sa+k+j) p) X->Q true (setArr (z1M st1 g) arr'):=by
  intro r g ru rp arr' earr
  have rl:r.toList.length=na - k+l:=by
   rw[rp.length_eq,List.length_append,Array.length_toList,Array.length_toList,Array.size_extract,Array.size_extract]; lia
  have w:=zeZ (sa+k) r.toList 0 X (by lia)
  rw[<- earr] at w
  simp only[Nat.add_zero,rl] at w
  rw[show sa+k+(na - k+l)=sa+na+l by lia] at w
  have rm:∀ x∈r.toList,Rk rk X (sa+na)<=rk x/\rk x<=Rk rk X (sa+na - 1):=by
   intro x hx
   rcases List.mem_append.mp (rp.mem_iff.mp hx) with hx | hx
   ·rw[z2A] at hx
    obtain⟨j,j1,j2,je⟩:=z4l hx
    have z1:=g2 (k+j) (by lia) (by lia)
    have z2:=f3 (sa+k+j) (sa+na - 1) (by lia) (by lia) (by lia)
    rw[show sa+(k+j)=sa+k+j by lia,z2x je] at z1
    rw[z2x je] at z2
    rw[z0C eb]
    lia
   ·rw[z2A] at hx
    obtain⟨j,j1,j2,je⟩:=z4l hx
    have z1:=u1 j (by lia)
    have z2:=f6 (sa+na) (sa+na+j) (by lia) (by lia) (by lia)
    rw[z2x je] at z1 z2
    rw[z0C ea]
    lia
  have at1:∀ p,p < sa+k\/sa+na+l<=p->arr'[p]? = X[p]? := fun p hp=>by rw[w.2 p,if_neg (by lia)]
  have at2:∀ p,sa+k<=p->p < sa+na+l->∃ x,x∈r.toList/\r.toList[p - (sa+k)]? = some x/\Rk rk arr' p=rk x:=fun p h1 h2=>by
   have hlt:p - (sa+k) < r.toList.length:=by lia
   refine⟨r.toList[p - (sa+k)],List.getElem_mem hlt,List.getElem?_eq_getElem hlt,z0C ?_⟩
   rw[w.2 p,if_pos ⟨h1,h2⟩,List.getElem?_eq_getElem hlt]
  have hperm:arr'.Perm X:=by
   apply Array.perm_iff_toList_perm.mpr
   have ex:arr'.toList=X.toList.take (sa+k)++(r.toList++X.toList.drop (sa+na+l)):=by
    apply List.ext_getElem?
    intro p
    rw[Array.getElem?_toList,w.2 p,List.getElem?_append,List.length_take,Array.length_toList,Nat.min_eq_left (by lia)]
    by_cases h1:p < sa+k
    ·rw[if_neg (by lia),if_pos h1,List.getElem?_take,if_pos h1,Array.getElem?_toList]
    ·rw[if_neg h1,List.getElem?_append,rl]
     by_cases h2:p < sa+na+l
     ·rw[if_pos (by lia),if_pos (by lia)]
     ·rw[if_neg (by lia),if_neg (by lia),List.getElem?_drop,Array.getElem?_toList]
      congr 1; lia
   have ey:X.toList=X.toList.take (sa+k)++(((X.extract (sa+k) (sa+na)).toList++(X.extract (sa+na) (sa+na+l)).toList)++X.toList.drop (sa+na+l)):=by
    rw[z2A,z2A]
    have d1:=z5a X.toList (sa+k) (sa+na - (sa+k))
    have d2:=z5a X.toList (sa+na) (sa+na+l - (sa+na))
    rw[show sa+k+(sa+na - (sa+k))=sa+na by lia] at d1
    rw[show sa+na+(sa+na+l - (sa+na))=sa+na+l by lia] at d2
    rw[List.append_assoc, <- d2, <- d1,List.take_append_drop]
   rw[ex]
   conv=>rhs; rw[ey]
   exact List.Perm.append_left _ (List.Perm.append_right _ rp)
  refine fin _ ⟨hB1.kind,hB1.failed,hperm.trans hB.perm⟩ p1 (fun p q x1 x2 x3 => ?_) (fun p hp=>at1 p (by lia))
  show Rk rk arr' p<=Rk rk arr' q
  by_cases p2:p < sa+k
  ·rw[z1q (at1 p (.inl p2))]
   by_cases q2:q < sa+k
   ·rw[z1q (at1 q (.inl q2))]; exact f3 p q x1 x2 (by lia)
   ·have z1:=g1 (p - sa) (by lia)
    rw[show sa+(p - sa)=p by lia] at z1
    by_cases q3:q < sa+na+l
    ·obtain⟨x,xm,_,xr⟩:=at2 q (by lia) q3
     rw[xr]
     have:=(rm x xm).1
     rw[z0C eb] at this
     lia
    ·rw[z1q (at1 q (.inr (by lia)))]
     have:=f6 (sa+na) q (by lia) (by lia) x3
     rw[z0C eb] at this
     lia
  ·by_cases p3:p < sa+na+l
   ·obtain⟨x,xm,xi,xr⟩:=at2 p (by lia) p3
    rw[xr]
    by_cases q3:q < sa+na+l
    ·obtain⟨y,ym,yi,yr⟩:=at2 q (by lia) q3
     rw[yr]
     by_cases epq:p=q
     ·subst epq; rw[xi] at yi; cases yi; exact Nat.le_refl _
     ·obtain⟨v1,w1⟩:=List.getElem?_eq_some_iff.mp xi
      obtain⟨v2,w2⟩:=List.getElem?_eq_some_iff.mp yi
      have:=List.pairwise_iff_getElem.mp ru (p - (sa+k)) (q - (sa+k)) v1 v2 (by lia)
      rw[w1,w2] at this
      exact this
    ·rw[z1q (at1 q (.inr (by lia)))]
     have z1:=(rm x xm).2
     have z2:=u2 (q - (sa+na)) (by lia) (by lia)
     rw[show sa+na+(q - (sa+na))=q by lia] at z2
     rw[z0C ea] at z1
     lia
   ·rw[z1q (at1 p (.inr (by lia))),z1q (at1 q (.inr (by lia)))]
    exact f6 p q (by lia) x2 x3
 have upx:Up rk (X.extract (sa+k) (sa+na)).toList:=z9d (fun p q x1 x2 x3=>f3 p q (by lia) x2 x3) (by lia)
 have upy:Up rk (X.extract (sa+na) (sa+na+l)).toList:=z9d (fun p q x1 x2 x3=>f6 p q x1 x2 (by lia)) (by lia)
 have szx:(X.extract (sa+k) (sa+na)).size=na - k:=by rw[Array.size_extract]; lia
 have szy:(X.extract (sa+na) (sa+na+l)).size=l:=by rw[Array.size_extract]; lia
 have mx:∀ p∈(X.extract (sa+k) (sa+na)).toList,p∈a₀.toList:=fun p hp=>hmem p (by rw[z2A] at hp; exact List.mem_of_mem_drop (List.mem_of_mem_take hp))
 have my:∀ p∈(X.extract (sa+na) (sa+na+l)).toList,p∈a₀.toList:=fun p hp=>hmem p (by rw[z2A] at hp; exact List.mem_of_mem_drop (List.mem_of_mem_take hp))
 have c3:z2a rk ((X.extract (sa+na) (sa+na+l)).toList.take 1) (X.extract (sa+k) (sa+na)).toList:=by
  intro x hx y hy
  rw[z2A] at hx hy
  rw[List.take_take] at hx
  obtain⟨i1,j1,j2,je⟩:=z4l hx
  obtain⟨i2,k1,k2,ke⟩:=z4l hy
  have z1:=g2 (k+i2) (by lia) (by lia)
  rw[show sa+(k+i2)=sa+k+i2 by lia,z2x ke] at z1
  obtain rfl:i1=0:=by lia
  have z3:Rk rk X (sa+na)=rk x:=z2x je
  rw[z0C eb] at z3
  lia
 have c4:z2a rk (X.extract (sa+na) (sa+na+l)).toList ((X.extract (sa+k) (sa+na)).toList.drop ((X.extract (sa+k) (sa+na)).size - 1)):=by
  intro x hx y hy
  rw[z2A] at hx
  obtain⟨i1,j1,j2,je⟩:=z4l hx
  rw[szx] at hy
  obtain⟨i2,k2,ke⟩:=z8N hy
  rw[Array.length_toList,szx] at k2
  obtain rfl:i2=0:=by lia
  have z1:=u1 i1 (by lia)
  rw[z2x je] at z1
  rw[Array.getElem?_toList,Array.getElem?_extract,if_pos (by lia),show sa+k+(na - k - 1+0)=sa+na - 1 by lia,ea] at ke
  cases ke
  lia
 have last:∀ (r:Array Keyed) (g:Nat),Up rk r.toList->r.toList.Perm ((X.extract (sa+k) (sa+na)).toList++(X.extract (sa+na) (sa+na+l)).toList)->
   Q ((failedOf st1).isNone) (setArr (z1M st1 g) (r.toList.zipIdx.foldl (fun a x=>match x with | (p,j)=>a.setIfInBounds (sa+k+j) p) (arrOf st1))):=fun r g ru rp=>by
  rw[hB1.failed,a1]
  exact back r g ru rp _ rfl
 by_cases c5:na - k<=l
 ·rw[if_pos c5]
  refine wpS_bind (z8u hL hB1.kind mx my upx upy (by lia) (by lia) c3 c4 fun r g ru rp => ?_)
  exact wpS_bind (wpS_modify (wpS_bind (wpS_get (wpS_pure (last r g ru rp)))))
 ·rw[if_neg c5]
  refine wpS_bind (z8v hL hB1.kind mx my upx upy (by lia) (by lia) c3 c4 fun r g ru rp => ?_)
  exact wpS_bind (wpS_modify (wpS_bind (wpS_get (wpS_pure (last r g ru rp)))))
end
section
variable {M:Model}{A:Around}{E:Value->Shared->Prop}{s:Shared}{rk:Keyed->Nat}{κ:SortKind}{a₀:Array Keyed}
def zef (p:Array (Nat × Nat × Nat))(i w:Nat):prs (p.modify i fun x=>match x with | (st,len,_)=>(st,len,w))=prs p:=by
 unfold prs
 rw[Array.toList_modify]
 apply List.ext_getElem?
 intro k
 rw[List.getElem?_map,List.getElem?_map,List.getElem?_modify]
 cases p.toList[k]? with
 | none=>rfl
 | some v=>
  obtain⟨v1,v2,v3⟩:=v
  by_cases e:i=k <;> simp[e]
def zei {c:Prop}[Decidable c]{n:Nat}(h:1 < n):(if c then n - 2 - 1 else n - 2)+1 < n:=by
 split <;> lia
def zcs (p:Array (Nat × Nat × Nat))(v:Nat × Nat × Nat):prs (p.push v)=prs p++[(v.1,v.2.1)]:=by
 unfold prs; rw[Array.toList_push,List.map_append]; rfl
def z4P (hL:Asks M A s κ a₀ rk){st:SortSt}{Q:Unit->SortSt->Prop}(hB:TB κ a₀ st)(hp:pendingOf st = #[])(h1:1<=a₀.size)
  (h:∀ st',TB κ a₀ st'->Seg rk (arrOf st') 0 a₀.size->Q () st'):wpS M A E s sortRuns' Q st:=by
 refine wpS_bind (wpS_get ?_)
 dsimp only
 have hz:(PyProof.Rows.arrOf st).size=a₀.size:=hB.size
 rw[hz]
 obtain⟨mr,emr⟩:∃ mr,minRun' a₀.size a₀.size 0=mr:=⟨_,rfl⟩
 delta minRun' at emr
 rw[emr]
 refine wpS_bind (wpS_mono (wpS_forRange
  (I:=fun x c st'=>∃ lo,c=(none,lo)/\TB κ a₀ st'/\Runs rk (arrOf st') (prs (pendingOf st')) 0 lo/\lo<=a₀.size/\x<=lo)
  (Q:=fun c st'=>c=(none,a₀.size)/\TB κ a₀ st'/\Runs rk (arrOf st') (prs (pendingOf st')) 0 a₀.size) ?step ?fin ⟨0,rfl,hB,by rw[hp]; exact rfl,by lia,by lia⟩) ?post)
 case fin=>
  rintro c st' hI1
  apply elc1 (c:=c) hI1
  intro lo p1
  have hB':=p1.1
  have hr':=p1.2.1
  have l1:=p1.2.2.1
  have l2:=p1.2.2.2
  clear p1 hI1
  obtain rfl:lo=a₀.size:=by lia
  exact⟨rfl,hB',hr'⟩
 case step=>
  rintro x c st' _ hx hI2
  apply elc1 (c:=c) hI2
  intro lo p2
  have hB':=p2.1
  have hr':=p2.2.1
  have l1:=p2.2.2.1
  have l2:=p2.2.2.2
  clear p2 hI2
  dsimp only
  by_cases c1:lo>=a₀.size
  ·refine z0e c1 ?_
   obtain rfl:lo=a₀.size:=by lia
   exact wpS_pure ⟨rfl,hB',hr'⟩
  refine z0a c1 ?_
  refine wpS_bind (z7l hL (by lia) (by lia) hB' fun m st1 hB1 hp1 m1 m2 hs1 hl1 => ?_)
  dsimp only
  have hr1:Runs rk (arrOf st1) (prs (pendingOf st1)) 0 lo:=by rw[hp1]; exact hr'.congr (fun k _ hk=>hl1 k hk)
  by_cases c2:m < mr
  case' pos=>
   refine z0e c2 ?_
   refine wpS_bind (wpS_lift (wpAny_rule ⟨rfl,?_⟩))
   refine wpS_bind (z5P hL (by lia) (by lia) m1 hB1 hs1 fun st2 hB2 hp2 hs2 hl2 => ?_)
   refine z0a (by decide) ?_
   have hr2:Runs rk (arrOf st2) (prs (pendingOf st2)) 0 lo:=by rw[hp2]; exact hr1.congr (fun k _ hk=>hl2 k hk)
   obtain⟨n,en,n1,n2⟩:∃ n,n=min (a₀.size - lo) mr/\1<=n/\lo+n<=a₀.size:=⟨_,rfl,by lia,by lia⟩
   rw[<- en] at hs2 ⊢
   clear en
  case' neg=>
   refine z0a c2 ?_
   obtain⟨n,en,n1,n2⟩:∃ n,n=m/\1<=n/\lo+n<=a₀.size:=⟨_,rfl,by lia,by lia⟩
   obtain⟨st2,e2,hB2,hr2⟩:∃ st2,st2=st1/\TB κ a₀ st2/\Runs rk (arrOf st2) (prs (pendingOf st2)) 0 lo:=⟨_,rfl,hB1,hr1⟩
   have hs2:Seg rk (arrOf st2) lo (lo+n):=by rw[e2,en]; exact hs1
   rw[<- en, <- e2]
   clear en e2
  all_goals
   refine wpS_bind (wpS_get ?_)
   have push:∀ st3,TB κ a₀ st3->Runs rk (arrOf st3) (prs (pendingOf st3)) 0 lo->Seg rk (arrOf st3) lo (lo+n)->TB κ a₀ (setPending st3 ((pendingOf st3).push (lo,n,0)))/\Runs rk (arrOf st3) (prs ((pendingOf st3).push (lo,n,0))) 0 (lo+n):=fun st3 hB3 hr3 hs3=>by
    refine⟨⟨hB3.kind,hB3.failed,hB3.perm⟩,?_⟩
    rw[zcs]
    exact Runs.app.mpr ⟨lo,hr3,rfl,n1,hs3,rfl⟩
   split
   ·rename_i s1 n1' w eb
    refine wpS_bind (wpS_mono (wpS_forRange (I:=fun y c st3=>c=(none,())/\TB κ a₀ st3/\Runs rk (arrOf st3) (prs (pendingOf st3)) 0 lo/\Seg rk (arrOf st3) lo (lo+n))
     (Q:=fun c st3=>c=(none,())/\TB κ a₀ st3/\Runs rk (arrOf st3) (prs (pendingOf st3)) 0 lo/\Seg rk (arrOf st3) lo (lo+n)) ?istep (fun _ _ z=>z) ⟨rfl,hB2,hr2,hs2⟩) ?ipost)
    case istep=>
     rintro y c st3 _ _ hI3
     apply elc0 (c:=c) hI3
     intro p3
     have hB3:=p3.1
     have hr3:=p3.2.1
     have hs3:=p3.2.2
     clear p3 hI3
     refine wpS_bind (wpS_get ?_)
     split
     ·rename_i f1 f2 old eo
      split
      ·exact wpS_pure ⟨rfl,hB3,hr3,hs3⟩
      ·have hgt:(pendingOf st3).size > 1:=by
        by_cases q:(pendingOf st3).size > 1
        ·exact q
        ·rw[if_neg q] at eo; cases eo
       refine wpS_bind (z5c hL hB3 hr3 l1 (by show (pendingOf st3).size - 2+1 < (pendingOf st3).size; lia) fun st4 hB4 hr4 _ ho4 => ?_)
       refine z0a (by decide) ?_
       exact wpS_pure ⟨rfl,hB4,hr4,hs3.congr fun k hk _=>ho4 k hk⟩
     ·exact wpS_pure ⟨rfl,hB3,hr3,hs3⟩
    case ipost=>
     rintro c st3 hI4
     apply elc0 (c:=c) hI4
     intro p4
     have hB3:=p4.1
     have hr3:=p4.2.1
     have hs3:=p4.2.2
     clear p4 hI4
     dsimp only
     refine wpS_bind (wpS_modify (wpS_bind (wpS_modify (wpS_pure ?_))))
     have:=push (setPending st3 ((pendingOf st3).modify ((pendingOf st3).size - 1) fun x=>match x with | (st,len,_)=>(st,len,power' a₀.size (2*s1+n1') (2*s1+n1'+n1'+n) a₀.size))) ⟨hB3.kind,hB3.failed,hB3.perm⟩ (by
      show Runs rk (arrOf st3) (prs ((pendingOf st3).modify _ _)) 0 lo
      rw[zef]; exact hr3) hs3
     exact⟨lo+n,rfl,this.1,this.2,n2,by lia⟩
   ·have:=push st2 hB2 hr2 hs2
    exact wpS_bind (wpS_modify (wpS_pure ⟨lo+n,rfl,this.1,this.2,n2,by lia⟩))
 case post=>
  rintro c st' hI5
  apply elc0 (c:=c) hI5
  intro p5
  have hB':=p5.1
  have hr':=p5.2
  clear p5 hI5
  dsimp only
  have hle:=hr'.le
  rw[zaX] at hle
  refine wpS_bind (wpS_mono (wpS_forRange (I:=fun y c st3=>c=(none,())/\TB κ a₀ st3/\Runs rk (arrOf st3) (prs (pendingOf st3)) 0 a₀.size/\((pendingOf st3).size<=1\/(pendingOf st3).size+y<=a₀.size))
   (Q:=fun c st3=>c=(none,())/\TB κ a₀ st3/\Runs rk (arrOf st3) (prs (pendingOf st3)) 0 a₀.size/\(pendingOf st3).size<=1) ?fstep ?ffin ⟨rfl,hB',hr',.inr (by lia)⟩) ?fpost)
  case ffin=>
   rintro c st3 hI6
   apply elc0 (c:=c) hI6
   intro p6
   have hB3:=p6.1
   have hr3:=p6.2.1
   have hs3:=p6.2.2
   clear p6 hI6
   exact⟨rfl,hB3,hr3,by lia⟩
  case fpost=>
   rintro c st3 hI7
   apply elc0 (c:=c) hI7
   intro p7
   have hB3:=p7.1
   have hr3:=p7.2.1
   have hs3:=p7.2.2
   clear p7 hI7
   refine wpS_pure (h st3 hB3 ?_)
   rw[<- zaX] at hs3
   match hl:prs (pendingOf st3),hr3,hs3 with
   | [],hr3,_=>have:0=a₀.size:=hr3; lia
   | [(b,n)],hr3,_=>
    obtain⟨q1,q2,q3,q4⟩:=hr3
    have:0+n=a₀.size:=q4
    rw[<- this]; exact q3
   | _::_::_,_,hs3=>simp at hs3
  case fstep=>
   rintro y c st3 _ _ hI8
   apply elc0 (c:=c) hI8
   intro p8
   have hB3:=p8.1
   have hr3:=p8.2.1
   have hs3:=p8.2.2
   clear p8 hI8
   refine wpS_bind (wpS_get ?_)
   by_cases c3:(pendingOf st3).size<=1
   ·refine z0e c3 ?_
    exact wpS_pure ⟨rfl,hB3,hr3,c3⟩
   ·refine z0a c3 ?_
    refine wpS_bind (z5c hL hB3 hr3 (Nat.le_refl _) ?_ fun st4 hB4 hr4 hz4 ho4 => ?_)
    ·show (if _ then (pendingOf st3).size - 2 - 1 else (pendingOf st3).size - 2)+1 < (pendingOf st3).size
     exact zei (by lia)
    ·refine z0a (by decide) ?_
     exact wpS_pure ⟨rfl,hB4,hr4,by lia⟩
end
end Tim
namespace Tim
open PySem PyProof.Rows PySem.W HT
def z6X:∀ k:List Int,z0r k k=false
 | []=>rfl
 | x::xs=>by rw[z1o,if_pos rfl]; exact z6X xs
def zbo:∀ {a b c:List Int},z0r a b=true->z0r b c=true->z0r a c=true
 | [],[],_,h,_=>by cases h
 | [],_::_,[],_,k=>by cases k
 | [],_::_,_::_,_,_=>rfl
 | _::_,[],_,h,_=>by cases h
 | _::_,_::_,[],_,k=>by cases k
 | x::xs,y::ys,z::zs,h,k=>by
  rw[z1o] at h k ⊢
  by_cases e1:x=y
  ·subst e1
   by_cases e2:x=z
   ·subst e2
    rw[if_pos rfl] at h k ⊢
    exact zbo h k
   ·rw[if_neg e2] at k ⊢; exact k
  ·rw[if_neg e1] at h
   have h':=of_decide_eq_true h
   by_cases e2:y=z
   ·subst e2
    rw[if_neg e1]; exact h
   ·rw[if_neg e2] at k
    have k':=of_decide_eq_true k
    rw[if_neg (by omega)]
    exact decide_eq_true (by omega)
def z8P:∀ (a b:List Int),z0r a b=false->z0r b a=false->a=b
 | [],[],_,_=>rfl
 | [],_::_,h,_=>by cases h
 | _::_,[],_,k=>by cases k
 | x::xs,y::ys,h,k=>by
  rw[z1o] at h k
  by_cases e:x=y
  ·subst e
   rw[if_pos rfl] at h k
   rw[z8P xs ys h k]
  ·rw[if_neg e] at h
   rw[if_neg (Ne.symm e)] at k
   have h':=of_decide_eq_false h
   have k':=of_decide_eq_false k
   omega
def rkL (l:List (List Int))(k:List Int):Nat:=l.countP fun q=>z0r q k
def z8c {α:Type}{p q:α->Bool}{l:List α}(h:∀ x,p x=true->q x=true){a:α}(ha:a∈l)(hp:p a=false)(hq:q a=true):l.countP p < l.countP q:=by
 induction l with
 | nil=>cases ha
 | cons y l ih=>
  rw[List.countP_cons,List.countP_cons]
  have hle:l.countP p<=l.countP q:=List.countP_mono_left fun x _ hx=>h x hx
  rcases List.mem_cons.mp ha with rfl | ha
  ·rw[hp,hq]; simp; omega
  ·have:=ih ha
   by_cases py:p y=true
   ·rw[py,h y py]; simp; omega
   ·rw[if_neg py]; split <;> omega
def z9g {l:List (List Int)}{a b:List Int}(ha:a∈l)(hb:b∈l):z0r a b=decide (rkL l a < rkL l b):=by
 cases q:z0r a b with
 | true=>
  symm
  apply decide_eq_true
  exact z8c (fun x hx=>zbo hx q) ha (z6X a) q
 | false=>
  symm
  apply decide_eq_false
  intro hlt
  cases q2:z0r b a with
  | true=>
   have:=z8c (p:=fun x=>z0r x b) (q:=fun x=>z0r x a) (fun x hx=>zbo hx q2) hb (z6X b) q2
   unfold rkL at hlt; omega
  | false=>
   rw[z8P a b q q2] at hlt
   omega
section
variable {prog:Program}{w:World}{A:Around}{E:Value->Shared->Prop}{s:Shared}
def z44 {b fin:Bool}{Q:Bool->Shared->Prop}:∀ {vs ws:List Value}{ns ms:List Int}(i:Nat),IntsAre vs ns->IntsAre ws ms->fin=decide (ns.length < ms.length)->Q (z0r ns ms) s->KatLex prog w A b fin Q (vs.zip ws) i s
 | _,_,_,_,i,.nil,.nil,hf,h=>by
  refine kat_nil ?_; rw[hf]; exact h
 | _,_,_,_,i,.nil,.cons m u r,hf,h=>by
  refine kat_nil ?_; rw[hf]
  rw[show decide (([]:List Int).length < (m::_).length)=true by simp]; exact h
 | _,_,_,_,i,.cons n t r,.nil,hf,h=>by
  refine kat_nil ?_; rw[hf]
  rw[show decide ((n::_).length < ([]:List Int).length)=false by simp]; exact h
 | _,_,_,_,i,.cons n t r,.cons m u r2,hf,h=>by
  refine kat_cons (wpAny_eqBool_int ?_)
  rw[z1o] at h
  by_cases e:n=m
  ·subst e
   rw[if_pos rfl] at h
   rw[show (n == n)=true by simp]
   exact kat_yes (z44 (i+1) r r2 (by rw[hf]; simp) h)
  ·rw[if_neg e] at h
   rw[show (n == m)=false by simpa using e]
   refine kat_no ?_
   cases hb:(b && i == 0) with
   | true=>exact oneLt_int h
   | false=>exact kat_one _ _ (lt_int h)
def TI (h:Heap)(v:Value)(k:List Int):Prop:=∃ a o z05 n,v = .ref a/\h.get? a=some o/\o.cls = .type "tuple"/\o.data = .seq z05 n/\IntsAre z05.toList k
def TI.keep {h h':Heap}{v:Value}{k:List Int}(x:TI h v k)(g:∀ b o,h.get? b=some o->o.cls = .type "tuple"->h'.get? b=some o):TI h' v k:=by
 obtain⟨a,o,z05,n,e,h1,h2,h3,h4⟩:=x
 exact⟨a,o,z05,n,e,g _ _ h1 h2,h2,h3,h4⟩
def zdf {vs:List Value}{key:Value->List Int}(hk:∀ v∈vs,TI s.heap v (key v))(b:Bool):Asks (model prog w) A s (tuples' b) (pairsOf vs) (fun p=>rkL (vs.map key) (key p.1)):=by
 intro x y hx hy Q E h
 rw[pairsOf_toList] at hx hy
 have mx:=(mem_zip_self hx).2
 have my:=(mem_zip_self hy).2
 rw[<- z9g (List.mem_map.mpr ⟨_,mx,rfl⟩) (List.mem_map.mpr ⟨_,my,rfl⟩)] at h
 obtain⟨a1,o1,i1,n1,e1,g1,c1,d1,k1⟩:=hk _ mx
 obtain⟨a2,o2,i2,n2,e2,g2,c2,d2,k2⟩:=hk _ my
 rw[e1] at h k1
 rw[e2] at h k2
 rw[e1,e2]
 exact kat_lt g1 d1 g2 d2 (z44 0 k1 k2 (by rw[<- IntsAre.length k1, <- IntsAre.length k2,Array.length_toList,Array.length_toList]) h)
def z5v {h:Heap}{key:Value->List Int}:∀ {vs:List Value},(∀ v∈vs,TI h v (key v)/\key v≠[])->∃ fs:List Value,KatTups h vs fs/\fs.length=vs.length/\∀ f∈fs,∃ n t,f = .int n t
 | [],_=>⟨[],.nil,rfl,fun _ h=>by cases h⟩
 | v::vs,hk=>by
  obtain⟨fs,q1,q2,q3⟩:=z5v (vs:=vs) (fun v hv=>hk v (List.mem_cons_of_mem _ hv))
  obtain⟨⟨a,o,z05,n,e,h1,h2,h3,h4⟩,hne⟩:=hk v (List.mem_cons_self ..)
  subst e
  obtain⟨x,xs,ex⟩:∃ x xs,key (.ref a)=x::xs:=by
   cases hq:key (.ref a) with
   | nil=>exact(hne hq).elim
   | cons x xs=>exact⟨x,xs,rfl⟩
  rw[ex] at h4
  generalize hi:z05.toList=il at h4
  cases h4 with
  | cons _ t r=>
   refine⟨.int x t::fs,.cons h1 h2 h3 ?_ q1,by simp[q2],fun f hf => ?_⟩
   ·rw[<- Array.getElem?_toList,hi]; rfl
   ·rcases List.mem_cons.mp hf with rfl | hf
    ·exact⟨_,_,rfl⟩
    ·exact q3 f hf
def z9D {vs:List Value}{key:Value->List Int}{Q:SortKind->Shared->Prop}(hk:∀ v∈vs,TI s.heap v (key v)/\key v≠[])(hne:0 < vs.length)(h:Q (tuples' true) s):wpAny (model prog w) A (keyKind' vs.toArray) Q E s:=by
 obtain⟨fs,q1,q2,q3⟩:=z5v hk
 refine kat_kind (T :=.type "int") q1 (by omega) (fun v hv => ?_) rfl h
 obtain⟨n,t,rfl⟩:=q3 v hv
 exact Looks.now
def z9o {α:Type}{R:α->α->Prop}{l:List α}(h:l.length < 2):l.Pairwise R:=by
 match l,h with
 | [],_=>exact List.Pairwise.nil
 | [x],_=>exact List.pairwise_singleton _ _
def z8r (prog:Program)(w:World)(h:Heap)(vs:List Value)(rk:Value->Nat):Prop:=∀ (A:Around) (s:Shared),(∀ b o,h.get? b=some o->o.cls = .type "tuple"->s.heap.get? b=some o)->
 Asks (model prog w) A s (tuples' true) (pairsOf vs) (fun p=>rk p.1)/\(1 < vs.length->∀ (Q:SortKind->Shared->Prop) (E:Value->Shared->Prop),Q (tuples' true) s->wpAny (model prog w) A (keyKind' vs.toArray) Q E s)
def z8r.keep {h h':Heap}{vs:List Value}{rk:Value->Nat}(x:z8r prog w h vs rk)(k:∀ b o,h.get? b=some o->h'.get? b=some o):z8r prog w h' vs rk:=fun A s k'=>x A s fun b o e c=>k' b o (k b o e) c
def z8r.tups {h:Heap}{vs:List Value}{key:Value->List Int}(hk:∀ v∈vs,TI h v (key v)/\key v≠[]):z8r prog w h vs (fun v=>rkL (vs.map key) (key v)):=fun A s k=>
 ⟨zdf (fun v hv=>(hk v hv).1.keep k) true,fun hl Q E q=>z9D (fun v hv=>⟨(hk v hv).1.keep k,(hk v hv).2⟩) (by omega) q⟩
def z7Y {a:Addr}{vs:List Value}{rk:Value->Nat}{n:Nat}{P:PySem.Fin->Shared->Prop}(ho:s.heap.get? a=some (seqObj "list" vs.toArray n))(hz:vs.length<=sizeLine)
  (hk:z8r prog w s.heap vs rk)
  (h:∀ out:List Value,out.Perm vs->out.Pairwise (fun x y=>rk x<=rk y)->P (.done (.ret .none)) { s with heap:=sortedHeap s.heap a vs out.toArray }):
  wpAny (model prog w) A (Builtin.«list.sort» ⟨[.ref a],[]⟩) P E s:=by
 rw[list_sort_plain]
 have ha:a < s.heap.objs.size:=Heap.lt_size ho
 refine wpAny_bind (listItems_at ho rfl ?_)
 refine wpAny_bind (listUpdate_at ho rfl ?_ (by rw[List.size_toArray]; omega) (Nat.zero_le _))
 obtain⟨e1,ho1⟩:∃ e1,(s.heap.update a (Obj.mapSeq fun _ => #[])).get? a=some (seqObj "list" #[] e1):=⟨_,get?_update_seq ho (fun _ => #[])⟩
 refine wpAny_bind (seqEpoch_at ho1 rfl ?_)
 refine wpAny_bind (wpAny_newTuple ?_ (by show vs.length<=_; omega))
 refine wpAny_bind (wpAny_newList ?_ (Nat.zero_le _))
 refine wpAny_holding ?_
 have ho6:(((s.heap.update a (Obj.mapSeq fun _ => #[])).push (seqObj "tuple" vs.toArray 0)).push (seqObj "list" #[] 0)).get? a=some (seqObj "list" #[] e1):=by
  rw[Heap.get?_push_ne _ _ _ (by rw[size_push',Heap.size_update]; exact Nat.ne_of_lt (Nat.lt_succ_of_lt ha)),Heap.get?_push_ne _ _ _ (by rw[Heap.size_update]; exact Nat.ne_of_lt ha)]
  exact ho1
 have keep:∀ b o,s.heap.get? b=some o->o.cls = .type "tuple"->(((s.heap.update a (Obj.mapSeq fun _ => #[])).push (seqObj "tuple" vs.toArray 0)).push (seqObj "list" #[] 0)).get? b=some o:=fun b o hb hc=>by
  have hlt:b < s.heap.objs.size:=Heap.lt_size hb
  have hne:b≠a:=by
   rintro rfl
   rw[ho] at hb
   cases hb
   exact absurd (show Value.type "list"=Value.type "tuple" from hc) (by decide)
  rw[Heap.get?_push_ne _ _ _ (by rw[size_push',Heap.size_update]; exact Nat.ne_of_lt (Nat.lt_succ_of_lt hlt)),Heap.get?_push_ne _ _ _ (by rw[Heap.size_update]; exact Nat.ne_of_lt hlt),Heap.get?_update_ne _ _ _ _ hne]
  exact hb
 show wpAny (model prog w) A _ P E { s with heap:=((s.heap.update a (Obj.mapSeq fun _ => #[])).push (seqObj "tuple" vs.toArray 0)).push (seqObj "list" #[] 0) }
 dsimp only
 have hsz:vs.toArray.size=vs.length:=by simp
 have snd:∀ st':SortSt,(arrOf st').Perm (pairsOf vs)->∃ out:List Value,(arrOf st').map (·.2)=out.toArray/\out.Perm vs/\(arrOf st').toList.map (·.1)=out:=fun st' hp=>by
  refine⟨(arrOf st').toList.map (·.2),?_,?_,?_⟩
  ·apply Array.toList_inj.mp
   rw[Array.toList_map]
  ·have:=(Array.perm_iff_toList_perm.mp hp).map (·.2)
   rw[pairsOf_toList] at this
   refine this.trans ?_
   rw[List.map_snd_zip (Nat.le_refl _)]
  ·apply List.map_congr_left
   intro p hp'
   have:=(Array.perm_iff_toList_perm.mp hp).mem_iff.mp hp'
   rw[pairsOf_toList] at this
   exact(mem_zip_self this).1
 have outsz:∀ st':SortSt,(arrOf st').Perm (pairsOf vs)->((arrOf st').map (·.2)).size<=sizeLine:=fun st' hp=>by
  rw[Array.size_map,hp.size_eq,pairsOf_size]; exact hz
 by_cases h2:vs.toArray.size < 2
 ·rw[if_pos h2,if_pos h2]
  refine wpAny_bind (wpAny_pure ?_)
  rw[StateT.run_pure]
  refine wpAny_bind (wpAny_pure ?_)
  dsimp only
  refine wpAny_bind (seqEpoch_at ho6 rfl ?_)
  have hp0:(arrOf (SortSt.mk' general' (vs.toArray.zip vs.toArray) #[] 7 none)).Perm (pairsOf vs):=Array.Perm.refl _
  refine wpAny_bind (listUpdate_at ho6 rfl ?_ (Nat.zero_le _) (Nat.le_succ_of_le (outsz _ hp0)))
  simp only[bne_self_eq_false,Bool.false_eq_true,if_false]
  obtain⟨out,o1,o2,o3⟩:=snd _ hp0
  have ee:sortedHeap s.heap a vs out.toArray=sortedHeap s.heap a vs ((arrOf (SortSt.mk' general' (vs.toArray.zip vs.toArray) #[] 7 none)).map (·.2)):=by rw[o1]
  have hfin:=h out o2 (by
   have hl:out.length < 2:=by rw[o2.length_eq]; omega
   exact z9o hl)
  rw[ee] at hfin
  exact wpAny_pure hfin
 ·rw[if_neg h2,if_neg h2]
  obtain⟨ka,kk⟩:=hk A { s with heap:=((s.heap.update a (Obj.mapSeq fun _ => #[])).push (seqObj "tuple" vs.toArray 0)).push (seqObj "list" #[] 0) } keep
  refine wpAny_bind (kk (by omega) _ _ ?_)
  refine wpAny_bind (wpAny_mono (z4P (a₀:=pairsOf vs) (κ:=tuples' true) (rk:=fun p=>rk p.1) (st:=SortSt.mk' (tuples' true) (vs.toArray.zip vs.toArray) #[] 7 none)
   (Q:=fun _ st'=>TB (tuples' true) (pairsOf vs) st'/\Seg (fun p=>rk p.1) (arrOf st') 0 (pairsOf vs).size)
   ka ⟨rfl,rfl,Array.Perm.refl _⟩ rfl (by rw[pairsOf_size]; omega) fun st' b1 b2=>⟨b1,b2⟩) ?_ fun _ _ e=>e)
  rintro⟨⟨⟩,st'⟩ s' ⟨rfl,hB,hs⟩
  dsimp only at hB hs ⊢
  refine wpAny_bind (seqEpoch_at ho6 rfl ?_)
  refine wpAny_bind (listUpdate_at ho6 rfl ?_ (Nat.zero_le _) (Nat.le_succ_of_le (outsz st' hB.perm)))
  rw[hB.failed]
  simp only[bne_self_eq_false,Bool.false_eq_true,if_false]
  obtain⟨out,o1,o2,o3⟩:=snd st' hB.perm
  have hfin:=h out o2 (by
   have hup:Up (fun p=>rk p.1) (arrOf st').toList:=by
    have:=z9d hs (by rw[hB.perm.size_eq]; exact Nat.le_refl _)
    rw[<- hB.perm.size_eq] at this
    simpa using this
   rw[<- o3]
   exact List.pairwise_map.mpr hup)
  rw[<- o1] at hfin
  exact wpAny_pure hfin
end
section
variable {prog:Program}{w:World}{A:Around}{E:Value->Shared->Prop}{s:Shared}
def zht (prog:Program)(w:World)(rk:Value->Nat)(Q:Value->Shared->Prop)(vs:List Value)(s1:Shared):Prop:=
 vs.length<=sizeLine/\z8r prog w s1.heap vs rk/\∀ out:List Value,out.Perm vs->out.Pairwise (fun x y=>rk x<=rk y)->
  ∀ h',(∀ b o,s1.heap.get? b=some o->h'.get? b=some o)->(∃ e,h'.get? s1.heap.objs.size=some (seqObj "list" out.toArray e))->Q (.ref s1.heap.objs.size) { s1 with heap:=h' }
def zaz {v:Value}{Q:Value->Shared->Prop}(hcol:∀ E',wpAny (model prog w) A.in1 (collect v) (fun vs s1=>∃ rk,zht prog w rk Q vs s1) E' s):wpAny (model prog w) A (call (.builtin "sorted") [v]) Q E s:=by
 refine Calls.call_function_entry kind_sorted plain_sorted entry_sorted (args_sorted1 _) ?_
 unfold Builtin.«sorted»
 refine wpAny_bind (m:=checkCount "sorted" 1 1 _) (wpAny_pure ?_)
 refine wpAny_bind (wpAny_mono (hcol _) (fun vs s1 q => ?_) fun _ _ e=>e)
 obtain⟨rk,hz,hk,h⟩:=q
 refine wpAny_bind (wpAny_newList ?_ hz)
 have hoL:(s1.heap.push (seqObj "list" vs.toArray 0)).get? s1.heap.objs.size=some (seqObj "list" vs.toArray 0):=Heap.get?_push_size _ rfl
 have keep:∀ b o,s1.heap.get? b=some o->(s1.heap.push (seqObj "list" vs.toArray 0)).get? b=some o:=fun b o q=>Heap.get?_push_of_some _ q
 show wpAny _ _ _ _ _ { s1 with heap:=s1.heap.push (seqObj "list" vs.toArray 0) }
 refine wpAny_bind (wpAny_holding (wpAny_call_entry slot_list_sort ⟨_,hoL,rfl⟩ entry_list_sort (z7Y hoL hz (hk.keep keep) fun out o1 o2=>⟨_,rfl,?_⟩) (args_list_sort _)))
 refine wpAny_pure ⟨_,rfl,h out o1 o2 _ (fun b o g => ?_) ?_⟩
 ·have hlt:b < s1.heap.objs.size:=Heap.lt_size g
  rw[sortedHeap_old (Nat.ne_of_lt hlt) (by rw[size_push']; exact Nat.lt_succ_of_lt hlt)]
  exact keep b o g
 ·exact sortedHeap_at hoL
def zhs (key:Value->List Int)(Q:Value->Shared->Prop)(vs:List Value)(s1:Shared):Prop:=
 vs.length<=sizeLine/\(∀ x∈vs,TI s1.heap x (key x)/\key x≠[])/\∀ out:List Value,out.Perm vs->out.Pairwise (fun x y=>z0r (key y) (key x)=false)->
  ∀ h',(∀ b o,s1.heap.get? b=some o->h'.get? b=some o)->(∃ e,h'.get? s1.heap.objs.size=some (seqObj "list" out.toArray e))->Q (.ref s1.heap.objs.size) { s1 with heap:=h' }
def z8y {v:Value}{key:Value->List Int}{Q:Value->Shared->Prop}(hcol:∀ E',wpAny (model prog w) A.in1 (collect v) (zhs key Q) E' s):wpAny (model prog w) A (call (.builtin "sorted") [v]) Q E s:=
 zaz fun E'=>wpAny_mono (hcol E') (fun vs s1 ⟨hz,hk,h⟩=>⟨_,hz,z8r.tups hk,fun out o2 pw=>h out o2 (pw.imp_of_mem fun {x y} hx hy hxy=>by
  rw[z9g (List.mem_map.mpr ⟨_,o2.mem_iff.mp hy,rfl⟩) (List.mem_map.mpr ⟨_,o2.mem_iff.mp hx,rfl⟩)]
  exact decide_eq_false (Nat.not_lt.mpr hxy))⟩) fun _ _ e=>e
end
end Tim
namespace Tab
open PySem PySem.SetTable PyProof.Rows
def z64:entryFor table "set.__iter__"=some Builtin.«frozenset.__iter__»:=
 entryFor_alias (id':="frozenset.__iter__") (by kernel_rfl) rfl (by decide +kernel) (by kernel_rfl)
def z1F:Slot "set_iterator" "__next__" "set_iterator.__next__":=
 .of (owner:="set_iterator") (n:="__next__") (by rw[typeLookup_type,builtinLookup_eq_fast]; kernel_rfl) (by decide +kernel) (by decide +kernel) (by decide +kernel)
  (by first | exact .inl (by decide +kernel) | exact .inr (by decide +kernel)) (by rw[isSubtype_type]; kernel_rfl)
def z4Q:Slot "set_iterator" "__iter__" "set_iterator.__iter__":=
 .of (owner:="set_iterator") (n:="__iter__") (by rw[typeLookup_type,builtinLookup_eq_fast]; kernel_rfl) (by decide +kernel) (by decide +kernel) (by decide +kernel)
  (by first | exact .inl (by decide +kernel) | exact .inr (by decide +kernel)) (by rw[isSubtype_type]; kernel_rfl)
def z4r:entryFor table "set_iterator.__next__"=some Builtin.«set_iterator.__next__»:=entryFor_of_fast (by kernel_rfl)
def z53 (a:Value):argsOk "set_iterator.__next__" ⟨[a],[]⟩:=by unfold argsOk; kernel_rfl
section
variable {prog:Program}{w:World}{A:Around}{E:Value->Shared->Prop}{s:Shared}
def z2w (h:Heap)(it S:Addr)(slot i n ep:Nat):Prop:=∃ o,h.get? it=some o/\o.cls = .type "set_iterator"/\o.data = .fields #[.int slot 0,.int i 0,.ref S,.int n 0,.int ep 0]
def z2w.typeIs {it S:Addr}{slot i n ep:Nat}(x:z2w s.heap it S slot i n ep):s.TypeIs (.ref it) "set_iterator":=let ⟨o,ho,hc,_⟩:=x; ⟨o,ho,hc⟩
def z56 {S:Addr}{o:Obj}{es:Array (Int × Value)}{ep:Nat}{t:SetTable}{Q:Value->Shared->Prop}(ho:s.heap.get? S=some o)(hc:o.cls = .type "set")(hd:o.data = .set es ep t)(hf:t.fits es.size=true)(hp:t.plain=true)
  (h:Q (.ref s.heap.objs.size) { s with heap:=s.heap.push { cls :=.type "set_iterator",data :=.fields #[.int 0 0,.int 0 0,.ref S,.int es.size 0,.int ep 0] } }):wpAny (model prog w) A (pyIter (.ref S)) Q E s:=by
 have hT:s.TypeIs (.ref S) "set":=⟨o,ho,hc⟩
 refine wpAny_pyIter_slot hT F.slot_set_iter (wpAny_call_entry F.slot_set_iter hT z64 ?_ (F.args_set_iter_1 _))
 show wpAny _ _ (Builtin.Frozenset.sizeOf S >>= _) _ _ s
 unfold Builtin.Frozenset.sizeOf setEntries setDrawn setEpoch
 refine wpAny_bind (wpAny_bind (wpAny_bind (wpAny_setState_of ho hd hf (wpAny_pure (wpAny_pure ?_)))))
 refine wpAny_bind (wpAny_bind (wpAny_setState_of ho hd hf ?_))
 show wpAny _ _ (setsByText >>= fun byText=>pure (!byText && (!t.plain && decide (es.size > 1)))) _ _ s
 unfold setsByText
 refine wpAny_bind (wpAny_bind (wpAny_askSetting (wpAny_pure (wpAny_pure ?_))))
 rw[hp]
 simp only[Bool.not_true,Bool.false_and,Bool.and_false,Bool.false_eq_true,if_false]
 refine wpAny_bind (wpAny_pure (wpAny_bind (wpAny_bind (wpAny_setState_of ho hd hf (wpAny_pure ?_)))))
 exact wpAny_bind (wpAny_newObj_type (wpAny_pure ⟨_,rfl,"set_iterator",_,⟨_,Heap.get?_push_size _ rfl,rfl⟩,z1F.lookup,h⟩))
end
section
variable {prog:Program}{w:World}{A:Around}{E:Value->Shared->Prop}{s:Shared}
def nxt (w:World)(S:Addr)(es:Array (Int × Value))(ep:Nat)(t:SetTable)(slot i:Nat):Option (Value × Nat):=
 if w.params.followText "set-order"=true then ((pickOrder (w.params.setOrder S ep) es)[i]?).map fun e=>(e.2,slot) else
  match es[below t.place slot]?, t.place[below t.place slot]? with
  | some (_,x),some j=>some (x,j+1)
  | _,_=>none
def z47 {S:Addr}{o:Obj}{es:Array (Int × Value)}{ep:Nat}{t:SetTable}{slot i:Nat}{Q:Option (Value × Nat)->Shared->Prop}(ho:s.heap.get? S=some o)(hd:o.data = .set es ep t)(hf:t.fits es.size=true)(hp:t.plain=true)(hl:t.led = !w.params.followText "set-order")
  (h:Q (nxt w S es ep t slot i) s):wpAny (model prog w) A (setNext S slot i ep) Q E s:=by
 unfold setNext
 refine wpAny_bind (wpAny_setState_of ho hd hf ?_)
 show wpAny _ _ (setsByText >>= _) _ _ s
 unfold setsByText
 refine wpAny_bind (wpAny_bind (wpAny_askSetting (wpAny_pure ?_)))
 unfold nxt at h
 by_cases c:w.params.followText "set-order"=true
 ·have c':(model prog w).w.params.followText "set-order"=true:=c
  rw[if_pos c] at h
  rw[if_pos c']
  rw[if_neg (by simp)]
  unfold setWalk
  refine wpAny_bind (wpAny_bind (wpAny_setState_of ho hd hf ?_))
  show wpAny _ _ (setsByText >>= _) _ _ s
  unfold setsByText
  refine wpAny_bind (wpAny_bind (wpAny_askSetting (wpAny_pure ?_)))
  rw[if_pos c']
  exact wpAny_bind (wpAny_askSetting (wpAny_pure (wpAny_pure h)))
 ·have c':¬ (model prog w).w.params.followText "set-order"=true:=c
  rw[if_neg c] at h
  rw[if_neg c']
  have hled:t.led=true:=by rw[hl]; simpa using c
  show wpAny _ _ (if (!t.plain && decide (es.size > 1))=true then _ else _) _ _ s
  rw[hp,if_neg (by simp)]
  show wpAny _ _ ((if (!t.led && !es.isEmpty)=true then unsupported "set:maker-not-led" else pure PUnit.unit) >>= _) _ _ s
  rw[hled,if_neg (by simp)]
  exact wpAny_bind (wpAny_pure (wpAny_pure h))
end
section
variable {prog:Program}{w:World}{A:Around}{E:Value->Shared->Prop}{s:Shared}
def z3m {it S:Addr}{o:Obj}{es:Array (Int × Value)}{ep:Nat}{t:SetTable}{slot i slot':Nat}{x:Value}{Q:Option Value->Shared->Prop}(hit:z2w s.heap it S slot i es.size ep)
  (ho:s.heap.get? S=some o) (hd:o.data = .set es ep t) (hf:t.fits es.size=true) (hp:t.plain=true) (hl:t.led = !w.params.followText "set-order") (hx:nxt w S es ep t slot i=some (x,slot'))
  (hQ:∀ h',z2w h' it S slot' (i+1) es.size ep->Heap.SameBut it s.heap h'->Q (some x) { s with heap:=h' }):wpAny (model prog w) A (pyNext (.ref it)) Q E s:=by
 obtain⟨oi,hoi,hci,hdi⟩:=id hit
 unfold pyNext
 refine wpAny_bind (wpAny_attempt (wpAny_callSpecial?_slot (name:=Str.ofString "__next__") hit.typeIs z1F
  (wpAny_call_entry z1F hit.typeIs z4r ?_ (z53 _))))
 show wpAny _ _ (fieldsOf (.ref it) >>= _) _ _ s
 refine wpAny_bind (wpAny_fieldsOf hoi hdi ?_)
 show wpAny _ _ (setEntries S >>= _) _ _ s
 unfold setEntries
 refine wpAny_bind (wpAny_bind (wpAny_setState_of ho hd hf (wpAny_pure ?_)))
 rw[if_neg (by simp)]
 show wpAny _ _ (setNext S (slot:Int).toNat (i:Int).toNat (ep:Int).toNat >>= _) _ _ s
 simp only[Int.toNat_natCast]
 refine wpAny_bind (z47 ho hd hf hp hl ?_)
 rw[hx]
 dsimp only
 refine wpAny_bind (wpAny_setField hoi hdi (by simp) ?_)
 have g1:=Heap.get?_update_self (Obj.mapFields (·.setIfInBounds 0 (rawInt (slot':Int)))) hoi (Obj.isFreed_of_fields (Obj.data_mapFields hdi _))
 refine wpAny_bind (wpAny_setField g1 (Obj.data_mapFields hdi _) (by simp) ?_)
 refine wpAny_pure ⟨x,rfl,wpAny_pure (hQ _ ?_ ((Heap.SameBut.update ..).trans (Heap.SameBut.update ..)))⟩
 refine⟨_,Heap.get?_update_self _ g1 (Obj.isFreed_of_fields (Obj.data_mapFields (Obj.data_mapFields hdi _) _)),((Obj.cls_mapFields ..).trans (Obj.cls_mapFields ..)).trans hci,?_⟩
 rw[Obj.data_mapFields (Obj.data_mapFields hdi _)]
 simp[rawInt]
def z3L {it S:Addr}{o:Obj}{es:Array (Int × Value)}{ep:Nat}{t:SetTable}{slot i:Nat}{Q:Option Value->Shared->Prop}(hh:A.handled=none)(hit:z2w s.heap it S slot i es.size ep)
  (ho:s.heap.get? S=some o) (hd:o.data = .set es ep t) (hf:t.fits es.size=true) (hp:t.plain=true) (hl:t.led = !w.params.followText "set-order") (hx:nxt w S es ep t slot i=none)
  (hQ:∀ h',Heap.ExtBut it s.heap h'->Q none { s with heap:=h' }):wpAny (model prog w) A (pyNext (.ref it)) Q E s:=by
 obtain⟨oi,hoi,hci,hdi⟩:=id hit
 unfold pyNext
 refine wpAny_bind (wpAny_attempt (wpAny_callSpecial?_slot (name:=Str.ofString "__next__") hit.typeIs z1F
  (wpAny_call_entry z1F hit.typeIs z4r ?_ (z53 _))))
 show wpAny _ _ (fieldsOf (.ref it) >>= _) _ _ s
 refine wpAny_bind (wpAny_fieldsOf hoi hdi ?_)
 show wpAny _ _ (setEntries S >>= _) _ _ s
 unfold setEntries
 refine wpAny_bind (wpAny_bind (wpAny_setState_of ho hd hf (wpAny_pure ?_)))
 rw[if_neg (by simp)]
 show wpAny _ _ (setNext S (slot:Int).toNat (i:Int).toNat (ep:Int).toNat >>= _) _ _ s
 simp only[Int.toNat_natCast]
 refine wpAny_bind (z47 ho hd hf hp hl ?_)
 rw[hx]
 dsimp only
 refine wpAny_bind (wpAny_setField hoi hdi (by simp) ?_)
 show wpAny _ _ (newExc (.type "StopIteration") [] >>= _) _ _ _
 refine wpAny_bind ?_
 simp only[newExc,newTuple]
 refine wpAny_bind (wpAny_newObj_type ?_ (by size_fits))
 refine wpAny_bind (m:=firstArgMember _ _) (wpAny_of_eq (a:=Value.none) (by first | rfl | (simp only[firstArgMember]; rfl)) ?_)
 refine wpAny_newObj_type ?_ (by size_fits)
 simp only[raiseNew]
 refine wpAny_bind (wpAny_handled ?_)
 first | rw[show A.in1.handled=none from hh] | rw[hh]
 refine wpAny_bind (wpAny_pure (wpAny_throw ?_))
 refine wpAny_bind (wpAny_isInstance (T:="StopIteration") (b:=true) ⟨_,Heap.get?_push_size _ rfl,rfl⟩ isSubtype_stop ?_)
 exact wpAny_pure (hQ _ (((Heap.SameBut.update ..).extBut.push _).push _))
end
def z7J {α:Type}(next:Nat->Nat):∀ (n k:Nat) (left:List α) (out:Array α),left.length=n->(pickOrder.go next n k left out).toList.Perm (out.toList++left)
 | 0,k,left,out,h=>by
  rw[List.eq_nil_of_length_eq_zero h,List.append_nil]
  exact List.Perm.refl _
 | n+1,k,left,out,h=>by
  have hlt:next k % left.length < left.length:=Nat.mod_lt _ (by omega)
  rw[pickOrder.go,List.getElem?_eq_getElem hlt]
  refine(z7J next n (k+1) _ _ (by rw[List.length_eraseIdx_of_lt hlt]; omega)).trans ?_
  rw[Array.toList_push,List.append_assoc]
  refine List.Perm.append_left _ ?_
  show (left[next k % left.length]::left.eraseIdx (next k % left.length)).Perm left
  rw[List.eraseIdx_eq_take_drop_succ]
  refine(List.perm_middle.symm).trans ?_
  rw[<- List.drop_eq_getElem_cons hlt,List.take_append_drop]
def z5T {α:Type}(next:Nat->Nat)(xs:Array α):(pickOrder next xs).toList.Perm xs.toList:=by
 have:=z7J next xs.size 0 xs.toList #[] (by simp)
 simpa[pickOrder] using this
def ordE (w:World)(S:Addr)(es:Array (Int × Value))(ep:Nat):Array (Int × Value):=if w.params.followText "set-order"=true then pickOrder (w.params.setOrder S ep) es else es
def z7P (w:World)(S:Addr)(es:Array (Int × Value))(ep:Nat):(ordE w S es ep).toList.Perm es.toList:=by
 unfold ordE
 split
 ·exact z5T _ _
 ·exact List.Perm.refl _
def z5q (w:World)(S:Addr)(es:Array (Int × Value))(ep:Nat):(ordE w S es ep).size=es.size:=by
 rw[<- Array.length_toList,(z7P w S es ep).length_eq,Array.length_toList]
def z5h (w:World)(t:SetTable)(i:Nat):Nat:=if w.params.followText "set-order"=true then 0 else if i=0 then 0 else t.place.getD (i - 1) 0+1
def z6u {t:SetTable}(hr:Rise t.place){i:Nat}(hi:i<=t.place.size):below t.place (if i=0 then 0 else t.place.getD (i - 1) 0+1)=i:=by
 obtain⟨h1,h2,h3⟩:=z4O hr (if i=0 then 0 else t.place.getD (i - 1) 0+1)
 generalize below t.place (if i=0 then 0 else t.place.getD (i - 1) 0+1)=k at*
 by_cases e:i=0
 ·subst e
  rw[if_pos rfl] at h2
  by_cases z:k=0
  ·exact z
  ·have:=h2 0 (by omega); omega
 ·rw[if_neg e] at h2 h3
  by_cases c:k < i
  ·have:=h3 (i - 1) (by omega) (by omega); omega
  ·by_cases c2:i < k
   ·have a1:=h2 i c2
    have a2:=hr (i - 1) i (by omega) (by omega)
    omega
   ·omega
def zcJ {w:World}{S:Addr}{es:Array (Int × Value)}{ep:Nat}{t:SetTable}(hr:Rise t.place)(hsz:t.place.size=es.size){i:Nat}(hi:i < es.size):
  ∃ e,(ordE w S es ep)[i]? = some e/\nxt w S es ep t (z5h w t i) i=some (e.2,z5h w t (i+1)):=by
 have hlt:i < (ordE w S es ep).size:=by rw[z5q]; exact hi
 refine⟨(ordE w S es ep)[i],getElem?_pos _ i hlt,?_⟩
 unfold nxt z5h
 by_cases c:w.params.followText "set-order"=true
 ·simp only[if_pos c]
  have e1:ordE w S es ep=pickOrder (w.params.setOrder S ep) es:=by unfold ordE; rw[if_pos c]
  rw[<- e1,getElem?_pos _ i hlt]
  rfl
 ·simp only[if_neg c]
  have e1:ordE w S es ep=es:=by unfold ordE; rw[if_neg c]
  rw[z6u hr (by omega),getElem?_pos es i hi,ziC (xs:=t.place) (by omega)]
  simp only[Nat.add_sub_cancel,if_neg (Nat.succ_ne_zero i)]
  congr 1
  simp only[e1]
def zeB {w:World}{S:Addr}{es:Array (Int × Value)}{ep:Nat}{t:SetTable}(hr:Rise t.place)(hsz:t.place.size=es.size):nxt w S es ep t (z5h w t es.size) es.size=none:=by
 unfold nxt z5h
 by_cases c:w.params.followText "set-order"=true
 ·simp only[if_pos c]
  have e1:ordE w S es ep=pickOrder (w.params.setOrder S ep) es:=by unfold ordE; rw[if_pos c]
  rw[<- e1,getElem?_neg _ _ (by rw[z5q]; omega)]
  rfl
 ·simp only[if_neg c]
  rw[z6u hr (by omega),getElem?_neg es es.size (by omega)]
def z79:entryFor table "set_iterator.__iter__"=some Builtin.«dict_keyiterator.__iter__»:=
 entryFor_alias (id':="dict_keyiterator.__iter__") (by kernel_rfl) rfl (by decide +kernel) (by kernel_rfl)
def z8p (a:Value):argsOk "set_iterator.__iter__" ⟨[a],[]⟩:=by unfold argsOk; kernel_rfl
section
variable {prog:Program}{w:World}{A:Around}{E:Value->Shared->Prop}{s:Shared}
def z5d {it S:Addr}{slot i n ep:Nat}{Q:Value->Shared->Prop}(hit:z2w s.heap it S slot i n ep)(h:Q (.ref it) s):wpAny (model prog w) A (pyIter (.ref it)) Q E s:=by
 refine wpAny_pyIter_slot hit.typeIs z4Q (wpAny_call_entry z4Q hit.typeIs z79 ?_ (z8p _))
 show wpAny _ _ (ret (.ref it)) _ _ s
 exact wpAny_pure ⟨_,rfl,"set_iterator",_,hit.typeIs,z1F.lookup,h⟩
def Walks.set (hh:A.handled=none)(I S:Addr)(hne:S≠I){o:Obj}{es:Array (Int × Value)}{ep:Nat}{t:SetTable}(hd:o.data = .set es ep t)(hf:t.fits es.size=true)(hp:t.plain=true)(hl:t.led = !w.params.followText "set-order")(hr:Rise t.place)(hsz:t.place.size=es.size):
  Walks prog w A I [I,S] [I] es.size (fun i v=>∃ e,(ordE w S es ep)[i]? = some e/\v=e.2) (fun i h=>z2w h I S (z5h w t i) i es.size ep/\h.get? S=some o) where
 sub:=fun b hb=>by simp at hb; simp[hb]
 frame:=fun i h h' st hk=>⟨let ⟨o',g1,g2⟩:=st.1; ⟨o',hk I (by simp) _ g1,g2⟩,hk S (by simp) _ st.2⟩
 item:=fun i s Q E hi st hQ=>by
  obtain⟨e,e1,e2⟩:=zcJ (w:=w) (S:=S) (ep:=ep) hr hsz hi
  refine z3m st.1 st.2 hd hf hp hl e2 fun h' hit' hs' => ?_
  exact hQ _ h' s.toks ⟨e,e1,rfl⟩ ⟨hit',hs'.extBut S _ hne st.2⟩ fun b o hb e=>hs'.extBut b o (fun h=>hb (by simp[h])) e
 done:=fun s Q E st hQ=>z3L hh st.1 st.2 hd hf hp hl (zeB hr hsz) fun h' he'=>hQ h' s.toks fun b o hb e=>he' b o (fun h=>hb (by simp[h])) e
 self:=fun _ _ _ _ st hQ=>z5d st.1 hQ
end
section
variable {prog:Program}{w:World}{A:Around}{E:Value->Shared->Prop}{s:Shared}
def z8Y {S:Addr}{o:Obj}{es:Array (Int × Value)}{ep:Nat}{t:SetTable}{Q:List Value->Shared->Prop}(hh:A.handled=none)(ho:s.heap.get? S=some o)(hc:o.cls = .type "set")(hd:o.data = .set es ep t)(hf:t.fits es.size=true)(hp:t.plain=true)(hl:t.led = !w.params.followText "set-order")(hr:Rise t.place)(hsz:t.place.size=es.size)(hz:es.size<=sizeLine)
  (h:∀ s',(∀ b o,s.heap.get? b=some o->s'.heap.get? b=some o)->s'.gens=s.gens->s'.drawn=s.drawn->s'.os=s.os->s.toks<=s'.toks->Q ((ordE w S es ep).toList.map (·.2)) s'):wpAny (model prog w) A (collect (.ref S)) Q E s:=by
 have hlt:S < s.heap.objs.size:=Heap.lt_size ho
 unfold collect
 refine wpAny_bind (wpAny_runValue (codeAny_builtin F.entry_proto_collect ?_))
 rw[Around.under_plainId F.plain_proto_collect _]
 show wpAny _ A.in1 (newList [] >>= fun l=>again (.builtin "list.__iadd__" ⟨[l,.ref S],[]⟩)) _ _ s
 refine wpAny_bind (wpAny_newObj_type ?_)
 refine wpAny_pure ⟨plainId_quiet F.plain_list_iadd _,codeAny_builtin F.entry_list_iadd ?_⟩
 rw[Around.under_plainId F.plain_list_iadd _]
 show wpAny _ A.in1 (Builtin.List.listExtendWith (.ref s.heap.objs.size) (.ref S) (.ref s.heap.objs.size)) _ _ _
 unfold Builtin.List.listExtendWith
 have ho1:(s.heap.push { cls :=.type "list",data :=.seq ([]:List Value).toArray }).get? S=some o:=Heap.get?_push_of_some _ ho
 have hT1:Shared.TypeIs { s with heap:=s.heap.push { cls :=.type "list",data :=.seq ([]:List Value).toArray } } (.ref S) "set":=⟨o,ho1,hc⟩
 refine wpAny_bind (wpAny_typeOf hT1 ?_)
 have h1:Builtin.List.listSameRef (.ref s.heap.objs.size) (.ref S)=false:=by simp[Builtin.List.listSameRef]; exact Nat.ne_of_gt hlt
 have h2:(Value.type "set" == Value.type "list")=false:=by decide
 have h3:(Value.type "set" == Value.type "tuple")=false:=by decide
 simp only[h1,h2,h3,Bool.or_false,Bool.false_eq_true,if_false]
 refine wpAny_bind (z56 ho1 hc hd hf hp ?_)
 refine wpAny_bind (wpAny_holding ?_)
 generalize hH:s.heap.push { cls :=.type "list",data :=.seq ([]:List Value).toArray }=H at*
 have hHs:H.objs.size=s.heap.objs.size+1:=by rw[<- hH,Heap.size_push]
 dsimp only
 have hT2:Shared.TypeIs { s with heap:=H.push { cls :=.type "set_iterator",data :=.fields #[.int 0 0,.int 0 0,.ref S,.int es.size 0,.int ep 0] } } (.ref S) "set":=⟨o,Heap.get?_push_of_some _ ho1,hc⟩
 unfold Builtin.List.listLengthHint
 refine wpAny_bind (wpAny_specialOf hT2 F.slot_set_len.lookup ?_)
 wp_delta
 refine wpAny_bind (wpAny_isInstance (b:=true) hT2 (by rw[isSubtype_type]; kernel_rfl) ?_)
 show wpAny _ A.in1 (typeOf (Value.ref S) >>= _) _ _ _
 refine wpAny_bind (wpAny_typeOf hT2 ?_)
 refine wpAny_pure ?_
 rw[if_pos (by decide)]
 refine wpAny_bind (wpAny_rule ?_)
 refine wpAny_bind ?_
 show wpAny _ A.in1 (updateSeq s.heap.objs.size (·.push .none) >>= fun _=>updateSeq s.heap.objs.size (·.pop)) _ _ _
 generalize hO:({ cls :=.type "set_iterator",data :=.fields #[.int 0 0,.int 0 0,.ref S,.int es.size 0,.int ep 0] }:Obj)=io at*
 have hS₁:(H.push io).get? s.heap.objs.size=some { cls :=.type "list",data :=.seq ([]:List Value).toArray }:=Heap.get?_push_of_some _ (hH ▸ Heap.get?_push_size _ rfl)
 refine wpAny_bind (wpAny_updateSeq hS₁ rfl ?_)
 have hS₂:=Heap.get?_update_self (Obj.mapSeq (·.push Value.none)) hS₁ rfl
 refine wpAny_updateSeq hS₂ rfl ?_
 have hS₃:=Heap.get?_update_self (Obj.mapSeq (·.pop)) hS₂ rfl
 have oth:∀ b o,b≠s.heap.objs.size->(H.push io).get? b=some o->(((H.push io).update s.heap.objs.size (Obj.mapSeq (·.push Value.none))).update s.heap.objs.size (Obj.mapSeq (·.pop))).get? b=some o:=
  fun b o hb e=>(Heap.get?_update_other _ _ (Ne.symm hb)).trans ((Heap.get?_update_other _ _ (Ne.symm hb)).trans e)
 have hneS:S≠s.heap.objs.size:=Nat.ne_of_lt hlt
 have hneI:H.objs.size≠s.heap.objs.size:=by rw[hHs]; exact Nat.ne_of_gt (Nat.lt_succ_self _)
 have hSI:S≠H.objs.size:=by rw[hHs]; exact Nat.ne_of_lt (Nat.lt_succ_of_lt hlt)
 have hSf:s.heap.objs.size ∉ [H.objs.size,S]:=by
  simp only[List.mem_cons,List.not_mem_nil,or_false,not_or]
  exact⟨Ne.symm hneI,Ne.symm hneS⟩
 have hio:(H.push io).get? H.objs.size=some io:=Heap.get?_push_size _ (by rw[<- hO]; rfl)
 refine wpAny_pure ⟨plainId_quiet F.plain_extend_loop _,codeAny_extend_loopS (Walks.set (A:=A.in1) (w:=w) (prog:=prog) hh H.objs.size S hSI hd hf hp hl hr hsz).toS hz _ hSf _ es.size 0 _ _ _ rfl (Nat.zero_le _)
  ⟨⟨io,oth _ _ hneI hio,by rw[<- hO],by rw[<- hO]; simp[z5h]⟩,oth _ _ hneS (Heap.get?_push_of_some _ ho1)⟩ hS₃ (ItemsOf.nil _) fun s' acc' c' hm hS' hacc => ?_⟩
 show wpAny _ A (load s.heap.objs.size >>= _) _ _ s'
 refine wpAny_bind (wpAny_load hS' ?_)
 have hq:acc'.toList=(ordE w S es ep).toList.map (·.2):=by
  apply List.ext_getElem?
  intro k
  rw[Array.getElem?_toList,List.getElem?_map,Array.getElem?_toList]
  by_cases hk:k < es.size
  ·have hk':k < acc'.size:=by rw[hacc.1]; exact hk
   obtain⟨e,e1,e2⟩:=hacc.2 k acc'[k] (getElem?_pos acc' k hk')
   rw[getElem?_pos acc' k hk',e1,e2]; rfl
  ·rw[getElem?_neg acc' k (by rw[hacc.1]; exact hk),getElem?_neg (ordE w S es ep) k (by rw[z5q]; exact hk)]; rfl
 have hfin:=h s' (fun b ob e=>hm.heap b ob (fun hb => ?_) (oth b ob (Nat.ne_of_lt (Heap.lt_size e)) (Heap.get?_push_of_some _ (hH ▸ Heap.get?_push_of_some _ e)))) hm.gens hm.drawn hm.os hm.toks
 ·rw[<- hq] at hfin
  exact wpAny_pure hfin
 ·have hlt:=Heap.lt_size e
  rcases List.mem_cons.mp hb with h | h
  ·exact absurd hlt (h ▸ Nat.lt_irrefl _)
  ·rw[List.mem_singleton.mp h,hHs] at hlt; exact absurd hlt (Nat.not_lt.mpr (Nat.le_succ _))
end
section
variable {prog:Program}{w:World}{A:Around}{E:Value->Shared->Prop}{s:Shared}
def zab {k:List Int}{vs:List Value}(h:ItemsAre (intKind prog w) k vs):IntsAre vs k:=by
 induction h with
 | nil=>exact .nil
 | cons h1 _ ih=>
  obtain⟨t,rfl⟩:=Value.isInt_shape h1
  exact .cons _ _ ih
def TK.ti {h:Heap}{k:List Int}{b:Addr}(x:TK prog w h k b):Tim.TI h (.ref b) k:=by
 obtain⟨o,z05,n,h1,h2,h3,h4⟩:=x
 exact⟨b,o,z05,n,rfl,h1,h2,h3,zab h4⟩
def zf8 {h:Heap}{v:Value}{k k':List Int}(x:Tim.TI h v k)(y:Tim.TI h v k'):k=k':=by
 obtain⟨a,o,z05,n,e,h1,h2,h3,h4⟩:=x
 obtain⟨a',o',items',n',e',g1,g2,g3,g4⟩:=y
 rw[e] at e'; cases e'
 rw[h1] at g1; cases g1
 rw[h3] at g3; cases g3
 exact(IntsAre.nums h4).symm.trans (IntsAre.nums g4)
def z2y (h:Heap)(v:Value):List Int:=by
 classical exact if c:∃ k,Tim.TI h v k then c.choose else []
def z4n {h:Heap}{v:Value}{k:List Int}(x:Tim.TI h v k):z2y h v=k:=by
 unfold z2y
 have c:∃ k,Tim.TI h v k:=⟨k,x⟩
 rw[dif_pos c]
 exact zf8 c.choose_spec x
def zbX {M:Value->Prop}{h:Heap}{l:List Value}{m:List (List Int)}(t:Two (IsK prog w M h) l m):l.map (z2y h)=m:=by
 induction t with
 | nil=>rfl
 | cons h1 _ ih=>
  obtain⟨_,b,rfl,z⟩:=h1
  rw[List.map_cons,ih,z4n (TK.ti z)]
def z9T {M:Value->Prop}{S:Addr}{kl:List (List Int)}{Q:Value->Shared->Prop}(hh:A.handled=none)(x:SetK prog w M s.heap S kl)(hne:∀ k∈kl,k≠[])(hz:kl.length<=sizeLine)
  (h:∀ s' (out:List Value),(∀ b o,s.heap.get? b=some o->s'.heap.get? b=some o)->s'.gens=s.gens->s'.drawn=s.drawn->s'.os=s.os->s.toks<=s'.toks->
   (out.map (z2y s.heap)).Perm kl->(∀ v∈out,M v/\Tim.TI s.heap v (z2y s.heap v))->(out.map (z2y s.heap)).Pairwise (fun a b=>HT.z0r b a=false)->
   ∀ D,s.heap.get? D=none->(∃ e,s'.heap.get? D=some (seqObj "list" out.toArray e))->Q (.ref D) s'):wpAny (model prog w) A (call (.builtin "sorted") [.ref S]) Q E s:=by
 obtain⟨L,hL,h2,hlen⟩:=x.len
 obtain⟨o,es,ep,t,y,_⟩:=hL.ex
 have esz:es.size=L.length:=by rw[y.tab.es]; simp
 have hkeys:=zbX h2
 have hti:∀ v∈L.map (·.2.2),Tim.TI s.heap v (z2y s.heap v):=fun v hv=>by
  obtain⟨k,_,_,b,rfl,z⟩:=h2.mem_left hv
  rw[z4n (TK.ti z)]; exact TK.ti z
 have hvs:((ordE w S es ep).toList.map (·.2)).Perm (L.map (·.2.2)):=by
  refine((z7P w S es ep).map (·.2)).trans ?_
  rw[y.tab.es]
  simp only[List.map_map]
  exact List.Perm.refl _
 refine Tim.z8y (key:=z2y s.heap) fun E' => ?_
 refine z8Y (A:=A.in1) hh y.get y.ex.1 y.data y.fits y.plain y.led y.tab.riseP (by rw[y.tab.place,esz]; simp) (by lia) fun s1 k1 g1 g2 g3 g4 => ?_
 refine⟨by rw[hvs.length_eq,List.length_map]; lia,fun v hv => ?_,fun out p1 p2 h' keep hD => ?_⟩
 ·have hv':=hvs.mem_iff.mp hv
  refine⟨(hti v hv').keep fun b o g _=>k1 b o g,hne _ ?_⟩
  rw[<- hkeys]
  exact List.mem_map.mpr ⟨v,hv',rfl⟩
 ·refine h { s1 with heap:=h' } out (fun b o g=>keep b o (k1 b o g)) g1 g2 g3 g4 ?_ (fun v hv=>⟨(h2.mem_left (hvs.mem_iff.mp (p1.mem_iff.mp hv))).choose_spec.2.1,hti v (hvs.mem_iff.mp (p1.mem_iff.mp hv))⟩) (List.pairwise_map.mpr p2) s1.heap.objs.size ?_ hD
  ·rw[<- hkeys]
   exact(p1.trans hvs).map _
  ·cases hq:s.heap.get? s1.heap.objs.size with
   | none=>rfl
   | some o=>exact absurd (Heap.lt_size (k1 _ _ hq)) (Nat.lt_irrefl _)
end
end Tab
namespace Pu
open PySem PySem.Spec PyProof.Rows L2 Tab
def SetO (P:Program)(w:World)(a:Addr)(L:List (Rw Value))(h:Heap):Prop:=∃ o es ep t,h.get? a=some o/\o.ExactSet/\o.data = .set es ep t/\TabW t es L/\L.length<=t.mask/\t.mask<=8191/\t.plain=true/\t.led=(!w.params.followText "set-order")/\L.length*5 < t.mask*3
def Mem (K:W.Frag)(P:Program)(w:World)(G:Hp)(L:List (Rw Value))(kl:List (List Int)):Prop:=Two (fun(r:Rw Value) (k:List Int)=>∃ b,r.2.2 = .ref b/\SqT K G b (k.map V.int)/\r.2.1=tupleKeyHash (intKind P w) k) L kl
def Tis (K:W.Frag)(G:Hp)(xs:List V)(ks:List (List Int)):Prop:=Two (fun(x:V) (k:List Int)=>∃ b,x = .ref b/\SqT K G b (k.map V.int)) xs ks
def MemV (K:W.Frag)(G:Hp)(v:Value):Prop:=∃ b k,v = .ref b/\SqT K G b ((k:List Int).map V.int)
def zat {α β:Type}{R:α->β->Prop}{l:List α}{m:List β}(h:Two R l m):l.length=m.length:=by
 induction h with
 | nil=>rfl
 | cons _ _ ih=>simp[ih]
def zas {α β γ:Type}{R:α->β->Prop}{f:γ->α}:∀ {l:List γ}{m:List β},Two R (l.map f) m->Two (fun c b=>R (f c) b) l m
 | [],_,h=>by cases h; exact .nil
 | c::l,_,h=>by
  cases h with
  | cons h1 h2=>exact .cons h1 (zas h2)
def zbk {α β γ:Type}{R:α->β->Prop}{f:γ->α}:∀ {l:List γ}{m:List β},Two (fun c b=>R (f c) b) l m->Two R (l.map f) m
 | [],_,h=>by cases h; exact .nil
 | c::l,_,h=>by
  cases h with
  | cons h1 h2=>exact .cons h1 (zbk h2)
def zdL {α β:Type}{R:α->β->Prop}{S:α->Prop}{l:List α}{m:List β}(h:Two R l m)(a:∀ x∈l,S x):Two (fun x y=>R x y/\S x) l m:=by
 induction h with
 | nil=>exact .nil
 | cons h1 _ ih=>exact .cons ⟨h1,a _ List.mem_cons_self⟩ (ih fun x hx=>a x (List.mem_cons_of_mem _ hx))
def zbY {K:W.Frag}{G:Hp}{R:Value->List Int->Prop}(hR:∀ b k,SqT K G b (k.map V.int)->R (.ref b) k){xs:List V}{ks:List (List Int)}(t:Tis K G xs ks):∀ {its:List Value},Vals xs its->Two R its ks:=by
 unfold Tis at t
 induction t with
 | nil=>intro its r; cases r; exact .nil
 | cons h1 _ ih=>
  intro its r
  obtain⟨b,rfl,hb⟩:=h1
  cases r with
  | cons r1 r2=>
   cases r1
   exact .cons (hR b _ hb) (ih r2)
def z1K.there {P:Program}{w:World}{H:Hp}{h:Heap}{a:Addr}{o:HO}(x:z1K P w H h a o):∃ u,h.get? a=some u:=by
 cases o with
 | lst xs=>obtain⟨_,_,_,_,e⟩:=x; exact⟨_,e⟩
 | tup xs=>obtain⟨_,_,_,⟨o,e,_⟩,_⟩:=x; exact⟨_,e⟩
 | dK kvs=>obtain⟨_,_,_,_,o,_,_,e,_⟩:=x; exact⟨_,e⟩
 | dT kvs=>obtain⟨_,_,_,_,o,_,_,e,_⟩:=x; exact⟨_,e⟩
 | set S n=>obtain⟨o,_,_,_,e,_⟩:=x; exact⟨_,e⟩
 | ins C dx fs=>obtain⟨_,_,_,e,_⟩:=x; exact⟨_,e⟩
 | own y=>exact x
 | xd fs=>obtain⟨_,⟨_,_,_,e,_⟩,_⟩:=x; exact⟨_,e⟩
 | rng lo hi=>obtain⟨_,_,_,e⟩:=x; exact⟨_,e⟩
 | frz ob u=>obtain⟨e,_⟩:=x; exact⟨_,e⟩
 | tbl ps=>rcases x with e | ⟨_,_,_,_,_,_,_,_,_,_,_,e,_⟩ <;> exact⟨_,e⟩
 | met f y=>exact⟨_,(show h.get? a=some _ from x)⟩
 | ext φ=>obtain⟨_,z,_⟩:=x; exact z
def _root_.L2.HOk.none_of {P:Program}{w:World}{H:Hp}{h:Heap}{a:Addr}(x:HOk P w H h)(e:h.get? a=none):H a=none:=by
 cases q:H a with
 | none=>rfl
 | some u=>
  obtain⟨v,z⟩:=z1K.there (x a u q)
  rw[e] at z; cases z
def _root_.L2.Inv.laid' {X:Cx}{H:Hp}{pins:List (Addr × Obj)}{σ:L2.St}{s:Shared}{h':Heap}{a:Addr}{o:HO}{t':Nat}(I:Inv X pins σ H s)(k:∀ b u,s.heap.get? b=some u->h'.get? b=some u)(hp:s.heap.get? a=none)(new:z1K X.prog X.w (upd H a o) h' a o):
  Inv X pins σ (upd H a o) { s with heap:=h',toks:=t' }:=by
 have hn:=I.hok.none_of hp
 have ne:∀ b u,s.heap.get? b=some u->b≠a:=fun b u e z=>by rw[z,hp] at e; cases e
 have neH:∀ b u,H b=some u->b≠a:=fun b u e z=>by rw[z,hn] at e; cases e
 refine I.un ⟨fun b o e q _ _=>k b o e,fun b o e q _ _=>⟨o.slots,k b o e⟩,fun b o e q _=>by rw[z09 (ne b o e)]; exact q,fun b o e _=>⟨o,k b o e⟩,fun b xs e=>by rw[z09 (neH b _ e)]; exact e,fun b o u e=>by rw[z09 (neH b _ e)]; exact e,fun b ps e=>⟨#[],by rw[z09 (neH b _ e),Array.append_empty]; exact e⟩⟩ fun b u e => ?_
 by_cases hb:b=a
 ·subst hb; rw[z0i] at e; cases e; exact new
 ·rw[z09 hb] at e
  exact(I.hok b u e).stay (fun c v _ q=>k c v q) (fun c q=>by rw[z09 (neH c _ q)]; exact q) (fun c xs q=>by rw[z09 (neH c _ q)]; exact q) fun c _ _ q=>by rw[z09 (neH c _ q)]; exact q
section
variable {X:Cx}{G H:Hp}{pins:List (Addr × Obj)}{σ:L2.St}{s:Shared}
def z6o {P:Program}{w:World}:∀ {ns:List Int}{us:List Value},Vals (ns.map V.int) us->ItemsAre (intKind P w) ns us
 | [],_,r=>by cases r; exact .nil
 | n::ns,_,r=>by
  cases r with
  | cons r1 r2=>
   obtain⟨t,rfl⟩:=r1
   exact .cons (by simp[intKind,Value.isInt]) (z6o r2)
def z9S {b:Addr}{k:List Int}(I:Inv X pins σ H s)(g:Same G H)(h:SqT X.K G b (k.map V.int)):TK X.prog X.w s.heap k b:=by
 obtain⟨its,r,⟨o,ho,hc,n,hd⟩,_⟩:=I.tuple (z1r g h)
 exact⟨o,its.toArray,n,ho,hc,hd,by simpa using z6o r⟩
def zdV {p:Addr}{L:List (Rw Value)}{kl:List (List Int)}(I:Inv X pins σ H s)(g:Same G H)(hp:H p=some (.ext (SetO X.prog X.w p L)))(hm:Mem X.K X.prog X.w G L kl)(nd:kl.Nodup):SetK X.prog X.w (MemV X.K G) s.heap p kl:=by
 obtain⟨o,es,ep,t,h1,h2,h3,h4,h5,h6,h7,h8,h9⟩:SetO X.prog X.w p L s.heap:=(show z1K X.prog X.w H s.heap p (.ext (SetO X.prog X.w p L)) from I.hok p _ hp).1
 refine⟨⟨L,⟨o,es,ep,t,⟨h1,h2,h3,h4,h5,h6,h7,h8,fun r hr => ?_⟩,h9⟩,zbk (hm.imp fun r k ⟨b,e,hb,_⟩=>⟨⟨b,k,e,hb⟩,b,e,z9S I g hb⟩)⟩,nd⟩
 obtain⟨k,_,b,e,hb,hh⟩:=Two.mem_left hm hr
 exact⟨b,k,e,z9S I g hb,hh⟩
def rSet (K:W.Frag)(P:Program)(w:World):List V->Hp->VK->Prop:=fun vs H Q=>∃ G a xs ks,vs=[.ref a]/\Same G H/\(SqL K G a xs\/SqT K G a xs)/\Tis K G xs ks/\xs.length<=2040/\
 ∀ p L kl,H p=none->Mem K P w G L kl->kl.Nodup->(∀ x,x∈kl↔x∈ks)->Q (.ref p) (upd H p (.ext (SetO P w p L)))
def zdb (hc:X.calm=true)(hu:X.A.units+64 < cLine):z1T X (.type "set") (rSet X.K X.prog X.w):=by
 intro pins s σ H xs us Q I rv ⟨G,a,ys,ks,e,g,hS,ht,hl,q⟩
 subst e
 obtain⟨u,rfl,rx⟩:=z4y rv
 cases rx
 have hh:X.A.handled=none:=I.ok.hd hc
 have isk:∀ {its:List Value},Vals ys its->Two (IsK X.prog X.w (MemV X.K G) s.heap) its ks:=fun r=>zbY (fun b k hb=>⟨⟨b,k,rfl,hb⟩,b,rfl,z9S I g hb⟩) ht r
 have fin:∀ (h':Heap) (tk:Nat) (kl:List (List Int)),SetK X.prog X.w (MemV X.K G) h' s.heap.objs.size kl->(∀ x,x∈kl↔x∈ks)->(∀ b o,b < s.heap.objs.size->s.heap.get? b=some o->h'.get? b=some o)->EP X pins σ Q (.ref s.heap.objs.size) { s with heap:=h',toks:=tk }:=by
  intro h' tk kl hK hm keep
  have keep':∀ b o,s.heap.get? b=some o->h'.get? b=some o:=fun b o e=>keep b o (Heap.lt_size e) e
  obtain⟨L,⟨o,es,ep,t,y,hf⟩,h2⟩:=hK.ex
  have so:SetO X.prog X.w s.heap.objs.size L h':=⟨o,es,ep,t,y.get,y.ex,y.data,y.tab,y.room,y.small,y.plain,y.led,hf⟩
  refine⟨.ref s.heap.objs.size,_,I.laid (o :=.ext (SetO X.prog X.w s.heap.objs.size L)) (t':=tk) keep' (Nat.le_refl _) ⟨so,⟨o,y.get⟩,fun h1 h2 ⟨o,es,ep,t,z,r⟩ st=>⟨o,es,ep,t,st _ z,r⟩⟩,rfl,q _ L kl (I.hok.fresh (Nat.le_refl _)) ?_ hK.nd hm⟩
  refine(zdL (zas h2) (S:=fun r=>∃ b k,r.2.2 = .ref b/\TK X.prog X.w h' k b/\r.2.1=tupleKeyHash (intKind X.prog X.w) k) y.key).imp fun r k ⟨⟨⟨b,k1,e1,hb⟩,b2,e2,z2⟩,b3,k3,e3,z3,hk⟩ => ?_
  rw[e1] at e2 e3
  cases e2; cases e3
  have z1:TK X.prog X.w h' k1 b:=by
   obtain⟨o,it,n,w1,w2⟩:=z9S I g hb
   exact⟨o,it,n,keep' _ _ w1,w2⟩
  have:=z1.inj z2
  subst this
  have:=z1.inj z3
  subst this
  exact⟨b,e1,hb,hk⟩
 rcases hS with hS | hS
 ·obtain⟨its,r,pl,hz⟩:=I.list (z1G g hS)
  have hlen:=r.length
  exact z7g (M:=MemV X.K G) (ks:=ks) hh (by lia) pl.isList (by simpa using isk r) (by simp only[List.size_toArray] <;> lia) fun h' tk kl hK _ hm keep=>fin h' tk kl hK hm keep
 ·obtain⟨its,r,pl,hz⟩:=I.tuple (z1r g hS)
  have hlen:=r.length
  exact z68 (M:=MemV X.K G) (ks:=ks) hh (by lia) pl (by simpa using isk r) (by simp only[List.size_toArray] <;> lia) fun h' tk kl hK _ hm keep=>fin h' tk kl hK hm keep
def zfy (K:W.Frag)(P:Program)(w:World):List V->Hp->VK->Prop:=fun vs H Q=>∃ G p L kl,vs=[.ref p]/\Same G H/\H p=some (.ext (SetO P w p L))/\Mem K P w G L kl/\kl.Nodup/\(∀ k∈kl,k≠[])/\kl.length<=2040/\
 ∀ D out kl',H D=none->Tis K G out kl'->kl'.Perm kl->kl'.Pairwise (fun a b=>HT.z0r b a=false)->Q (.ref D) (upd H D (.lst out))
def zak (hc:X.calm=true):z1T X (.builtin "sorted") (zfy X.K X.prog X.w):=by
 intro pins s σ H xs us Q I rv ⟨G,p,L,kl,e,g,hp,hm,nd,hne,hz,q⟩
 subst e
 obtain⟨u,rfl,rx⟩:=z4y rv
 cases rx
 have hn:=z6n
 have hle:(2040:Nat)<=sizeLine:=by decide
 refine z9T (M:=MemV X.K G) (I.ok.hd hc) (zdV I g hp hm nd) hne (by lia) fun s' out keep g1 g2 g3 g4 perm hti pw D hD he => ?_
 obtain⟨e,he⟩:=he
 obtain⟨h',g',d',tk',os'⟩:=s'
 dsimp only at g1 g2 g3 keep he
 subst g1; subst g2; subst g3
 have hti':∀ v∈out,MemV X.K G v:=fun v hv=>(hti v hv).1
 have hx:∃ ys:List V,Vals ys out/\Tis X.K G ys (out.map (z2y s.heap)):=by
  clear perm pw he hti
  induction out with
  | nil=>exact⟨[],.nil,.nil⟩
  | cons v out ih=>
   obtain⟨ys,y1,y2⟩:=ih fun v hv=>hti' v (List.mem_cons_of_mem _ hv)
   obtain⟨b,k,rfl,hb⟩:=hti' v List.mem_cons_self
   refine⟨.ref b::ys,.cons rfl y1,.cons ⟨b,rfl,?_⟩ y2⟩
   rw[z4n (TK.ti (z9S I g hb))]
   exact hb
 obtain⟨ys,y1,y2⟩:=hx
 have hl:ys.length=kl.length:=by rw[<- perm.length_eq,List.length_map,y1.length]
 exact⟨.ref D,upd H D (.lst ys),I.laid' (o :=.lst ys) (t':=tk') keep hD ⟨by lia,out,e,y1,he⟩,rfl,q D ys _ (I.hok.none_of hD) y2 perm pw⟩
end
abbrev tupD (k:List Int):D :=.tup (k.map .int)
structure Rows (ks kl:List (List Int)):Prop where
 up:kl.Pairwise (fun a b=>HT.z0r a b=true)
 mem:∀ x,x∈kl↔x∈ks
def zaF (d:D)(P:List (List Int)->Prop):Prop:=match d with
 | .lst l=>∃ ks,l=ks.map tupD/\l.length<=2040/\P ks
 | .tup l=>∃ ks,l=ks.map tupD/\l.length<=2040/\P ks
 | _=>False
def z9V {d:D}{P P':List (List Int)->Prop}(m:∀ k,P k->P' k)(h:zaF d P):zaF d P':=by
 cases d with
 | lst l=>obtain⟨ks,a,b,c⟩:=h; exact⟨ks,a,b,m _ c⟩
 | tup l=>obtain⟨ks,a,b,c⟩:=h; exact⟨ks,a,b,m _ c⟩
 | _=>exact h.elim
def zd3 (d:D)(Q:DK):Prop:=zaF d fun ks=>(∀ k∈ks,k≠[])/\∀ kl,Rows ks kl->Q (.lst (kl.map tupD))
def z6L:Fn:=fn1 zd3 fun d Q Q' m h=>z9V (fun ks q=>⟨q.1,fun kl z=>m _ (q.2 kl z)⟩) h
section
variable {X:Cx}{K:W.Frag}{mg:Str->Option Value}{E:XK}{G H:Hp}
def z6H:∀ {ks:List (List Int)}{xs:List V},RDs K mg G (ks.map tupD) xs->Tis K G xs ks
 | [],_,h=>by rw[List.map_nil,RDs] at h; subst h; exact .nil
 | k::ks,_,h=>by
  rw[List.map_cons,RDs] at h
  obtain⟨x,r,rfl,h1,h2⟩:=h
  obtain⟨a,ys,rfl,h3,h4⟩:=z2s h1
  rw[z4d k h4] at h3
  exact .cons ⟨a,rfl,h3⟩ (z6H h2)
def zdN:∀ {ks:List (List Int)}{xs:List V},Tis K G xs ks->RDs K mg G (ks.map tupD) xs:=by
 intro ks xs h
 unfold Tis at h
 induction h with
 | nil=>exact RDs.nil
 | cons h1 _ ih=>
  obtain⟨b,rfl,hb⟩:=h1
  exact RDs.cons (RD.ofT hb (z6Z _)) ih
def zc6 {d:D}{v:V}{P:List (List Int)->Prop}(r:RD K mg G d v)(h:zaF d P):∃ a xs ks,v = .ref a/\(SqL K G a xs\/SqT K G a xs)/\Tis K G xs ks/\xs.length<=2040/\P ks:=by
 cases d with
 | lst l=>
  obtain⟨ks,rfl,hl,q⟩:=h
  obtain⟨a,xs,rfl,h1,h2⟩:=z2h r
  exact⟨a,xs,ks,rfl,.inl h1,z6H h2,by rw[h2.len]; exact hl,q⟩
 | tup l=>
  obtain⟨ks,rfl,hl,q⟩:=h
  obtain⟨a,xs,rfl,h1,h2⟩:=z2s r
  exact⟨a,xs,ks,rfl,.inr h1,z6H h2,by rw[h2.len]; exact hl,q⟩
 | _=>exact h.elim
def z6h {kl:List (List Int)}(nd:kl.Nodup)(h:kl.Pairwise (fun a b=>HT.z0r b a=false)):kl.Pairwise (fun a b=>HT.z0r a b=true):=by
 induction kl with
 | nil=>exact .nil
 | cons a l ih=>
  rw[List.pairwise_cons] at h ⊢
  rw[List.nodup_cons] at nd
  refine⟨fun b hb => ?_,ih nd.2 h.2⟩
  cases z:HT.z0r a b with
  | true=>rfl
  | false=>
   have e:a=b:=Tim.z8P a b z (h.1 b hb)
   exact absurd (e ▸ hb) nd.1
def z4j {α:Type}[DecidableEq α]:∀ {l m:List α},l.Nodup->(∀ x∈l,x∈m)->l.length<=m.length
 | [],_,_,_=>Nat.zero_le _
 | a::l,m,nd,h=>by
  rw[List.nodup_cons] at nd
  have ha:=h a List.mem_cons_self
  have:=z4j (m:=m.erase a) nd.2 fun x hx=>(List.mem_erase_of_ne (fun(e:x=a)=>nd.1 (by rw[<- e]; exact hx))).mpr (h x (List.mem_cons_of_mem _ hx))
  rw[List.length_erase_of_mem ha] at this
  have:=List.length_pos_of_mem ha
  simp only[List.length_cons]
  lia
def zcY {ks kl:List (List Int)}(nd:kl.Nodup)(h:∀ x,x∈kl↔x∈ks):kl.length<=ks.length:=z4j nd fun x hx=>(h x).mp hx
def za1 {e:Expr}{x:Ex}{p1 p2 p3 p4:Pos}(hu:X.A.units+64 < cLine)(hc:X.calm=true)(hg:Gl X "sorted")(hm:X.mg "sorted"=none)(hg2:Gl X "set")(hm2:X.mg "set"=none)(ha:QXA X E [e] [x])
  (hs1:starEach [e] X.env=(false,eval e X.env)::starEach [] X.env:=by rfl) (hs2:starEach [.Call (.Name "set" p2) [e] [] p3] X.env=(false,eval (.Call (.Name "set" p2) [e] [] p3) X.env)::starEach [] X.env:=by rfl):QF X E (.Call (.Name "sorted" p1) [.Call (.Name "set" p2) [e] [] p3] [] p4) (.op z6L [x]):=
 QE.imp (z6K (zak hc) hg hm (by rfl) (z5o (z4f (zdb hc hu) hg2 hm2 (by rfl) ha (by decide) (by decide) hs1 (by rfl)) z9n hs2) (by decide) (by decide) hs2 (by rfl)) fun σ H Q ⟨G,ρ,Q0,X0,hs,ab,hr,hk,hx⟩=>by
  refine⟨G,ρ,fun ds=>z6L.run ds Q0 X0,X0,hs,ab,hr,fun ds vs G1 H1 q g1 g2 g3 rds => ?_,hx⟩
  obtain⟨d,rfl,q'⟩:=z3I q
  obtain⟨v,rfl,rd⟩:=rds1 rds
  obtain⟨a,xs,ks,rfl,h1,h2,h3,hne,h4⟩:=zc6 rd q'
  refine⟨G1,a,xs,ks,rfl,g2,h1,h2,h3,fun p L kl hp hM nd hmem => ?_⟩
  have s1:Same H1 (upd H1 p (.ext (SetO X.prog X.w p L))):=z0D hp _
  have hlen:ks.length=xs.length:=(zat h2).symm
  refine⟨G1,p,L,kl,rfl,z07 g2 s1,z0i,hM,nd,fun k hk=>hne k ((hmem k).mp hk),by have:=zcY nd hmem; lia,fun D out kl' hD ht pm pw => ?_⟩
  have hD1:H1 D=none:=by
   cases z:H1 D with
   | none=>rfl
   | some o=>rw[s1 D o z] at hD; cases hD
  have hD0:H D=none:=by
   cases z:H D with
   | none=>rfl
   | some o=>rw[g3 D o z] at hD1; cases hD1
  have s2:=z0D (H:=upd H1 p (.ext (SetO X.prog X.w p L))) hD (.lst out)
  refine hk (.lst (kl'.map tupD)) D G1 _ (h4 kl' ⟨z6h (pm.nodup_iff.mpr nd) pw,fun z=>by rw[pm.mem_iff]; exact hmem z⟩) g1 (z07 g2 (z07 s1 s2)) (z07 g3 (z07 s1 s2)) hD0 (z22 g2 hD1) ⟨out,z0i,zdN ht⟩
end
end Pu
namespace Rev
open PySem PyProof.Rows
def zgK:typeLookup (.type "list_reverseiterator") "__len__"=pure none:=by
 rw[typeLookup_type,builtinLookup_eq_fast]
 kernel_rfl
def zcZ:typeLookup (.type "list_reverseiterator") "__length_hint__"=pure (some (.builtin "list_reverseiterator.__length_hint__")):=by
 rw[typeLookup_type,builtinLookup_eq_fast]
 kernel_rfl
section
variable {prog:Program}{w:World}{A:Around}{E:Value->Shared->Prop}{s:Shared}{R:Result->Shared->Prop}{r:Addr}
def zeM {Q:Bool->Shared->Prop}(ty:s.TypeIs (.ref r) "list_reverseiterator")(q:Q false s):wpAny (model prog w) A (Builtin.List.listLengthHint (.ref r)) Q E s:=by
 unfold Builtin.List.listLengthHint
 refine wpAny_bind (wpAny_specialOf ty zgK ?_)
 show wpAny _ A (specialOf (.ref r) (Str.ofString "__length_hint__") >>= _) Q E s
 refine wpAny_bind (wpAny_specialOf ty zcZ ?_)
 generalize hn:("list_reverseiterator.__length_hint__":String)=n0
 wp_delta
 rw[show splitId n0=some ("list_reverseiterator","__length_hint__") from by rw[<- hn]; decide +kernel]
 refine wpAny_bind (wpAny_isInstance (b:=true) ty (by rw[isSubtype_type]; kernel_rfl) ?_)
 subst hn
 exact wpAny_pure q
def zag {fp wr:List Addr}{G:Array GenState->Array GenState->Prop}{n:Nat}{P:Nat->Value->Prop}{St:Nat->Shared->Prop}(W:WalksS prog w A.in1 r fp wr G n P St)(ty:∀ i s,St i s->s.TypeIs (.ref r) "list_reverseiterator")(S:Addr)(res:Value)(c0:Nat)(st:St 0 s)(out:S ∉ fp)(mine:r∈fp)(hz:n<=sizeLine)
  (at_:s.heap.get? S=some { cls :=.type "list",data :=.seq #[] c0 }) (q:∀ s' acc c,Moved (S::wr) G s s'->s'.heap.get? S=some { cls :=.type "list",dict:=none,data :=.seq acc c,slots := #[] }->ItemsOf P acc n->R (.ok (.ret res)) s'):
  wpAny (model prog w) A.in1 (Builtin.List.listExtendWith (.ref S) (.ref r) res) (fun fin s'=>match fin with | .done f=>R (.ok f) s' | .again c'=>c'.quiet=true/\codeAny (model prog w) A c' R s') (fun e s'=>R (.error e) s') s:=by
 have ne:S≠r:=fun e=>out (by rw[e]; exact mine)
 unfold Builtin.List.listExtendWith
 refine wpAny_bind (wpAny_typeOf (ty 0 s st) ?_)
 have k1:Builtin.List.listSameRef (.ref S) (.ref r)=false:=by simp[Builtin.List.listSameRef,ne]
 have k2:(Value.type "list_reverseiterator" == .type "list")=false:=by decide
 have k3:(Value.type "list_reverseiterator" == .type "tuple")=false:=by decide
 rw[k1,k2,k3]
 refine wpAny_bind (W.self 0 s _ _ st (wpAny_bind (wpAny_holding (zeM (ty 0 s st) ?_))))
 exact wpAny_pure ⟨plainId_quiet F.plain_extend_loop _,codeAny_extend_loopS W hz S out res n 0 s #[] c0 rfl (Nat.zero_le _) st at_ (ItemsOf.nil P) q⟩
def zd1 {fp wr:List Addr}{G:Array GenState->Array GenState->Prop}{n:Nat}{P:Nat->Value->Prop}{St:Nat->Shared->Prop}(W:WalksS prog w A.in1 r fp wr G n P St)(ty:∀ i s,St i s->s.TypeIs (.ref r) "list_reverseiterator")(S:Addr)(st:St 0 s)(out:S ∉ fp)(mine:r∈fp)(hz:n<=sizeLine)
  (at_:s.heap.get? S=some { cls :=.type "list",data :=.seq #[] }) (q:∀ s' acc c,Moved (S::wr) G s s'->s'.heap.get? S=some { cls :=.type "list",dict:=none,data :=.seq acc c,slots := #[] }->ItemsOf P acc n->R (.ok (.ret .none)) s'):
  wpAny (model prog w) A.in1 (Builtin.«list.__init__» ⟨[.ref S,.ref r],[]⟩) (fun fin s'=>match fin with | .done f=>R (.ok f) s' | .again c'=>c'.quiet=true/\codeAny (model prog w) A c' R s') (fun e s'=>R (.error e) s') s:=by
 show wpAny _ A.in1 (Builtin.List.listItems (.ref S) >>= fun old=>Builtin.List.listUpdate (.ref S) (fun _ => #[]) >>= fun _=>letGo old.toList.reverse >>= fun _=>Builtin.List.listExtendWith (.ref S) (.ref r) .none) _ _ s
 unfold Builtin.List.listItems
 refine wpAny_bind (wpAny_bind (wpAny_seqItems at_ rfl (wpAny_pure ?_)))
 refine wpAny_bind (m:=updateSeq S fun _ => #[]) (wpAny_updateSeq at_ rfl (wpAny_bind (wpAny_letGo ?_)))
 have keep:∀ b o,b≠S->s.heap.get? b=some o->(s.heap.update S (Obj.mapSeq fun _=>(#[]:Array Value))).get? b=some o:=fun b o z e=>by rw[Heap.get?_update_other _ _ (Ne.symm z)]; exact e
 refine zag W ty S .none _ (W.frame 0 s _ s.toks st (Nat.le_refl _) fun b hb o e=>keep b o (fun z=>out (z ▸ hb)) e) out mine hz (Heap.get?_update_self _ at_ rfl) fun s' acc c mv e it=>q s' acc c ?_ e it
 exact Moved.trans W.gtrans ((Moved.refl W.grefl).then_heap (Nat.le_refl _) fun b o hb e=>keep b o (fun z=>hb (by rw[z]; exact List.mem_cons_self)) e) mv
end
end Rev
namespace Pu
open PySem PySem.Spec PyProof.Rows L2 Tab
def Ex.callv (T:Nat->Fn)(i:Nat)(es:List Ex):Ex:=⟨fun ρ Q Xp=>∃ n,ρ.get i=some (.fn n)/\runs es ρ (fun ds=>(T n).run ds Q Xp) Xp,fun ρ Q Q' Xp X' m mx ⟨n,e,q⟩=>⟨n,e,z3o es ρ _ _ Xp X' (fun ds q1=>(T n).mono ds Q Q' Xp X' m mx q1) mx q⟩⟩
def FTab (P:Program)(w:World)(K:W.Frag)(mg:Str->Option Value)(base:Heap)(CX:CXT)(k:Nat)(T:Nat->Fn):Prop:=∀ n f,mg (z4Z n)=some (.ref f)->∃ j fd ps,j<=k/\FnOk P w K mg base CX j f fd ps (spP K mg (T n))/\PySem.W.keepIn K (.ref f)=true/\z6a K fd ps []
def FTab.mk {P:Program}{w:World}{K:W.Frag}{mg:Str->Option Value}{base:Heap}{CX:CXT}{k:Nat}{T:Nat->Fn}(hz:mg ""=none)
  (h:∀ n < 4,∀ f,mg (z4Z n)=some (.ref f)->∃ j fd ps,j<=k/\FnOk P w K mg base CX j f fd ps (spP K mg (T n))/\PySem.W.keepIn K (.ref f)=true/\z6a K fd ps []):FTab P w K mg base CX k T:=fun n f e=>by
 by_cases hn:n < 4
 ·exact h n hn f e
 ·rw[show z4Z n="" from by
   match n,hn with
   | 0,h=>exact absurd (by decide) h
   | 1,h=>exact absurd (by decide) h
   | 2,h=>exact absurd (by decide) h
   | 3,h=>exact absurd (by decide) h
   | n+4,_=>rfl,hz] at e
  cases e
def _root_.L2.Cal.tab {P:Program}{w:World}{K:W.Frag}{mg:Str->Option Value}{base:Heap}{CX:CXT}{j k:Nat}{x:Str}{ps:List Str}{F:Fn}(C:Cal P w K mg base CX j x ps (spP K mg F))(h:j<=k)(f:Addr)(e:mg x=some (.ref f)):∃ j fd ps,j<=k/\FnOk P w K mg base CX j f fd ps (spP K mg F)/\PySem.W.keepIn K (.ref f)=true/\z6a K fd ps []:=by
 obtain⟨f',fd,F',hm,hk,hb⟩:=C.ex
 rw[hm] at e; cases e
 exact⟨j,fd,ps,h,F',hk,hb⟩
section
variable {X:Cx}{E:XK}{CX:CXT}{e:Expr}{es:List Expr}{xs:List Ex}{pos:Pos}
def zfd (X:Cx)(CX:CXT)(E:XK)(i:Nat)(t:TA):TE:=fun σ H Q=>∃ f fd ps sp k,σ[i]? = some (some (.ref f))/\FnOk X.prog X.w X.K X.mg X.base CX k f fd ps sp/\Room k X.A/\PySem.W.keepIn X.K (.ref f)=true/\z6a X.K fd ps []/\t σ H fun vs H1=>sp (vs++[]) H1 Q E
def zcy {x:Str}{i:Nat}{p:Pos}{t:TA}(hx:z54 CX X E)(hv:PE X (.Name x p) (tVar i))(ha:PA X (e::es) t)(he:starEach (e::es) X.env=(false,eval e X.env)::starEach es X.env:=by rfl)(hpl:(backTo pos (starEach es X.env)).any (·.1)=false:=by rfl):
  PE X (.Call (.Name x p) (e::es) [] pos) (zfd X CX E i t):=by
 intro pins s σ H Q I ⟨f,fd,ps,sp,k,hσ,F,hr,hk,hb,h⟩
 refine wpAny_Call_Name_kw (thn (hv pins s σ H (fun v H1=>v = .ref f/\t σ H1 fun vs H1=>sp (vs++[]) H1 Q E) I ⟨_,hσ,rfl,h⟩) fun u s1 ⟨v,H1,I1,rv,ev,q⟩ => ?_)
 subst ev
 cases rv
 exact PySem.W.callWith_K (h₀:=X.base) I1.ok.mod.kin hk (thn (ha pos pins s1 σ H1 _ I1 q) fun us s2 ⟨vs,H2,I2,r,q2⟩=>⟨I2.kIn,zdm F hr hb .nil hx I2 r q2⟩) he hpl
def zcl {T:Nat->Fn}{k:Nat}{x:Str}{i:Nat}{p:Pos}(tb:FTab X.prog X.w X.K X.mg X.base CX k T)(hr:Room k X.A)(hx:z54 CX X E)(hv:QE X (.Name x p) (tVar i))(ha:QXA X E (e::es) xs)
  (he:starEach (e::es) X.env=(false,eval e X.env)::starEach es X.env:=by rfl) (hpl:(backTo pos (starEach es X.env)).any (·.1)=false:=by rfl):QX X E (.Call (.Name x p) (e::es) [] pos) (.callv T i xs):=
 ⟨PE.imp (zcy hx hv.p ha.p he hpl) fun σ H Q ⟨G,ρ,Q0,X0,hs,ab,⟨n,hn,hr'⟩,hk,hx'⟩=>by
  obtain⟨v,h1,h2⟩:=ab i _ hn
  rw[RD] at h2
  obtain⟨f,rfl,hm⟩:=h2
  obtain⟨j,fd,ps,hj,F,hkp,hb⟩:=tb n f hm
  refine⟨f,fd,ps,_,j,h1,F,hr.mono hj,hkp,hb,G,ρ,_,X0,hs,ab,hr',fun ds vs G' H' q g1 g2 g3 rds => ?_,hx'⟩
  show spP X.K X.mg (T n) (vs++[]) H' Q E
  rw[List.append_nil]
  exact⟨G',ds,Q0,X0,g2,rds,q,hk.same g1 g3,hx'.same g3⟩⟩
def zfD {x:Str}{n k:Nat}{ps:List Str}{sp:Sp}{p:Pos}(hn:z4Z n=x)(hg:Gl X x)(C:Cal X.prog X.w X.K X.mg X.base CX k x ps sp)(hd:(x == ("__debug__":Str))=false):QX X E (.Name x p) (.c (.fn n)):=by
 obtain⟨f,fd,F',hm,hk,hb⟩:=C.ex
 exact qx_c (v :=.ref f) ⟨zel hg hm rfl hd⟩ fun _=>by rw[RD]; exact⟨f,rfl,by rw[hn]; exact hm⟩
end
def _root_.L2.Inv.spent {X:Cx}{H:Hp}{pins:List (Addr × Obj)}{σ:L2.St}{s:Shared}{h':Heap}{r a:Addr}{φ:Heap->Prop}{o:HO}{t':Nat}(I:Inv X pins σ (upd H r (.ext φ)) s)(hr:H r=none)(h0:X.s₀.heap.objs.size<=r)(k:∀ b u,b≠r->s.heap.get? b=some u->h'.get? b=some u)(hp:s.heap.get? a=none)
  (new:z1K X.prog X.w (upd H a o) h' a o):Inv X pins σ (upd H a o) { s with heap:=h',toks:=t' }:=by
 have Hr:upd H r (.ext φ) r=some (.ext φ):=z0i
 have back:∀ b (u:HO),upd H r (.ext φ) b=some u->(∀ ψ,u ≠ .ext ψ)->H b=some u/\b≠r:=fun b u e z=>by
  have hb:b≠r:=fun y=>by rw[y,Hr] at e; cases e; exact z φ rfl
  rw[z09 hb] at e; exact⟨e,hb⟩
 have hn0:=I.hok.none_of hp
 have har:a≠r:=fun y=>by rw[y,Hr] at hn0; cases hn0
 have hn:H a=none:=by rw[z09 har] at hn0; exact hn0
 have ne:∀ b u,s.heap.get? b=some u->b≠a:=fun b u e z=>by rw[z,hp] at e; cases e
 have neH:∀ b u,H b=some u->b≠a:=fun b u e z=>by rw[z,hn] at e; cases e
 have out:∀ b,upd H r (.ext φ) b=none->b≠r/\H b=none:=fun b e=>by
  have hb:b≠r:=fun y=>by rw[y,Hr] at e; cases e
  rw[z09 hb] at e; exact⟨hb,e⟩
 have same:∀ b (u:HO),upd H r (.ext φ) b=some u->(∀ ψ,u ≠ .ext ψ)->upd H a o b=some u:=fun b u e z=>by
  obtain⟨e',_⟩:=back b u e z
  rw[z09 (neH b u e')]; exact e'
 refine I.step (g':=s.gens) (d':=s.drawn) (ch:=[r]) (fun b hb => ?_) (fun b u _ _ hc e _=>k b u (fun z=>hc (by simp[z])) e) (fun b u _ _ hc e _=>⟨u.slots,k b u (fun z=>hc (by simp[z])) e⟩) (fun b u _ e q=>by rw[z09 (ne b u e)]; exact(out b q).2)
  (fun b u hc e=>⟨u,k b u (fun z=>hc (by simp[z])) e⟩) (fun b xs e=>same b _ e fun _=>nofun) (fun b u v e=>same b _ e fun _=>nofun) (fun b ps e=>⟨#[],by rw[same b _ e fun _=>nofun,Array.append_empty]⟩) (fun m hm => ?_) (fun b u e => ?_) I.bare
 ·have e:b=r:=by simpa using hb
  subst e
  exact⟨.inr h0,(fun z=>(out _ I.free).1 z.symm),fun x c e=>(out c (I.freeC x c e)).1,fun p hp=>(out _ (I.pin p hp).2.1).1⟩
 ·obtain⟨u,es,ep,ho,q⟩:=hm
  exact⟨u,es,ep,k _ u (out _ I.free).1 ho,q⟩
 by_cases hb:b=a
 ·subst hb; rw[z0i] at e; cases e; exact new
 rw[z09 hb] at e
 have hbr:b≠r:=fun z=>by rw[z,hr] at e; cases e
 have e':upd H r (.ext φ) b=some u:=by rw[z09 hbr]; exact e
 refine(I.hok b u e').stay (fun c v hc q=>k c v ?_ q) (fun c q=>same c _ q fun _=>nofun) (fun c xs q=>same c _ q fun _=>nofun) fun c _ _ q=>same c _ q fun _=>nofun
 rcases hc with rfl | hc
 ·exact hbr
 ·exact(back c _ hc fun _=>nofun).2
def RevO (r a:Addr)(n:Nat)(h:Heap):Prop:=h.IsRevIter r a ((n:Int) - 1)
section
variable {X:Cx}{E:XK}
def rRev (X:Cx):List V->Hp->VK->Prop:=fun vs H Q=>∃ a ys,vs=[.ref a]/\SqL X.K H a ys/\∀ r,H r=none->X.s₀.heap.objs.size<=r->Q (.ref r) (upd H r (.ext (RevO r a ys.length)))
def zdc:z1T X (.type "reversed") (rRev X):=by
 intro pins s σ H xs us Q I rv ⟨a,ys,e,hS,q⟩
 subst e
 obtain⟨u,rfl,rx⟩:=z4y rv
 cases rx
 obtain⟨its,r,pl,hz⟩:=I.list hS
 have hlen:=r.length
 refine call_reversed_list pl.isList ⟨.ref s.heap.objs.size,_,I.laid (o :=.ext (RevO s.heap.objs.size a ys.length)) (t':=s.toks) (fun b o e=>Heap.get?_push_of_some _ e) (Nat.le_refl _) ⟨⟨_,Heap.get?_push_size _ rfl,rfl,by simp[revObj,hlen]⟩,⟨_,Heap.get?_push_size _ rfl⟩,fun h1 h2 x st=>x.at st⟩,rfl,q _ (I.hok.fresh (Nat.le_refl _)) I.sz⟩
def zci (X:Cx):List V->Hp->VK->Prop:=fun vs H Q=>∃ r a ys H1,vs=[.ref r]/\H=upd H1 r (.ext (RevO r a ys.length))/\H1 r=none/\X.s₀.heap.objs.size<=r/\SqL X.K H1 a ys/\∀ d,H1 d=none->Q (.ref d) (upd H1 d (.lst ys.reverse))
def z8h (hc:X.calm=true):z1T X (.type "list") (zci X):=by
 intro pins s σ H xs us Q I rv ⟨r,a,ys,H1,e,eH,hr,h0,hS1,q⟩
 subst e
 subst eH
 have hS:=z1G (z0D hr (.ext (RevO r a ys.length))) hS1
 obtain⟨u,rfl,rx⟩:=z4y rv
 cases rx
 have hh:X.A.handled=none:=I.ok.hd hc
 obtain⟨its,rv',pl,hz⟩:=I.list hS
 have hlen:=rv'.length
 have hR:s.heap.IsRevIter r a ((ys.length:Int) - 1):=(show z1K X.prog X.w _ s.heap r (.ext (RevO r a ys.length)) from I.hok r _ z0i).1
 have hra:a≠r:=by
  obtain⟨o,ho,hc',_⟩:=hR
  obtain⟨o',ho',hc'',_⟩:=pl.isList
  intro z
  rw[z,ho] at ho'; cases ho'
  rw[hc'] at hc''
  injection hc'' with h
  exact absurd h (by decide)
 have W:=(Walks.listRev (prog:=X.prog) (w:=X.w) (A:=X.A.in1.in1) (by simp[hh]) r a hra its.toArray).toS
 have sz:its.toArray.size=ys.length:=by simp[hlen]
 refine callType_codes (Q₁:=fun v s1=>v = .ref s.heap.objs.size/\s1={ s with heap:=s.heap.push { cls :=.type "list",data :=.seq #[] } }) F.called_list (F.typeCall_list_1 _) F.entry_list_init (code_list_new _ ⟨rfl,rfl⟩) fun v s1 hv => ?_
 obtain⟨rfl,rfl⟩:=hv
 have hD:(s.heap.push { cls :=.type "list",data :=.seq #[] }).get? s.heap.objs.size=some { cls :=.type "list",data :=.seq #[] }:=Heap.get?_push_size _ rfl
 have hlt:∀ {b:Addr}{o:Obj},s.heap.get? b=some o->b≠s.heap.objs.size:=fun e=>Nat.ne_of_lt (Heap.lt_size e)
 obtain⟨o1,ho1,hc1,hd1⟩:=hR
 obtain⟨o2,ho2,n2⟩:=pl.isList
 refine⟨⟨_,hD,rfl⟩,F.args_list_init_2 _ _,Rev.zd1 (A:=X.A.in1) W (fun i s st=>st.2.1.typeIs) s.heap.objs.size ⟨Nat.zero_le _,⟨o1,Heap.get?_push_of_some _ ho1,hc1,by rw[hd1,sz]; simp⟩,⟨o2,Heap.get?_push_of_some _ ho2,n2⟩⟩ (by
  simp only[List.mem_cons,List.not_mem_nil,or_false,not_or]
  exact⟨Ne.symm (hlt ho1),Ne.symm (hlt ho2)⟩) (by simp) (by rw[sz]; exact hz) hD fun s' acc c mv hS' it=>⟨rfl,?_⟩⟩
 have keep:∀ b o,b≠r->s.heap.get? b=some o->s'.heap.get? b=some o:=fun b o hb e=>mv.heap b o (by
  simp only[List.mem_cons,List.not_mem_nil,or_false,not_or]
  exact⟨hlt e,hb⟩) (Heap.get?_push_of_some _ e)
 obtain⟨h',g',d',tk',os'⟩:=s'
 have eg:g'=s.gens:=mv.gens
 have ed:d'=s.drawn:=mv.drawn
 have eo:os'=s.os:=mv.os
 subst eg; subst ed; subst eo
 have acc':acc.toList=its.reverse:=by
  apply List.ext_getElem?
  intro k
  by_cases hk:k < its.length
  ·have hk':k < acc.size:=by rw[it.1,sz,hlen]; exact hk
   have:=it.2 k acc[k] (getElem?_pos acc k hk')
   rw[Array.getElem?_toList,getElem?_pos acc k hk',List.getElem?_reverse hk, <- this]
   simp
  ·have hk':¬ k < acc.size:=by rw[it.1,sz,hlen]; exact hk
   rw[Array.getElem?_toList,getElem?_neg acc k hk',List.getElem?_eq_none (by simp; lia)]
 have hsz:s.heap.get? s.heap.objs.size=none:=by
  cases z:s.heap.get? s.heap.objs.size with
  | none=>rfl
  | some o=>exact absurd (Heap.lt_size z) (Nat.lt_irrefl _)
 have hn1:H1 s.heap.objs.size=none:=by
  have:=I.hok.none_of hsz
  cases z:H1 s.heap.objs.size with
  | none=>rfl
  | some o=>rw[z0D hr _ _ _ z] at this; cases this
 refine⟨.ref s.heap.objs.size,_,I.spent (o :=.lst ys.reverse) (t':=tk') hr h0 keep hsz ⟨by simpa using hz,its.reverse,c,rv'.reverse,?_⟩,rfl,q _ hn1⟩
 rw[<- acc']
 exact hS'
end
section
variable {X:Cx}{K:W.Frag}{mg:Str->Option Value}{E:XK}{G H:Hp}
def zd4 (d:D)(Q:DK):Prop:=isLs d fun l=>Q (.lst l.reverse)
def z21:Fn:=fn1 zd4 fun d Q Q' m h=>zbr (fun l q=>m _ q) h
def zbq {d:D}{P:List D->Prop}(h:isLs d P):∃ l,d = .lst l/\P l:=by
 cases d with
 | lst l=>exact⟨l,rfl,h⟩
 | _=>exact h.elim
def z4E {e:Expr}{x:Ex}{p1 p2 p3 p4:Pos}(hc:X.calm=true)(hg:Gl X "list")(hm:X.mg "list"=none)(hg2:Gl X "reversed")(hm2:X.mg "reversed"=none)(ha:QXA X E [e] [x])
  (hs1:starEach [e] X.env=(false,eval e X.env)::starEach [] X.env:=by rfl) (hs2:starEach [.Call (.Name "reversed" p2) [e] [] p3] X.env=(false,eval (.Call (.Name "reversed" p2) [e] [] p3) X.env)::starEach [] X.env:=by rfl):QF X E (.Call (.Name "list" p1) [.Call (.Name "reversed" p2) [e] [] p3] [] p4) (.op z21 [x]):=
 QE.imp (z4f (z8h hc) hg hm (by rfl) (z5o (z4f zdc hg2 hm2 (by rfl) ha (by decide) (by decide) hs1 (by rfl)) z9n hs2) (by decide) (by decide) hs2 (by rfl)) fun σ H Q ⟨G,ρ,Q0,X0,hs,ab,hr,hk,hx⟩=>by
  refine⟨G,ρ,fun ds=>z21.run ds Q0 X0,X0,hs,ab,hr,fun ds vs G1 H1 q g1 g2 g3 rds => ?_,hx⟩
  obtain⟨d,rfl,q'⟩:=z3I q
  obtain⟨v,rfl,rd⟩:=rds1 rds
  obtain⟨l,rfl,q2⟩:=zbq q'
  obtain⟨a,xs,rfl,h1,h2⟩:=z2h rd
  refine⟨a,xs,rfl,z1G g2 h1,fun r hr0 hr1=>⟨r,a,xs,H1,rfl,rfl,hr0,hr1,z1G g2 h1,fun d hd => ?_⟩⟩
  have hd0:H d=none:=by
   cases z:H d with
   | none=>rfl
   | some o=>rw[g3 d o z] at hd; cases hd
  exact hk (.lst l.reverse) d G1 _ q2 g1 (z07 g2 (z0D hd _)) (z07 g3 (z0D hd _)) hd0 (z22 g2 hd) ⟨xs.reverse,z0i,h2.rev⟩
def gIn (neg:Bool)(a b:D)(Q:DK):Prop:=match b with
 | .lst l=>Da 60 a/\(∀ d∈l,Da 60 d)/\Q (.bl (if neg then !l.any (fun d=>deq d a) else l.any (fun d=>deq d a)))
 | .tup l=>Da 60 a/\(∀ d∈l,Da 60 d)/\Q (.bl (if neg then !l.any (fun d=>deq d a) else l.any (fun d=>deq d a)))
 | _=>False
def z9G {neg:Bool}(a b:D)(Q Q':DK)(m:∀ d,Q d->Q' d)(h:gIn neg a b Q):gIn neg a b Q':=by
 unfold gIn at h ⊢
 split at h
 ·exact⟨h.1,h.2.1,m _ h.2.2⟩
 ·exact⟨h.1,h.2.1,m _ h.2.2⟩
 ·exact h.elim
def pIn:Fn:=fn2 (gIn false) z9G
def zbe:Fn:=fn2 (gIn true) z9G
open Classical in
def z4v {s:Shared}{a:D}{l:List D}{xs:List V}{its:List Value}{pins:List (Addr × Obj)}{σ:L2.St}(I:Inv X pins σ H s)(g:Same G H)(hu:X.A.units+64 < cLine){v:V}{u:Value}(ra:RD X.K X.mg G a v)(rv:RelV v u)(hd:Da 60 a)(hl:∀ d∈l,Da 60 d)(rds:RDs X.K X.mg G l xs)(rr:Vals xs its):
  ∃ e:Value->Bool,(∀ y∈its,SeqAt.EqAt X.A.in1 s y u (e y))/\its.any e=l.any (fun d=>deq d a)/\∀ (i:Nat) (y:Value) (d:D),its[i]? = some y->l[i]? = some d->e y=deq d a:=by
 obtain⟨as,r1⟩:=Rp.reads I (py a) ((Da.rp 60 _ hd ra).same g) rv
 have key:∀ (d:D) (x:V) (y:Value),Da 60 d->RD X.K X.mg G d x->RelV x y->SeqAt.EqAt X.A.in1 s y u (deq d a):=fun d x y h1 h2 h3=>by
  obtain⟨bs,r2⟩:=Rp.reads I (py d) ((Da.rp 60 _ h1 h2).same g) h3
  obtain⟨c1,c2⟩:=Da.canLay 60 d h1
  obtain⟨c3,c4⟩:=Da.canLay 60 a hd
  exact SeqAt.eqAt_reads (py d) (py a) X.A.in1 s y u bs as r2 r1 c1 c3 (by
   have:min (py d).depth (py a).depth<=60:=Nat.le_trans (Nat.min_le_left _ _) c2
   have:X.A.in1.units<=X.A.units+1:=by simp
   lia)
 let e:Value->Bool:=fun y=>if h:∃ dt bs,Reads s.heap y dt bs/\dt.canLay0=true then PyData.eqv h.choose (py a) else false
 have he:∀ (d:D) (x:V) (y:Value),Da 60 d->RD X.K X.mg G d x->RelV x y->e y=deq d a:=fun d x y h1 h2 h3=>by
  obtain⟨bs,r2⟩:=Rp.reads I (py d) ((Da.rp 60 _ h1 h2).same g) h3
  have c1:=(Da.canLay 60 d h1).1
  have h:∃ dt bs,Reads s.heap y dt bs/\dt.canLay0=true:=⟨_,bs,r2,c1⟩
  show (if h:∃ dt bs,Reads s.heap y dt bs/\dt.canLay0=true then PyData.eqv h.choose (py a) else false)=deq d a
  rw[dif_pos h]
  obtain⟨cs,z1,z2⟩:=h.choose_spec
  rw[(Reads.unique z1 _ _ r2).1]
  rfl
 refine⟨e,?_⟩
 clear_value e
 induction l generalizing xs its with
 | nil=>
  rw[RDs] at rds; subst rds
  cases rr
  exact⟨fun y hy=>(by cases hy),rfl,fun i y d h=>(by simp at h)⟩
 | cons d l ih=>
  rw[RDs] at rds
  obtain⟨x,xs',rfl,h1,h2⟩:=rds
  cases rr with
  | cons rx rr=>
   obtain⟨i1,i2,i3⟩:=ih (fun d hd=>hl d (List.mem_cons_of_mem _ hd)) h2 rr
   have hd0:=hl d List.mem_cons_self
   refine⟨fun y hy => ?_,by rw[List.any_cons,List.any_cons,he d x _ hd0 h1 rx,i2],fun i y d' e1 e2 => ?_⟩
   rotate_left
   ·cases i with
    | zero=>
     rw[List.getElem?_cons_zero] at e1 e2
     cases e1
     cases e2
     exact he d x _ hd0 h1 rx
    | succ i=>exact i3 i y d' (by rwa [List.getElem?_cons_succ] at e1) (by rwa [List.getElem?_cons_succ] at e2)
   rcases List.mem_cons.mp hy with rfl | hy
   ·rw[he d x _ hd0 h1 rx]; exact key d x _ hd0 h1 rx
   ·exact i1 y hy
def zi7 (hu:X.A.units+64 < cLine):OpR X (compareOp .In) (r2 X.K X.mg pIn):=by
 intro pins s σ H x y v u Q I rx ry ⟨G,d1,d2,Q0,X0,g,r1,r2,hr,hk⟩
 have hr':gIn false d1 d2 Q0:=hr
 unfold gIn at hr'
 split at hr'
 ·obtain⟨h1,h2,q⟩:=hr'
  obtain⟨a,xs,rfl,h3,h4⟩:=z2h r2
  cases ry
  obtain⟨its,rr,pl,_⟩:=I.list (z1G g h3)
  obtain⟨e,e1,e2,_⟩:=z4v I g hu r1 rx h1 h2 h4 rr
  refine SeqAt.in_listAt e pl.isList (fun w hw=>e1 w (by simpa using hw)) ⟨.bl _,H,I,rfl,?_⟩
  rw[show its.toArray.any e=its.any e by simp,e2]
  exact hk.now g q RD.bl'
 ·obtain⟨h1,h2,q⟩:=hr'
  obtain⟨a,xs,rfl,h3,h4⟩:=z2s r2
  cases ry
  obtain⟨its,rr,pl,_⟩:=I.tuple (z1r g h3)
  obtain⟨e,e1,e2,_⟩:=z4v I g hu r1 rx h1 h2 h4 rr
  refine SeqAt.in_tupleAt e pl (fun w hw=>e1 w (by simpa using hw)) ⟨.bl _,H,I,rfl,?_⟩
  rw[show its.toArray.any e=its.any e by simp,e2]
  exact hk.now g q RD.bl'
 ·exact hr'.elim
def zcI (hu:X.A.units+64 < cLine):OpR X (compareOp .NotIn) (r2 X.K X.mg zbe):=by
 intro pins s σ H x y v u Q I rx ry ⟨G,d1,d2,Q0,X0,g,r1,r2,hr,hk⟩
 have hr':gIn true d1 d2 Q0:=hr
 unfold gIn at hr'
 split at hr'
 ·obtain⟨h1,h2,q⟩:=hr'
  obtain⟨a,xs,rfl,h3,h4⟩:=z2h r2
  cases ry
  obtain⟨its,rr,pl,_⟩:=I.list (z1G g h3)
  obtain⟨e,e1,e2,_⟩:=z4v I g hu r1 rx h1 h2 h4 rr
  refine SeqAt.notIn_listAt e pl.isList (fun w hw=>e1 w (by simpa using hw)) ⟨.bl _,H,I,rfl,?_⟩
  rw[show its.toArray.any e=its.any e by simp,e2]
  exact hk.now g q RD.bl'
 ·obtain⟨h1,h2,q⟩:=hr'
  obtain⟨a,xs,rfl,h3,h4⟩:=z2s r2
  cases ry
  obtain⟨its,rr,pl,_⟩:=I.tuple (z1r g h3)
  obtain⟨e,e1,e2,_⟩:=z4v I g hu r1 rx h1 h2 h4 rr
  refine SeqAt.notIn_tupleAt e pl (fun w hw=>e1 w (by simpa using hw)) ⟨.bl _,H,I,rfl,?_⟩
  rw[show its.toArray.any e=its.any e by simp,e2]
  exact hk.now g q RD.bl'
 ·exact hr'.elim
def zf7:∀ {xs:List V}{ks:List (List Int)}{its:List Value}{i:Nat}{y:Value},Tis K G xs ks->Vals xs its->its[i]? = some y->∃ b k,xs[i]? = some (.ref b)/\ks[i]? = some k/\y = .ref b/\SqT K G b (k.map V.int):=by
 intro xs ks its i y h
 unfold Tis at h
 induction h generalizing its i with
 | nil=>intro r e; cases r; simp at e
 | cons h1 _ ih=>
  intro r e
  cases r with
  | cons r1 r2=>
   obtain⟨b,rfl,hb⟩:=h1
   cases i with
   | zero=>simp at e; subst e; cases r1; exact⟨b,_,rfl,rfl,rfl,hb⟩
   | succ i=>simpa using ih r2 (by simpa using e)
end
end Pu
namespace Rev
open PySem PyProof.Rows
end Rev
namespace Pu
open PySem PySem.Spec PyProof.Rows L2 Tab
end Pu
namespace Pu
open PySem L2
def z58:Fn:=Fn.mkN 2 5 (.seq (.set 2 (.op pAbs [(.v 0)]))
 (.seq (.set 3 (.op pAbs [(.v 1)]))
 (.seq (.wh (.op pNe [(.v 3),(.c (.int 0))]) (.seq (.set 4 (.op pMod [(.v 2),(.v 3)]))
 (.seq (.set 2 (.v 3))
 (.set 3 (.v 4)))))
 (.ret (.v 2)))))
def zbD:Fn:=Fn.mkN 2 2 (.ret (.op pSub [(.op z0y [(.op pIx [(.v 0),(.c (.int 0))]),(.op pIx [(.v 1),(.c (.int 1))])]),(.op z0y [(.op pIx [(.v 0),(.c (.int 1))]),(.op pIx [(.v 1),(.c (.int 0))])])]))
def z5E:Fn:=Fn.mkN 2 2 (.ret (.op pTup [(.op pSub [(.op pIx [(.v 1),(.c (.int 0))]),(.op pIx [(.v 0),(.c (.int 0))])]),(.op pSub [(.op pIx [(.v 1),(.c (.int 1))]),(.op pIx [(.v 0),(.c (.int 1))])])]))
def zbE:Fn:=Fn.mkN 3 3 (.ret (.op zbD [(.op z5E [(.v 0),(.v 1)]),(.op z5E [(.v 1),(.v 2)])]))
def z2L:Fn:=Fn.mkN 3 5 (.seq (.set 3 (.op pSub [(.op z0y [(.op pIx [(.v 1),(.c (.int 0))]),(.op pIx [(.v 2),(.c (.int 2))])]),(.op z0y [(.op pIx [(.v 2),(.c (.int 0))]),(.op pIx [(.v 1),(.c (.int 2))])])]))
 (.seq (.set 4 (.op pSub [(.op z0y [(.op pIx [(.v 1),(.c (.int 1))]),(.op pIx [(.v 2),(.c (.int 2))])]),(.op z0y [(.op pIx [(.v 2),(.c (.int 1))]),(.op pIx [(.v 1),(.c (.int 2))])])]))
 (.ret (.op pAdd [(.op pSub [(.op z0y [(.op pIx [(.v 0),(.c (.int 0))]),(.v 4)]),(.op z0y [(.op pIx [(.v 0),(.c (.int 1))]),(.v 3)])]),(.op z0y [(.op pIx [(.v 0),(.c (.int 2))]),(.op pSub [(.op z0y [(.op pIx [(.v 1),(.c (.int 0))]),(.op pIx [(.v 2),(.c (.int 1))])]),(.op z0y [(.op pIx [(.v 1),(.c (.int 1))]),(.op pIx [(.v 2),(.c (.int 0))])])])])]))))
def z86:Fn:=Fn.mkN 2 5 (.seq (.set 2 (.op pSub [(.op z0y [(.op pIx [(.v 1),(.c (.int 0))]),(.op pIx [(.v 0),(.c (.int 2))])]),(.op z0y [(.op pIx [(.v 0),(.c (.int 0))]),(.op pIx [(.v 1),(.c (.int 2))])])]))
 (.seq (.set 3 (.op pSub [(.op z0y [(.op pIx [(.v 1),(.c (.int 1))]),(.op pIx [(.v 0),(.c (.int 2))])]),(.op z0y [(.op pIx [(.v 0),(.c (.int 1))]),(.op pIx [(.v 1),(.c (.int 2))])])]))
 (.seq (.set 4 (.op z58 [(.v 2),(.v 3)]))
 (.ret (.op pTup [(.op z30 [(.v 2),(.v 4)]),(.op z30 [(.v 3),(.v 4)])])))))
def zeP:Nat->Fn
 | 0=>zbE
 | 1=>z2L
 | 2=>z5E
 | 3=>z86
 | _=>⟨fun _ _ _=>False,fun _ _ _ _ _ _ _ z=>z⟩
def z31:Fn:=Fn.mkN 2 4 (.seq (.own 2 (.op pLst []))
 (.seq (.for_ [] (.nm 3) (.v 0) (.seq (.wh (.and (.op pGt [(.op pLen [(.v 2)]),(.c (.int 1))]) (.op pLe [(.callv zeP 1 [(.op pIx [(.v 2),(.op pNeg [(.c (.int 2))])]),(.op pIx [(.v 2),(.op pNeg [(.c (.int 1))])]),(.v 3)]),(.c (.int 0))])) (.pop 2))
 (.app 2 (.v 3))))
 (.ret (.v 2))))
def z2l:Fn:=Fn.mkN 2 4 (.seq (.ifs (.op pLt [(.op pLen [(.v 0)]),(.c (.int 2))]) (.ret (.op z5p [(.v 0)])) .skip)
 (.seq (.set 2 (.op z31 [(.v 0),(.v 1)]))
 (.seq (.set 3 (.op z31 [(.op z21 [(.v 0)]),(.v 1)]))
 (.ret (.op z5p [(.op pAdd [(.sl (.v 2) none (some (.op pNeg [(.c (.int 1))]))),(.sl (.v 3) none (some (.op pNeg [(.c (.int 1))])))])])))))
end Pu
namespace Geo
def Hd (l h:List P):Prop:=∃ rl:List P,rl.Pairwise Lx/\(∀ p,p∈rl↔p∈l)/\h=hull rl
def Hd.is {l h:List P}(x:Hd l h)(hn:l≠[]):z1S (· ∈ l) h:=by
 obtain⟨rl,h1,h2,rfl⟩:=x
 have hne:rl≠[]:=fun z=>by
  cases l with
  | nil=>exact hn rfl
  | cons p l=>have:=(h2 p).mpr (by simp); rw[z] at this; cases this
 have:=zeL hne h1
 have e:(fun p=>p∈rl)=fun p=>p∈l:=funext fun p=>propext (h2 p)
 rw[e] at this
 exact this
def z8D {R:P->P->Prop}:∀ {l:List P}{i:Nat}{a b:P},Path R l->l[i]? = some a->l[i+1]? = some b->R a b
 | [],_,_,_,_,e,_=>by simp at e
 | [_],i,_,_,_,e,f=>by simp at f
 | x::y::r,0,a,b,h,e,f=>by
  simp at e f
  subst e; subst f
  exact h.1
 | x::y::r,i+1,a,b,h,e,f=>z8D (l:=y::r) (i:=i) h.2 (by simpa using e) (by simpa using f)
def z4h {R:P->P->Prop}:∀ {u v:List P},Path R (u++v)->Path R v
 | [],_,h=>h
 | [x],[],_=>trivial
 | [x],y::v,h=>h.2
 | x::y::u,v,h=>z4h (u:=y::u) h.2
def z6k {R:P->P->Prop}(det:∀ a b c,R a b->R a c->b=c){m:P}:∀ {t:List P},m ∉ t->Path R (t++[m])->t.Nodup
 | [],_,_ =>.nil
 | a::t,hm,h=>by
  rw[List.nodup_cons]
  have hm':m ∉ t:=fun z=>hm (List.mem_cons_of_mem _ z)
  refine⟨fun ha => ?_,z6k det hm' (z4h (u:=[a]) h)⟩
  obtain⟨u,v,e⟩:=List.append_of_mem ha
  have h2:Path R (a::v++[m]):=by
   have:Path R ((a::u)++(a::v++[m])):=by rw[e] at h; simpa using h
   exact z4h this
  have hv:m ∉ v:=fun z=>hm' (by rw[e]; simp[z])
  have:=z40 det hm' hv h h2
  have:=congrArg List.length this
  rw[e] at this
  simp at this
  lia
def z1S.nodup {S:P->Prop}{h:List P}(x:z1S S h):h.Nodup:=by
 obtain⟨m,t,rfl,h1,h2,h3,h4⟩:=x.ex
 rcases h4 with ⟨rfl,_⟩ | ⟨_,h4⟩
 ·simp
 ·rw[List.nodup_cons]
  exact⟨h3,z6k (fun a b c e f=>e.det f) h3 (z4h (u:=[m]) h4)⟩
def Edge.less {S T:P->Prop}{a b:P}(e:Edge S a b)(h:∀ p,T p->S p)(ha:T a)(hb:T b):Edge T a b:=⟨ha,hb,e.ne,fun p hp=>e.left p (h p hp),fun p hp=>e.btw p (h p hp)⟩
def z7K {S T:P->Prop}(h:∀ p,T p->S p):∀ {l:List P},(∀ p∈l,T p)->Path (Edge S) l->Path (Edge T) l
 | [],_,_=>trivial
 | [_],_,_=>trivial
 | a::b::r,hl,hp=>⟨hp.1.less h (hl a (by simp)) (hl b (by simp)),z7K h (l:=b::r) (fun p hp=>hl p (List.mem_cons_of_mem _ hp)) hp.2⟩
def z1S.of {S T:P->Prop}{h:List P}(x:z1S S h)(ht:∀ p,T p->S p)(hh:∀ p∈h,T p):z1S T h:=by
 obtain⟨m,t,rfl,h1,h2,h3,h4⟩:=x.ex
 refine⟨m,t,rfl,hh m (by simp),fun p hp=>h2 p (ht p hp),h3,?_⟩
 rcases h4 with ⟨rfl,h4⟩ | ⟨hne,h4⟩
 ·exact .inl ⟨rfl,fun p hp=>h4 p (ht p hp)⟩
 ·exact .inr ⟨hne,z7K ht (fun p hp=>by
   rcases List.mem_append.mp hp with z | z
   ·exact hh p z
   ·rw[List.mem_singleton.mp z]; exact hh m (by simp)) h4⟩
def zbF {S:P->Prop}{a b c:P}(e:Edge S a b)(f:Edge S b c)(h:a≠c):0 < cr a b c:=by
 have h0:=e.left c f.sb
 rcases Int.lt_or_eq_of_le h0 with z | z
 ·exact z
 exfalso
 have z1:cr a b c=0:=z.symm
 have z2:cr b c a=0:=by rw[<- z1]; unfold cr; grind
 obtain⟨p1,p2⟩:=e.btw c f.sb z1
 obtain⟨q1,q2⟩:=f.btw a e.sa z2
 have hab:=e.ne
 have hbc:=f.ne
 obtain⟨a1,a2⟩:=a
 obtain⟨b1,b2⟩:=b
 obtain⟨c1,c2⟩:=c
 simp only[cr,dot] at*
 generalize hu1:b1 - a1=u1 at*
 generalize hu2:b2 - a2=u2 at*
 generalize hv1:c1 - a1=v1 at*
 generalize hv2:c2 - a2=v2 at*
 have e1:(c1 - b1)*(a1 - b1)+(c2 - b2)*(a2 - b2)=(u1*u1+u2*u2) - (u1*v1+u2*v2):=by
  have:c1 - b1=v1 - u1:=by lia
  have:c2 - b2=v2 - u2:=by lia
  have:a1 - b1 = -u1:=by lia
  have:a2 - b2 = -u2:=by lia
  grind
 have e2:(a1 - c1)*(b1 - c1)+(a2 - c2)*(b2 - c2)=(v1*v1+v2*v2) - (u1*v1+u2*v2):=by
  have:a1 - c1 = -v1:=by lia
  have:a2 - c2 = -v2:=by lia
  have:b1 - c1=u1 - v1:=by lia
  have:b2 - c2=u2 - v2:=by lia
  grind
 rw[e1] at p2
 rw[e2] at q2
 have lag:(u1*v1+u2*v2)*(u1*v1+u2*v2)=(u1*u1+u2*u2)*(v1*v1+v2*v2):=by
  have:(u1*u1+u2*u2)*(v1*v1+v2*v2) - (u1*v1+u2*v2)*(u1*v1+u2*v2)=(u1*v2 - u2*v1)*(u1*v2 - u2*v1):=by grind
  rw[z1] at this
  lia
 have hd:0<=u1*v1+u2*v2:=by
  have:(v1*u1+v2*u2)=u1*v1+u2*v2:=by grind
  lia
 generalize hD:u1*v1+u2*v2=d at*
 generalize hU:u1*u1+u2*u2=uu at*
 generalize hV:v1*v1+v2*v2=vv at*
 have uun:0<=uu:=by have:=z0w u1; have:=z0w u2; lia
 have vvn:0<=vv:=by have:=z0w v1; have:=z0w v2; lia
 have duu:d*d<=uu*d:=Int.mul_le_mul_of_nonneg_right (by lia) hd
 have dvv:uu*d<=uu*vv:=Int.mul_le_mul_of_nonneg_left (by lia) uun
 have hz1:uu*(vv - d)=0:=by
  have:uu*(vv - d)=uu*vv - uu*d:=by grind
  omega
 rcases Int.mul_eq_zero.mp hz1 with z | z
 ·obtain⟨k1,k2⟩:=z4z (hU.trans z)
  exact hab (Prod.ext (by show a1=b1; lia) (by show a2=b2; lia))
 ·have hvd:vv=d:=by lia
  have hz2:d*(uu - d)=0:=by
   have:d*(uu - d)=uu*d - d*d:=by grind
   rw[hvd] at lag
   omega
  rcases Int.mul_eq_zero.mp hz2 with z | z
  ·have hv0:v1*v1+v2*v2=0:=by lia
   obtain⟨k1,k2⟩:=z4z hv0
   exact h (Prod.ext (by show a1=c1; lia) (by show a2=c2; lia))
  ·have hw:(u1 - v1)*(u1 - v1)+(u2 - v2)*(u2 - v2)=0:=by
    have:(u1 - v1)*(u1 - v1)+(u2 - v2)*(u2 - v2)=(u1*u1+u2*u2) - 2*(u1*v1+u2*v2)+(v1*v1+v2*v2):=by grind
    lia
   obtain⟨k1,k2⟩:=z4z hw
   exact hbc (Prod.ext (by show b1=c1; lia) (by show b2=c2; lia))
end Geo
local macro_rules | `(tactic| walk_at "bt") => `(tactic| first | assumption | (refine L2.Bt.add ?_ ?_ <;> walk_at "bt") | (refine L2.Bt.sub ?_ ?_ <;> walk_at "bt") | (refine L2.Bt.mul ?_ ?_ <;> walk_at "bt") | (refine L2.Bt.neg ?_; walk_at "bt") | exact L2.bt_k (by decide +kernel) | exact L2.bt_n (by omega) (by omega))
local macro_rules | `(tactic| walk_at "mu") => `(tactic| exact⟨L2.Bt.le (by walk_at "bt") (by decide),L2.Bt.le (by walk_at "bt") (by decide)⟩)
local macro_rules | `(tactic| walk_at "ps") => `(tactic| first | assumption | decide | omega)
local macro_rules | `(tactic| walk_at "bb") => `(tactic| first | exact L2.z7h (by decide) (by decide) | exact L2.Bt.le (by walk_at "bt") (by decide) | exact L2.z7h (by omega) (by omega))
local macro_rules | `(tactic| walk_at "sf") => `(tactic| first | exact Pu.Safe.of_noL rfl rfl _ | exact Pu.Safe.of_noL (Pu.zcK _) (Pu.zcM _) _ | (repeat (first | exact trivial | refine⟨trivial,?_⟩)) | assumption)
local macro_rules | `(tactic| walk_at "en") => `(tactic| try simp only[List.set_cons_zero,List.set_cons_succ,List.map_cons,List.map_nil,List.replicate,List.cons_append,List.nil_append,Nat.reduceSub,Pu.dem,Pu.vis,Pu.visB,Pu.demB,List.getElem?_cons_zero,List.getElem?_cons_succ,Option.getD_some,Pu.z0K,List.replicate_succ,List.replicate_zero])
local macro_rules | `(tactic| walk_at "st") => `(tactic| first
 | with_reducible refine Pu.e_c ?_
 | ((with_reducible refine Pu.e_v ?_); (refine Pu.zbg ?_))
 | with_reducible refine Pu.zis ?_
 | with_reducible refine Pu.zit ?_
 | with_reducible refine Pu.zir ?_
 | with_reducible refine Pu.ziq ?_
 | with_reducible refine Pu.zio ?_
 | with_reducible refine Pu.ze0 ?_
 | with_reducible refine Pu.zfw ?_
 | with_reducible refine Pu.zig ?_
 | with_reducible refine Pu.zi9 ?_
 | with_reducible refine Pu.zib ?_
 | ((with_reducible refine Pu.zey ?_ ?_); (focus walk_at "mu"))
 | ((with_reducible refine Pu.zgI ?_ ?_ ?_); (focus walk_at "ps"); (focus walk_at "bb"))
 | ((with_reducible refine Pu.zgr ?_ ?_); (focus walk_at "ps"))
 | ((with_reducible refine Pu.zia ?_ ?_); (focus exact⟨by decide,by decide,by decide⟩))
 | ((with_reducible refine Pu.zid ?_); (try refine Pu.zbg ?_))
 | ((with_reducible refine Pu.zie ?_); (try refine Pu.zbg ?_))
 | with_reducible refine Pu.o_lt ?_
 | with_reducible refine Pu.o_le ?_
 | with_reducible refine Pu.o_gt ?_
 | with_reducible refine Pu.o_ge ?_
 | with_reducible refine Pu.o_eq ?_
 | with_reducible refine Pu.o_ne ?_
 | with_reducible refine Pu.o_is ?_
 | with_reducible refine Pu.zez ?_
 | with_reducible refine Pu.zgz ?_
 | with_reducible refine Pu.zgy ?_
 | ((with_reducible refine Pu.zi8 ?_ ?_); (focus (simp only[List.length_cons,List.length_nil]; decide)))
 | ((with_reducible refine Pu.zic ?_ ?_); (focus (simp only[List.length_cons,List.length_nil]; decide)))
 | with_reducible refine Pu.zgp ?_
 | with_reducible refine Pu.zgo ?_
 | with_reducible refine Pu.zgx ?_
 | with_reducible refine Pu.zgw ?_
 | with_reducible refine Pu.zih ?_
 | with_reducible refine Pu.zgG ?_
 | with_reducible refine Pu.zgH ?_
 | with_reducible refine Pu.zgE ?_
 | with_reducible refine Pu.zgF ?_
 | with_reducible refine Pu.zgA ?_
 | with_reducible refine Pu.zgD ?_
 | with_reducible refine Pu.zgB ?_
 | with_reducible refine Pu.zgC ?_
 | with_reducible refine Pu.zgv ?_
 | with_reducible refine Pu.zgs ?_
 | with_reducible refine Pu.ziw ?_
 | with_reducible refine Pu.e_or ?_
 | with_reducible refine Pu.ziu ?_
 | with_reducible refine Pu.n_bl ?_
 | with_reducible refine Pu.ziv ?_
 | with_reducible refine Pu.zh7 ?_
 | with_reducible refine Pu.zil ?_
 | with_reducible refine Pu.zik ?_
 | with_reducible refine Pu.e_sl ?_
 | with_reducible refine Pu.zin ?_
 | with_reducible refine Pu.zg8 ?_
 | with_reducible refine Pu.zg7 ?_
 | with_reducible refine Pu.zh1 ?_
 | with_reducible refine Pu.ziA ?_
 | with_reducible refine Pu.ziz ?_
 | with_reducible refine Pu.z49 ?_
 | with_reducible refine Pu.z6D ?_
 | with_reducible refine Pu.zfn ?_
 | with_reducible refine Pu.zfm ?_
 | with_reducible refine Pu.zfp ?_
 | with_reducible refine Pu.zfl ?_
 | with_reducible refine Pu.s_if ?_
 | with_reducible refine Pu.zhy ?_
 | with_reducible refine Pu.zfo ?_
 | with_reducible refine Pu.zfj ?_
 | with_reducible refine Pu.s_ex ?_
 | with_reducible refine Pu.zdW ?_
 | with_reducible refine Pu.zfs ?_
 | ((with_reducible refine Pu.zhA ?_); (walk_at "en"))
 | with_reducible refine Pu.zdY ?_
 | with_reducible refine Pu.zdX ?_
 | ((with_reducible refine Pu.zaE ?_ ?_); (focus walk_at "sf"); (walk_at "en"))
 | ((with_reducible refine Pu.ziy ?_); (walk_at "en"))
 | ((with_reducible refine Pu.zhg ?_); (walk_at "en")))
local macro_rules | `(tactic| walk_at "go") => `(tactic| repeat walk_at "st")
local macro_rules | `(tactic| walk_at "fn") => `(tactic| ((refine Pu.zhB rfl ?_); (walk_at "en")))
local macro_rules | `(tactic| walk_at "fe") => `(tactic| ((refine Pu.zhC rfl ?_); (walk_at "en")))
local macro_rules | `(tactic| ac_nf) => `(tactic| walk_at "go")
local macro_rules | `(tactic| ac_rfl) => `(tactic| walk_at "en")
namespace Pu
open PySem L2
def szl {n:Nat}(h:n<=1000000):n<=sizeLine:=Nat.le_trans h (by decide)
def szl' {n:Nat}(h:n<=1000000):n < sizeLine:=Nat.lt_of_le_of_lt h (by decide)
abbrev Vb (n:Nat)(p:Int × Int):Prop:=Bt n p.1/\Bt n p.2
def zeR {T:Nat->Fn}{i n:Nat}{es:List Ex}{ρ:Pu.Env}{Q:DK}{X:XP}(h:ρ.get i=some (.fn n))(q:runs es ρ (fun ds=>(T n).run ds Q X) X):(Ex.callv T i es).run ρ Q X:=⟨n,h,q⟩
def zbh {l:List D}{Q:DK}{X:XP}(q:Q (.lst l.reverse)):z21.run [.lst l] Q X:=q
def zhm {α:Type}{b:α}{r:List α}:atI (b::r).reverse (-1)=some b:=by
 unfold atI ixN
 rw[if_neg (by decide),List.length_reverse,List.length_cons,if_pos (by lia)]
 show (b::r).reverse[((-1:Int)+((r.length+1:Nat):Int)).toNat]? = some b
 rw[show ((-1:Int)+((r.length+1:Nat):Int)).toNat=r.length by lia]
 simp
def zeU {α:Type}{a b:α}{r:List α}:atI (b::a::r).reverse (-2)=some a:=by
 unfold atI ixN
 rw[if_neg (by decide),List.length_reverse,List.length_cons,List.length_cons,if_pos (by lia)]
 show (b::a::r).reverse[((-2:Int)+((r.length+1+1:Nat):Int)).toNat]? = some a
 rw[show ((-2:Int)+((r.length+1+1:Nat):Int)).toNat=r.length by lia]
 simp
def z9M {α:Type}(l:List α):(l.drop (HT.sIx l.length 0 none)).take (HT.sIx l.length l.length (some (-1)) - HT.sIx l.length 0 none)=l.dropLast:=by
 rw[List.dropLast_eq_take]
 show (l.drop 0).take ((if (-1:Int) < 0 then ((-1:Int)+(l.length:Int)).toNat else min (-1:Int).toNat l.length) - 0)=_
 rw[if_pos (by decide),List.drop_zero]
 congr 1
 lia
def zgQ {a b:Int × Int}:HT.z0r [a.1,a.2] [b.1,b.2]=true↔Geo.Lx a b:=by
 rw[HT.z1o,HT.z1o]
 unfold Geo.Lx
 split
 ·rename_i h
  split
  ·rename_i h'
   rw[HT.z2k]
   constructor
   ·intro z; cases z
   ·rintro(z | z) <;> lia
  ·simp; lia
 ·simp; lia
end Pu
namespace Geo
def z1S.cyc {S:P->Prop}{h:List P}(x:z1S S h)(hl:2<=h.length){j:Nat}(hj:j < h.length){a b:P}(ea:h[(j+h.length - 1) % h.length]? = some a)(eb:h[j]? = some b):Edge S a b:=by
 obtain⟨m,t,rfl,h1,h2,h3,h4⟩:=x.ex
 rcases h4 with ⟨rfl,_⟩ | ⟨_,h4⟩
 ·simp at hl
 cases j with
 | zero=>
  rw[show (0+(m::t).length - 1) % (m::t).length=(m::t).length - 1 by rw[Nat.zero_add]; exact Nat.mod_eq_of_lt (by lia)] at ea
  simp at eb
  subst eb
  refine z8D (i:=(m::t).length - 1) h4 ?_ ?_
  ·rw[List.getElem?_append_left (by lia)]; exact ea
  ·rw[show (m::t).length - 1+1=(m::t).length by lia,List.getElem?_append_right (Nat.le_refl _)]; simp
 | succ j=>
  rw[show (j+1+(m::t).length - 1) % (m::t).length=j by rw[show j+1+(m::t).length - 1=j+(m::t).length by lia,Nat.add_mod_right]; exact Nat.mod_eq_of_lt (by lia)] at ea
  refine z8D (i:=j) h4 ?_ ?_
  ·rw[List.getElem?_append_left (by lia)]; exact ea
  ·rw[List.getElem?_append_left hj]; exact eb
def In (h:List P)(p:P):Prop:=match h with
 | []=>False
 | [m]=>p=m
 | [a,b]=>cr a b p=0/\0<=dot a b p/\0<=dot b a p
 | h=>∀ j a b,j < h.length->h[(j+h.length - 1) % h.length]? = some a->h[j]? = some b->0<=cr a b p
def In.three {h:List P}{p:P}(hl:3<=h.length):In h p↔∀ j a b,j < h.length->h[(j+h.length - 1) % h.length]? = some a->h[j]? = some b->0<=cr a b p:=by
 match h,hl with
 | a::b::c::r,_=>exact Iff.rfl
def z1S.in {S:P->Prop}{h:List P}(x:z1S S h){p:P}(hp:S p):In h p:=by
 match h,x with
 | [],x=>obtain⟨m,t,e,_⟩:=x.ex; cases e
 | [m],x=>
  obtain⟨m',t,e,h1,h2,h3,h4⟩:=x.ex
  cases e
  rcases h4 with ⟨_,h4⟩ | ⟨h4,_⟩
  ·exact h4 p hp
  ·exact absurd rfl h4
 | [a,b],x=>
  have e1:Edge S a b:=x.cyc (j:=1) (by simp) (by simp) (by simp) rfl
  have e2:Edge S b a:=x.cyc (j:=0) (by simp) (by simp) (by simp) rfl
  have z0:cr b a p = -cr a b p:=by unfold cr; grind
  have z:cr a b p=0:=by have:=e1.left p hp; have:=e2.left p hp; lia
  exact⟨z,e1.btw p hp z⟩
 | a::b::c::r,x=>exact fun j y z hj ey ez=>(x.cyc (by simp) hj ey ez).left p hp
def cy (h:List P)(i:Nat):P:=h.getD (i % h.length) (0,0)
def z8b {h:List P}{i:Nat}(hl:0 < h.length):h[i % h.length]? = some (cy h i):=by
 unfold cy
 have:=Nat.mod_lt i hl
 rw[List.getD_eq_getElem?_getD,List.getElem?_eq_getElem this]
 rfl
def zct {i n:Nat}(hn:0 < n):((i+1) % n+n - 1) % n=i % n:=by
 have hr:=Nat.mod_lt i hn
 have e:(i+1) % n=(i % n+1) % n:=by simp
 rw[e]
 rcases Nat.lt_or_ge (i % n+1) n with z | z
 ·rw[Nat.mod_eq_of_lt z,show i % n+1+n - 1=i % n+n by lia,Nat.add_mod_right,Nat.mod_eq_of_lt hr]
 ·have:i % n+1=n:=by lia
  rw[this,Nat.mod_self,Nat.zero_add,Nat.mod_eq_of_lt (by lia)]
  lia
def zbJ {S:P->Prop}{h:List P}(x:z1S S h)(hl:2<=h.length)(i:Nat):Edge S (cy h i) (cy h (i+1)):=
 x.cyc hl (j:=(i+1) % h.length) (Nat.mod_lt _ (by lia)) (by rw[zct (by lia)]; exact z8b (by lia)) (z8b (by lia))
def zhb {S:P->Prop}{h:List P}(x:z1S S h)(hl:3<=h.length)(i:Nat):cy h i≠cy h (i+2):=fun z=>by
 have nd:=x.nodup
 have h1:=z8b (h:=h) (i:=i) (by lia)
 have h2:=z8b (h:=h) (i:=i+2) (by lia)
 rw[<- z] at h2
 obtain⟨g1,q1⟩:=List.getElem?_eq_some_iff.mp h1
 obtain⟨g2,q2⟩:=List.getElem?_eq_some_iff.mp h2
 have e:i % h.length=(i+2) % h.length:=by
  rcases Nat.lt_trichotomy (i % h.length) ((i+2) % h.length) with y | y | y
  ·exact(List.pairwise_iff_getElem.mp nd _ _ g1 g2 y (q1.trans q2.symm)).elim
  ·exact y
  ·exact(List.pairwise_iff_getElem.mp nd _ _ g2 g1 y (q2.trans q1.symm)).elim
 have hr:=Nat.mod_lt i (show 0 < h.length by lia)
 have e2:(i+2) % h.length=(i % h.length+2) % h.length:=by simp
 rw[e2] at e
 generalize i % h.length=r at*
 rcases Nat.lt_or_ge (r+2) h.length with y | y
 ·rw[Nat.mod_eq_of_lt y] at e; lia
 ·have e3:(r+2) % h.length=r+2 - h.length:=by
   rw[Nat.mod_eq_sub_mod y]
   exact Nat.mod_eq_of_lt (by lia)
  rw[e3] at e
  lia
abbrev T3:=Int × Int × Int
def cr3 (a b c:T3):Int:=a.1*(b.2.1*c.2.2 - c.2.1*b.2.2) - a.2.1*(b.1*c.2.2 - c.1*b.2.2)+a.2.2*(b.1*c.2.1 - b.2.1*c.1)
def up (M:Int)(t:T3):P:=(t.1*(M / t.2.2),t.2.1*(M / t.2.2))
structure Dv (M:Int)(t:T3):Prop where
 m:0 < M
 pos:0 < t.2.2
 dvd:t.2.2 ∣ M
def Dv.k {M:Int}{t:T3}(h:Dv M t):0 < M / t.2.2/\t.2.2*(M / t.2.2)=M:=by
 obtain⟨h1,h2,k,rfl⟩:=h
 rw[Int.mul_ediv_cancel_left _ (by omega)]
 refine⟨?_,rfl⟩
 exact z9a h2 (by rw[Int.mul_comm]; exact h1)
def Dv.mul {M:Int}{t:T3}(h:Dv M t){n:Int}(hn:0 < n):Dv (M*n) t:=⟨Int.mul_pos h.m hn,h.pos,Int.dvd_trans h.dvd ⟨n,rfl⟩⟩
def z7x {k l x y:Int}(hk:0 < k)(hl:0 < l)(e:x*k=l*y):(0 < x↔0 < y)/\(x=0↔y=0):=by
 refine⟨⟨fun h => ?_,fun h => ?_⟩,⟨fun h => ?_,fun h => ?_⟩⟩
 ·have:0 < l*y:=by rw[<- e]; exact Int.mul_pos h hk
  exact z9a hl (by rw[Int.mul_comm]; exact this)
 ·have:0 < x*k:=by rw[e]; exact Int.mul_pos hl h
  exact z9a hk this
 ·rw[h,Int.zero_mul] at e
  rcases Int.mul_eq_zero.mp e.symm with z | z
  ·omega
  ·exact z
 ·rw[h,Int.mul_zero] at e
  rcases Int.mul_eq_zero.mp e with z | z
  ·exact z
  ·omega
def zhd {M:Int}{a b c:T3}(ha:Dv M a)(hb:Dv M b)(hc:Dv M c):cr3 a b c*(M / a.2.2*(M / b.2.2)*(M / c.2.2))=M*cr (up M a) (up M b) (up M c):=by
 obtain⟨_,ea⟩:=ha.k
 obtain⟨_,eb⟩:=hb.k
 obtain⟨_,ec⟩:=hc.k
 unfold cr3 cr up
 generalize M / a.2.2=i at*
 generalize M / b.2.2=j at*
 generalize M / c.2.2=k at*
 grind
def zhe {M:Int}{a b c:T3}(ha:Dv M a)(hb:Dv M b)(hc:Dv M c):(0 < cr3 a b c↔0 < cr (up M a) (up M b) (up M c))/\(cr3 a b c=0↔cr (up M a) (up M b) (up M c)=0):=
 z7x (Int.mul_pos (Int.mul_pos ha.k.1 hb.k.1) hc.k.1) ha.m (zhd ha hb hc)
def zhf {M:Int}{a b c:T3}(ha:Dv M a)(hb:Dv M b)(hc:Dv M c):cr3 a b c<=0↔cr (up M a) (up M b) (up M c)<=0:=by
 have:=(zhe ha hb hc).1
 omega
def z2b (v:T3):List T3->List T3
 | b::a::r=>if cr3 a b v<=0 then z2b v (a::r) else b::a::r
 | s=>s
def z7I {M:Int}{v:T3}(hv:Dv M v):∀ {s:List T3},(∀ x∈s,Dv M x)->(z2b v s).map (up M)=pops (up M v) (s.map (up M))/\∀ x∈z2b v s,x∈s
 | [],_=>⟨rfl,fun _ h=>h⟩
 | [_],_=>⟨rfl,fun _ h=>h⟩
 | b::a::r,h=>by
  have ih:=z7I hv (s:=a::r) fun x hx=>h x (List.mem_cons_of_mem _ hx)
  have e:=zhf (h a (by simp)) (h b (by simp)) hv
  show (if cr3 a b v<=0 then z2b v (a::r) else b::a::r).map (up M)=(if cr (up M a) (up M b) (up M v)<=0 then pops (up M v) (up M a::r.map (up M)) else up M b::up M a::r.map (up M))/\∀ x∈(if cr3 a b v<=0 then z2b v (a::r) else b::a::r),x∈b::a::r
  by_cases hc:cr3 a b v<=0
  ·rw[if_pos hc,if_pos (e.mp hc)]
   exact⟨ih.1,fun x hx=>List.mem_cons_of_mem _ (ih.2 x hx)⟩
  ·rw[if_neg hc,if_neg fun z=>hc (e.mpr z)]
   exact⟨rfl,fun _ h=>h⟩
def z3Z (l:List T3):List T3:=l.foldl (fun s v=>v::z2b v s) []
def z85 {M:Int}:∀ {l s:List T3},(∀ x∈l,Dv M x)->(∀ x∈s,Dv M x)->(l.foldl (fun s v=>v::z2b v s) s).map (up M)=(l.map (up M)).foldl (fun s v=>v::pops v s) (s.map (up M))/\∀ x∈l.foldl (fun s v=>v::z2b v s) s,x∈l\/x∈s
 | [],s,_,_=>⟨rfl,fun x h =>.inr h⟩
 | v::l,s,h,hs=>by
  have hv:=h v (by simp)
  obtain⟨p1,p2⟩:=z7I hv hs
  have hs':∀ x∈v::z2b v s,Dv M x:=fun x hx=>by
   rcases List.mem_cons.mp hx with rfl | hx
   ·exact hv
   ·exact hs x (p2 x hx)
  obtain⟨q1,q2⟩:=z85 (l:=l) (s:=v::z2b v s) (fun x hx=>h x (List.mem_cons_of_mem _ hx)) hs'
  refine⟨?_,fun x hx => ?_⟩
  ·show (l.foldl (fun s v=>v::z2b v s) (v::z2b v s)).map (up M)=(l.map (up M)).foldl (fun s v=>v::pops v s) (up M v::pops (up M v) (s.map (up M)))
   rw[q1,List.map_cons,p1]
  ·rcases q2 x hx with z | z
   ·exact .inl (List.mem_cons_of_mem _ z)
   ·rcases List.mem_cons.mp z with rfl | z
    ·exact .inl (by simp)
    ·exact .inr (p2 x z)
def z6t {M:Int}{l:List T3}(h:∀ x∈l,Dv M x):(z3Z l).map (up M)=z3C (l.map (up M))/\∀ x∈z3Z l,x∈l:=by
 obtain⟨p,q⟩:=z85 (M:=M) (l:=l) (s:=[]) h (by simp)
 exact⟨p,fun x hx=>(q x hx).resolve_right (by simp)⟩
def z7Z (l:List T3):List T3:=if l.length<=1 then l else (z3Z l).reverse.dropLast++(z3Z l.reverse).reverse.dropLast
def zbv {M:Int}{l:List T3}(h:∀ x∈l,Dv M x):(z7Z l).map (up M)=hull (l.map (up M))/\∀ x∈z7Z l,x∈l:=by
 obtain⟨p,q⟩:=z6t h
 obtain⟨p',q'⟩:=z6t (M:=M) (l:=l.reverse) fun x hx=>h x (by simpa using hx)
 unfold z7Z hull
 rw[List.length_map]
 by_cases hl:l.length<=1
 ·rw[if_pos hl,if_pos hl]
  exact⟨rfl,fun _ h=>h⟩
 ·rw[if_neg hl,if_neg hl]
  refine⟨?_,fun x hx => ?_⟩
  ·rw[<- List.map_reverse] at*
   rw[<- p, <- p',List.map_append,List.map_dropLast,List.map_dropLast,List.map_reverse,List.map_reverse]
  ·rcases List.mem_append.mp hx with hx | hx
   ·exact q x (by simpa using (List.dropLast_sublist _).subset hx)
   ·simpa using q' x (by simpa using (List.dropLast_sublist _).subset hx)
def Lx3 (a b:T3):Prop:=a.1*b.2.2 < b.1*a.2.2\/(a.1*b.2.2=b.1*a.2.2/\a.2.1*b.2.2 < b.2.1*a.2.2)
def tops {M x y a b:Int}(ha:0 < a)(hb:0 < b)(da:a ∣ M)(db:b ∣ M)(hm:0 < M):(x*b < y*a↔x*(M / a) < y*(M / b))/\(x*b=y*a↔x*(M / a)=y*(M / b)):=by
 obtain⟨k1,e1⟩:=Dv.k (t:=(0,0,a)) ⟨hm,ha,da⟩
 obtain⟨k2,e2⟩:=Dv.k (t:=(0,0,b)) ⟨hm,hb,db⟩
 dsimp only at k1 e1 k2 e2
 generalize M / a=i at*
 generalize M / b=j at*
 have e:(y*a - x*b)*(i*j)=M*(y*j - x*i):=by grind
 have:=z7x (Int.mul_pos k1 k2) hm e
 omega
def zdA {M:Int}{a b:T3}(ha:Dv M a)(hb:Dv M b):Lx3 a b↔Lx (up M a) (up M b):=by
 have h1:=tops (x:=a.1) (y:=b.1) ha.pos hb.pos ha.dvd hb.dvd hb.m
 have h2:=tops (x:=a.2.1) (y:=b.2.1) ha.pos hb.pos ha.dvd hb.dvd hb.m
 unfold Lx3 Lx up
 dsimp only
 rw[h1.1,h1.2,h2.1]
def Lo (t:T3):Prop:=0 < t.2.2/\Int.gcd (Int.gcd t.1 t.2.1) t.2.2=1
def Lo.eq {a b:T3}(ha:Lo a)(hb:Lo b)(e1:a.1*b.2.2=b.1*a.2.2)(e2:a.2.1*b.2.2=b.2.1*a.2.2):a=b:=by
 obtain⟨x,y,w⟩:=a
 obtain⟨u,v,t⟩:=b
 obtain⟨p1,g1⟩:=ha
 obtain⟨p2,g2⟩:=hb
 dsimp only at*
 have dv:∀ {x y w u v t:Int},Int.gcd (Int.gcd x y) w=1->x*t=u*w->y*t=v*w->w ∣ t:=by
  intro x y w u v t g a1 a2
  have d1:w ∣ x*t:=⟨u,by rw[a1,Int.mul_comm]⟩
  have d2:w ∣ y*t:=⟨v,by rw[a2,Int.mul_comm]⟩
  rw[<- Int.natAbs_dvd_natAbs] at d1 d2 ⊢
  rw[Int.natAbs_mul] at d1 d2
  have d3:w.natAbs ∣ Nat.gcd (x.natAbs*t.natAbs) (y.natAbs*t.natAbs):=Nat.dvd_gcd d1 d2
  rw[Nat.gcd_mul_right] at d3
  have g':Nat.gcd w.natAbs (Nat.gcd x.natAbs y.natAbs)=1:=by rw[Nat.gcd_comm]; exact g
  exact Nat.Coprime.dvd_of_dvd_mul_left g' d3
 have w1:=dv g1 e1 e2
 have w2:=dv g2 e1.symm e2.symm
 have hw:w=t:=Int.dvd_antisymm (by omega) (by omega) w1 w2
 subst hw
 have hx:=Int.eq_of_mul_eq_mul_right (by omega) e1
 have hy:=Int.eq_of_mul_eq_mul_right (by omega) e2
 rw[hx,hy]
def Lo.inj {M:Int}{a b:T3}(ha:Lo a)(hb:Lo b)(da:Dv M a)(db:Dv M b)(e:up M a=up M b):a=b:=by
 have h1:=tops (x:=a.1) (y:=b.1) da.pos db.pos da.dvd db.dvd db.m
 have h2:=tops (x:=a.2.1) (y:=b.2.1) da.pos db.pos da.dvd db.dvd db.m
 have e1:=congrArg Prod.fst e
 have e2:=congrArg Prod.snd e
 exact Lo.eq ha hb (h1.2.mpr e1) (h2.2.mpr e2)
def z9I {g x y a b:Int}(ha:0 < a)(hb:0 < b)(hag:a<=g)(hbg:b<=g):(x*(g*g) / a < y*(g*g) / b↔x*b < y*a)/\(x*b=y*a->x*(g*g) / a=y*(g*g) / b):=by
 have ab:a*b<=g*g:=Int.mul_le_mul hag hbg (by omega) (by omega)
 have lt:∀ {x y a b:Int},0 < a->0 < b->a*b<=g*g->x*b < y*a->x*(g*g) / a < y*(g*g) / b:=by
  intro x y a b ha hb ab h
  have h1:x*(g*g) / a*a<=x*(g*g):=Int.ediv_mul_le _ (by omega)
  refine Int.lt_of_lt_of_le (Int.lt_succ _) ((Int.le_ediv_iff_mul_le hb).mpr ?_)
  have h2:(x*(g*g) / a+1)*b*a<=y*(g*g)*a:=by
   have e1:(x*(g*g) / a+1)*b*a=x*(g*g) / a*a*b+a*b:=by grind
   have e2:x*(g*g) / a*a*b<=x*(g*g)*b:=Int.mul_le_mul_of_nonneg_right h1 (by omega)
   have e3:(x*b+1)*(g*g)<=y*a*(g*g):=Int.mul_le_mul_of_nonneg_right h (z0w g)
   have e4:(x*b+1)*(g*g)=x*(g*g)*b+g*g:=by grind
   have e5:y*a*(g*g)=y*(g*g)*a:=by grind
   omega
  exact Int.le_of_mul_le_mul_right h2 ha
 have eq:x*b=y*a->x*(g*g) / a=y*(g*g) / b:=fun e=>by
  rw[<- Int.mul_ediv_mul_of_pos_left (x*(g*g)) a hb, <- Int.mul_ediv_mul_of_pos_left (y*(g*g)) b ha,Int.mul_comm b a,show x*(g*g)*b=x*b*(g*g) by grind,e,show y*a*(g*g)=y*(g*g)*a by grind]
 refine⟨⟨fun h => ?_,lt ha hb ab⟩,eq⟩
 rcases Int.lt_trichotomy (x*b) (y*a) with z | z | z
 ·exact z
 ·rw[eq z] at h; omega
 ·have:=lt hb ha (by rw[Int.mul_comm]; exact ab) z
  omega
def Ar (l h:List T3):Prop:=∃ rl:List T3,rl.Pairwise Lx3/\(∀ p,p∈rl↔p∈l)/\h=z7Z rl
def z9K:∀ {l:List T3},(∀ t∈l,0 < t.2.2)->∃ M,0 < M/\∀ t∈l,Dv M t
 | [],_=>⟨1,by decide,by simp⟩
 | t::l,h=>by
  obtain⟨M,hm,hM⟩:=z9K (l:=l) fun t ht=>h t (List.mem_cons_of_mem _ ht)
  have ht:=h t (by simp)
  refine⟨M*t.2.2,Int.mul_pos hm ht,fun u hu => ?_⟩
  rcases List.mem_cons.mp hu with rfl | hu
  ·exact⟨Int.mul_pos hm ht,ht,⟨M,Int.mul_comm ..⟩⟩
  ·exact(hM u hu).mul ht
def Ar.sub {l h:List T3}(x:Ar l h):∀ p∈h,p∈l:=by
 obtain⟨rl,h1,h2,rfl⟩:=x
 intro p hp
 refine(h2 p).mp ?_
 unfold z7Z at hp
 have c0:∀ (v:T3) (s:List T3),∀ x∈z2b v s,x∈s:=by
  intro v s
  induction s with
  | nil=>exact fun _ h=>h
  | cons b s ih=>
   cases s with
   | nil=>exact fun _ h=>h
   | cons a r=>
    intro x hx
    rw[z2b] at hx
    split at hx
    ·exact List.mem_cons_of_mem _ (ih x hx)
    ·exact hx
 have c1:∀ (l s:List T3),∀ x∈l.foldl (fun s v=>v::z2b v s) s,x∈l\/x∈s:=by
  intro l
  induction l with
  | nil=>exact fun _ _ h =>.inr h
  | cons v l ih=>
   intro s x hx
   rcases ih _ x hx with z | z
   ·exact .inl (List.mem_cons_of_mem _ z)
   ·rcases List.mem_cons.mp z with rfl | z
    ·exact .inl (by simp)
    ·exact .inr (c0 v s x z)
 split at hp
 ·exact hp
 ·rcases List.mem_append.mp hp with z | z
  ·exact(c1 rl [] p (by simpa[z3Z] using (List.dropLast_sublist _).subset z)).resolve_right (by simp)
  ·exact List.mem_reverse.mp ((c1 rl.reverse [] p (List.mem_reverse.mp ((List.dropLast_sublist _).subset z))).resolve_right (by simp))
def Ar.hd {M:Int}{l h:List T3}(x:Ar l h)(hd:∀ p∈l,Dv M p):Hd (l.map (up M)) (h.map (up M)):=by
 obtain⟨rl,h1,h2,rfl⟩:=x
 have hd':∀ p∈rl,Dv M p:=fun p hp=>hd p ((h2 p).mp hp)
 refine⟨rl.map (up M),?_,fun p => ?_,(zbv hd').1⟩
 ·rw[List.pairwise_map]
  exact h1.imp_of_mem fun {a b} ha hb h=>(zdA (hd' a ha) (hd' b hb)).mp h
 ·rw[List.mem_map,List.mem_map]
  exact⟨fun⟨q,hq,e⟩=>⟨q,(h2 q).mp hq,e⟩,fun⟨q,hq,e⟩=>⟨q,(h2 q).mpr hq,e⟩⟩
def Ar.is {M:Int}{l h:List T3}(x:Ar l h)(hd:∀ p∈l,Dv M p)(hn:l≠[]):z1S (· ∈ l.map (up M)) (h.map (up M)):=(x.hd hd).is (by simpa using hn)
def Ar.nil {h:List T3}(x:Ar [] h):h=[]:=by
 cases h with
 | nil=>rfl
 | cons a r=>exact absurd (x.sub a (by simp)) (by simp)
def zdz {α β:Type}{f:α->β}:∀ {l l':List α},(∀ a∈l,∀ b∈l',f a=f b->a=b)->l.map f=l'.map f->l=l'
 | [],[],_,_=>rfl
 | [],_::_,_,h=>by simp at h
 | _::_,[],_,h=>by simp at h
 | a::l,b::l',hi,h=>by
  rw[List.map_cons,List.map_cons] at h
  injection h with h1 h2
  rw[hi a (by simp) b (by simp) h1,zdz (fun a ha b hb=>hi a (List.mem_cons_of_mem _ ha) b (List.mem_cons_of_mem _ hb)) h2]
def Ar.eq {l l' h h':List T3}(x:Ar l h)(x':Ar l' h')(lo:∀ p∈l,Lo p)(e:∀ p,p∈l↔p∈l'):h=h':=by
 by_cases hn:l=[]
 ·subst hn
  have:l'=[]:=List.eq_nil_iff_forall_not_mem.mpr fun p hp=>by simpa using (e p).mpr hp
  subst this
  rw[x.nil,x'.nil]
 ·obtain⟨M,_,hM⟩:=z9K fun t ht=>(lo t ht).1
  have hn':l'≠[]:=fun z=>hn (List.eq_nil_iff_forall_not_mem.mpr fun p hp=>by simpa[z] using (e p).mp hp)
  have i1:=x.is hM hn
  have i2:=x'.is (fun p hp=>hM p ((e p).mpr hp)) hn'
  have s':=x'.sub
  have i3:z1S (· ∈ l.map (up M)) (h'.map (up M)):=i2.of (fun p hp=>by
   obtain⟨q,hq,rfl⟩:=List.mem_map.mp hp
   exact List.mem_map.mpr ⟨q,(e q).mp hq,rfl⟩) fun p hp=>by
   obtain⟨q,hq,rfl⟩:=List.mem_map.mp hp
   exact List.mem_map.mpr ⟨q,(e q).mpr (s' q hq),rfl⟩
  refine zdz (fun a ha b hb => ?_) (i1.unique i3)
  have ma:=x.sub a ha
  have mb:=(e b).mpr (s' b hb)
  exact Lo.inj (lo a ma) (lo b mb) (hM a ma) (hM b mb)
def st3 (a b:T3):P:=(b.1*a.2.2 - a.1*b.2.2,b.2.1*a.2.2 - a.2.1*b.2.2)
def z7u {M:Int}{a b p:T3}(ha:Dv M a)(hb:Dv M b)(hp:Dv M p):
  (0<=(st3 a b).1*(st3 a p).2 - (st3 a b).2*(st3 a p).1↔0<=cr (up M a) (up M b) (up M p))/\(0 < (st3 a b).1*(st3 a p).2 - (st3 a b).2*(st3 a p).1↔0 < cr (up M a) (up M b) (up M p))/\
  (0<=(st3 a b).1*(st3 a p).1+(st3 a b).2*(st3 a p).2↔0<=dot (up M a) (up M b) (up M p)):=by
 obtain⟨k1,ea⟩:=ha.k
 obtain⟨k2,eb⟩:=hb.k
 obtain⟨k3,ep⟩:=hp.k
 have hm:=ha.m
 have kk:=Int.mul_pos (Int.mul_pos k1 k2) (Int.mul_pos k1 k3)
 have mm:=Int.mul_pos hm hm
 unfold st3 cr dot up
 dsimp only
 generalize M / a.2.2=i at*
 generalize M / b.2.2=j at*
 generalize M / p.2.2=k at*
 have f1:(b.1*a.2.2 - a.1*b.2.2)*(i*j)=M*(b.1*j - a.1*i):=by grind
 have f2:(b.2.1*a.2.2 - a.2.1*b.2.2)*(i*j)=M*(b.2.1*j - a.2.1*i):=by grind
 have f3:(p.1*a.2.2 - a.1*p.2.2)*(i*k)=M*(p.1*k - a.1*i):=by grind
 have f4:(p.2.1*a.2.2 - a.2.1*p.2.2)*(i*k)=M*(p.2.1*k - a.2.1*i):=by grind
 generalize b.1*a.2.2 - a.1*b.2.2=u1 at*
 generalize b.2.1*a.2.2 - a.2.1*b.2.2=u2 at*
 generalize p.1*a.2.2 - a.1*p.2.2=v1 at*
 generalize p.2.1*a.2.2 - a.2.1*p.2.2=v2 at*
 generalize b.1*j - a.1*i=x1 at*
 generalize b.2.1*j - a.2.1*i=x2 at*
 generalize p.1*k - a.1*i=y1 at*
 generalize p.2.1*k - a.2.1*i=y2 at*
 have g:∀ u v x y:Int,u*(i*j)=M*x->v*(i*k)=M*y->u*v*(i*j*(i*k))=M*M*(x*y):=fun u v x y h1 h2=>by
  rw[show u*v*(i*j*(i*k))=u*(i*j)*(v*(i*k)) by grind,h1,h2]
  grind
 have c:=z7x (x:=u1*v2 - u2*v1) (y:=x1*y2 - x2*y1) kk mm (by rw[Int.sub_mul,g _ _ _ _ f1 f4,g _ _ _ _ f2 f3,Int.mul_sub])
 have d:=z7x (x:=u1*v1+u2*v2) (y:=y1*x1+y2*x2) kk mm (by rw[Int.add_mul,g _ _ _ _ f1 f3,g _ _ _ _ f2 f4]; grind)
 refine⟨?_,?_,?_⟩ <;> omega
end Geo
namespace Pu
open PySem L2
end Pu
namespace Pu
open PySem PySem.Spec PyProof.Rows L2
def gAll (d:D)(Q:DK):Prop:=∃ bs:List Bool,d = .lst (bs.map .bl)/\Q (.bl (bs.all id))
def pAll:Fn:=fn1 gAll fun d Q Q' m h=>by
 obtain⟨bs,e,q⟩:=h
 exact⟨bs,e,m _ q⟩
def zgJ {bs:List Bool}{Q:DK}{X:XP}(q:Q (.bl (bs.all id))):pAll.run [.lst (bs.map .bl)] Q X:=⟨bs,rfl,q⟩
section
variable {X:Cx}
def zaP {K:W.Frag}{mg:Str->Option Value}{G:Hp}:∀ (bs:List Bool) {xs:List V},RDs K mg G (bs.map .bl) xs->xs=bs.map .bl
 | [],xs,h=>by
  rw[List.map_nil,RDs] at h
  exact h
 | b::bs,xs,h=>by
  rw[List.map_cons,RDs] at h
  obtain⟨v,r,rfl,h1,h2⟩:=h
  rw[zaP bs h2,z8C h1]
  rfl
def zdI (hc:X.calm=true):z1T X (.builtin "all") (rN X.K X.mg pAll):=(zbN hc).imp fun vs H Q ⟨G,ds,Q0,X0,g,rds,hr,hk⟩=>by
 obtain⟨d,rfl,hr'⟩:=z3I hr
 obtain⟨v,rfl,rd⟩:=rds1 rds
 obtain⟨bs,rfl,q⟩:=hr'
 obtain⟨a,xs,rfl,h1,h2⟩:=z2h rd
 rw[zaP bs h2] at h1
 exact⟨a,bs,rfl,z1G g h1,hk.now g q RD.bl'⟩
end
end Pu
namespace Pu
open PySem PySem.Spec PyProof.Rows L2 Tab
def zbU (kz:List (List Int))(l out:List D):Prop:=∃ ps:List (List Int × D),ps.Perm (kz.zip l)/\out=ps.map Prod.snd/\ps.Pairwise (fun p q=>HT.z0r q.1 p.1=false)
def zgP:D->Option (List D)
 | .lst l=>some l
 | _=>none
def Ex.sortk (nt:Nat)(js:List Nat)(t:Tg)(src elt:Ex):Ex:=
 ⟨fun ρ Q X=>src.run ρ (fun d=>onL (zgP d) fun l=>l.length < sizeLine/\z3B (z3l t none elt (z0K nt js ρ)) l fun r=>∃ kz:List (List Int),r=kz.map tupD/\(∀ k∈kz,k≠[])/\∀ out,zbU kz l out->Q (.lst out)) X,fun ρ Q Q' X X' m mx q=>
  src.mono ρ _ _ X X' (fun d q1=>z6O (fun l q2=>⟨q2.1,z2o z33 l _ _ (fun r ⟨kz,e,h1,h2⟩=>⟨kz,e,h1,fun out ho=>m _ (h2 out ho)⟩) q2.2⟩) q1) mx q⟩
def zcA:Fn:=⟨fun ds Q _=>∃ (ns:List Int) (d:Int),ds=[.lst (ns.map .int),.int d]/\(ns=[]->Q (.int d))/\(ns≠[]->∀ k∈ns,(∀ x∈ns,x<=k)->Q (.int k)),fun ds Q Q' X X' m _ ⟨ns,d,e,h1,h2⟩=>⟨ns,d,e,fun z=>m _ (h1 z),fun z k hk hx=>m _ (h2 z k hk hx)⟩⟩
def zgu {ns:List Int}{d:Int}{Q:DK}{X:XP}(h1:ns=[]->Q (.int d))(h2:ns≠[]->∀ k∈ns,(∀ x∈ns,x<=k)->Q (.int k)):zcA.run [.lst (ns.map .int),.int d] Q X:=⟨ns,d,rfl,h1,h2⟩
def zgt {ns:List Int}{d:Int}{Q:DK}{X:XP}(h:∀ g,(∀ x∈ns,x<=g)->(g∈ns\/(ns=[]/\g=d))->Q (.int g)):zcA.run [.lst (ns.map .int),.int d] Q X:=
 zgu (fun z=>h d (by rw[z]; simp) (.inr ⟨z,rfl⟩)) fun _ k hk hx=>h k hx (.inl hk)
def zeQ {nt:Nat}{js:List Nat}{t:Tg}{src elt:Ex}{ρ:Pu.Env}{Q:DK}{X:XP}(h:src.run ρ (fun d=>onL (zgP d) fun l=>l.length < sizeLine/\z3B (z3l t none elt (z0K nt js ρ)) l fun r=>∃ kz:List (List Int),r=kz.map tupD/\(∀ k∈kz,k≠[])/\∀ out,zbU kz l out->Q (.lst out)) X):(Ex.sortk nt js t src elt).run ρ Q X:=h
end Pu
namespace Pu
open PySem PySem.Spec PyProof.Rows L2
end Pu
namespace Pu
open PySem L2
def z15:Fn:=Fn.mkN 2 2 (.seq (.ifs (.op pLt [(.v 1),(.op pLen [(.v 0)])]) (.ret (.op pIx [(.v 0),(.v 1)])) .skip)
 (.ret (.c (.int 0))))
def z1z:Fn:=Fn.mkN 1 3 (.seq (.set 1 (.c (.int 1)))
 (.seq (.forr [(.v 0)] (.nm 2) (.set 1 (.op z0y [(.v 1),(.c (.int 10))])))
 (.ret (.v 1))))
def z0Z:Fn:=Fn.mkN 2 3 (.seq (.set 2 (.op pMod [(.v 0),(.op pAdd [(.op z0y [(.c (.int 2)),(.v 1)]),(.c (.int 1))])]))
 (.ret (.op z0y [(.op z30 [(.op pAdd [(.v 2),(.c (.int 1))]),(.c (.int 2))]),(.op pSub [(.c (.int 1)),(.op z0y [(.c (.int 2)),(.op pMod [(.v 2),(.c (.int 2))])])])])))
def z0G:Fn:=Fn.mkN 2 3 (.seq (.set 0 (.op pAbs [(.v 0)]))
 (.seq (.set 1 (.op pAbs [(.v 1)]))
 (.seq (.wh (.op pGt [(.v 1),(.c (.int 0))]) (.seq (.set 2 (.op pMod [(.v 0),(.v 1)]))
 (.seq (.set 0 (.v 1))
 (.set 1 (.v 2)))))
 (.ret (.v 0)))))
def z08:Fn:=Fn.mkN 3 4 (.seq (.set 3 (.op z0G [(.op z0G [(.v 0),(.v 1)]),(.v 2)]))
 (.ret (.op pTup [(.op z30 [(.v 0),(.v 3)]),(.op z30 [(.v 1),(.v 3)]),(.op z30 [(.v 2),(.v 3)])])))
def z0H:Fn:=Fn.mkN 2 6 (.seq (.set 2 (.op z1z [(.op pAdd [(.c (.int 1)),(.op pMod [(.v 0),(.v 1)])])]))
 (.seq (.set 3 (.op z30 [(.v 0),(.v 1)]))
 (.seq (.set 4 (.op z0Z [(.v 3),(.v 2)]))
 (.seq (.set 3 (.op z30 [(.v 3),(.op pAdd [(.op z0y [(.c (.int 2)),(.v 2)]),(.c (.int 1))])]))
 (.seq (.set 5 (.op z0Z [(.v 3),(.v 2)]))
 (.ret (.op z08 [(.v 4),(.v 5),(.op pAdd [(.c (.int 1)),(.op pMod [(.op z30 [(.v 3),(.op pAdd [(.op z0y [(.c (.int 2)),(.v 2)]),(.c (.int 1))])]),(.v 2)])])])))))))
def z0Y:Fn:=Fn.mkN 2 3 (.seq (.set 2 (.op pMod [(.op pAdd [(.op pAdd [(.op z0y [(.op pMod [(.v 0),(.c (.int 2147483647))]),(.c (.int 48271))]),(.op z0y [(.c (.int 977)),(.v 1)])]),(.c (.int 11))]),(.c (.int 2147483647))]))
 (.ret (.op z30 [(.op pMod [(.op z0y [(.v 2),(.v 2)]),(.c (.int 2147483647))]),(.c (.int 7))])))
def z16:Fn:=Fn.mkN 4 6 (.seq (.set 4 (.op pAdd [(.op z0y [(.op z0y [(.op pIx [(.v 0),(.c (.int 0))]),(.op pIx [(.v 1),(.c (.int 2))])]),(.op pSub [(.v 3),(.v 2)])]),(.op z0y [(.op z0y [(.op pIx [(.v 1),(.c (.int 0))]),(.op pIx [(.v 0),(.c (.int 2))])]),(.v 2)])]))
 (.seq (.set 5 (.op pAdd [(.op z0y [(.op z0y [(.op pIx [(.v 0),(.c (.int 1))]),(.op pIx [(.v 1),(.c (.int 2))])]),(.op pSub [(.v 3),(.v 2)])]),(.op z0y [(.op z0y [(.op pIx [(.v 1),(.c (.int 1))]),(.op pIx [(.v 0),(.c (.int 2))])]),(.v 2)])]))
 (.ret (.op z08 [(.v 4),(.v 5),(.op z0y [(.op z0y [(.op pIx [(.v 0),(.c (.int 2))]),(.op pIx [(.v 1),(.c (.int 2))])]),(.v 3)])]))))
def z0U:Fn:=Fn.mkN 2 8 (.seq (.set 2 (.op z0Y [(.v 0),(.c (.int 1))]))
 (.seq (.set 3 (.op pMod [(.v 2),(.c (.int 8))]))
 (.seq (.set 2 (.op z30 [(.v 2),(.c (.int 8))]))
 (.seq (.set 4 (.op pSub [(.op pMod [(.op z30 [(.v 2),(.c (.int 5))]),(.c (.int 13))]),(.c (.int 6))]))
 (.seq (.set 5 (.op pSub [(.op pMod [(.op z30 [(.v 2),(.c (.int 65))]),(.c (.int 13))]),(.c (.int 6))]))
 (.seq (.ifs (.and (.op pEq [(.v 3),(.c (.int 1))]) (.op pGt [(.op pLen [(.v 1)]),(.c (.int 0))])) (.ret (.op pIx [(.v 1),(.op pMod [(.v 2),(.op pLen [(.v 1)])])])) .skip)
 (.seq (.ifs (.and (.op pEq [(.v 3),(.c (.int 2))]) (.op pGt [(.op pLen [(.v 1)]),(.c (.int 0))])) (.seq (.set 6 (.op pIx [(.v 1),(.op pMod [(.v 2),(.op pLen [(.v 1)])])]))
 (.seq (.set 7 (.op pIx [(.v 1),(.op pMod [(.op z30 [(.v 2),(.c (.int 97))]),(.op pLen [(.v 1)])])]))
 (.ifs (.op pLt [(.op z0y [(.op pIx [(.v 6),(.c (.int 2))]),(.op pIx [(.v 7),(.c (.int 2))])]),(.op pPow [(.c (.int 10)),(.c (.int 12))])]) (.ret (.op z16 [(.v 6),(.v 7),(.op pAdd [(.c (.int 1)),(.op pMod [(.v 2),(.c (.int 3))])]),(.c (.int 4))])) .skip))) .skip)
 (.seq (.ifs (.op pEq [(.v 3),(.c (.int 3))]) (.set 5 (.op pAdd [(.op z0y [(.c (.int 2)),(.v 4)]),(.c (.int 1))])) .skip)
 (.seq (.ifs (.op pEq [(.v 3),(.c (.int 4))]) (.seq (.set 5 (.op pSub [(.op z0Y [(.v 0),(.c (.int 2))]),(.op pPow [(.c (.int 10)),(.c (.int 8))])]))
 (.ret (.op z08 [(.op pSub [(.op pMod [(.v 0),(.op pAdd [(.op z0y [(.c (.int 2)),(.op pPow [(.c (.int 10)),(.c (.int 20))])]),(.c (.int 1))])]),(.op pPow [(.c (.int 10)),(.c (.int 20))])]),(.v 5),(.op pAdd [(.c (.int 1)),(.op pMod [(.v 2),(.op pPow [(.c (.int 10)),(.c (.int 5))])])])]))) .skip)
 (.ret (.op z08 [(.v 4),(.v 5),(.op pIx [(.op pLst [(.c (.int 1)),(.c (.int 1)),(.c (.int 2)),(.c (.int 3)),(.c (.int 6))]),(.op pMod [(.v 2),(.c (.int 5))])])])))))))))))
def z0P:Fn:=Fn.mkN 2 4 (.seq (.ifs (.op pGt [(.v 1),(.c (.int 0))]) (.ret (.comp 1 [1] (.nm 0) (.v 0) none (.op z0H [(.v 0),(.v 1)]))) .skip)
 (.seq (.own 2 (.op pLst []))
 (.seq (.for_ [] (.nm 3) (.v 0) (.app 2 (.op z0U [(.v 3),(.v 2)])))
 (.ret (.v 2)))))
def z1P:Fn:=Fn.mkN 1 4 (.seq (.set 1 (.op z6L [(.v 0)]))
 (.seq (.set 2 (.op zcA [(.comp 1 [] (.nm 0) (.v 1) none (.op pIx [(.v 0),(.c (.int 2))])),(.c (.int 1))]))
 (.seq (.set 3 (.op z0y [(.v 2),(.v 2)]))
 (.ret (.sortk 1 [3] (.nm 0) (.v 1) (.op pTup [(.op z30 [(.op z0y [(.op pIx [(.v 0),(.c (.int 0))]),(.v 1)]),(.op pIx [(.v 0),(.c (.int 2))])]),(.op z30 [(.op z0y [(.op pIx [(.v 0),(.c (.int 1))]),(.v 1)]),(.op pIx [(.v 0),(.c (.int 2))])])]))))))
def z10:Fn:=Fn.mkN 1 1 (.ret (.op z2l [(.op z1P [(.v 0)]),(.c (.fn 1))]))
def z0f:Fn:=Fn.mkN 2 2 (.ret (.op pTup [(.op pSub [(.op z0y [(.op pIx [(.v 1),(.c (.int 0))]),(.op pIx [(.v 0),(.c (.int 2))])]),(.op z0y [(.op pIx [(.v 0),(.c (.int 0))]),(.op pIx [(.v 1),(.c (.int 2))])])]),(.op pSub [(.op z0y [(.op pIx [(.v 1),(.c (.int 1))]),(.op pIx [(.v 0),(.c (.int 2))])]),(.op z0y [(.op pIx [(.v 0),(.c (.int 1))]),(.op pIx [(.v 1),(.c (.int 2))])])])]))
def z0L:Fn:=Fn.mkN 2 2 (.ret (.op pSub [(.op z0y [(.op pIx [(.v 0),(.c (.int 0))]),(.op pIx [(.v 1),(.c (.int 1))])]),(.op z0y [(.op pIx [(.v 0),(.c (.int 1))]),(.op pIx [(.v 1),(.c (.int 0))])])]))
def z1Q:Fn:=Fn.mkN 2 2 (.ret (.op pAdd [(.op z0y [(.op pIx [(.v 0),(.c (.int 0))]),(.op pIx [(.v 1),(.c (.int 0))])]),(.op z0y [(.op pIx [(.v 0),(.c (.int 1))]),(.op pIx [(.v 1),(.c (.int 1))])])]))
def z0B:Fn:=Fn.mkN 2 4 (.seq (.ifs (.op pLt [(.op pLen [(.v 0)]),(.c (.int 2))]) (.ret (.op pIn [(.v 1),(.v 0)])) .skip)
 (.seq (.forr [(.op pLen [(.v 0)])] (.nm 2) (.seq (.set 3 (.op z0f [(.op pIx [(.v 0),(.op pSub [(.v 2),(.c (.int 1))])]),(.op pIx [(.v 0),(.v 2)])]))
 (.seq (.ifs (.op pLt [(.op z0L [(.v 3),(.op z0f [(.op pIx [(.v 0),(.op pSub [(.v 2),(.c (.int 1))])]),(.v 1)])]),(.c (.int 0))]) (.ret (.c (.bl false))) .skip)
 (.ifs (.and (.op pEq [(.op pLen [(.v 0)]),(.c (.int 2))]) (.op pLt [(.op z1Q [(.v 3),(.op z0f [(.op pIx [(.v 0),(.op pSub [(.v 2),(.c (.int 1))])]),(.v 1)])]),(.c (.int 0))])) (.ret (.c (.bl false))) .skip))))
 (.ret (.c (.bl true)))))
def pl3 (t:Geo.T3):D :=.tup [.int t.1,.int t.2.1,.int t.2.2]
abbrev pls3 (l:List Geo.T3):D :=.tup (l.map pl3)
abbrev Tb (n:Nat)(t:Geo.T3):Prop:=Bt n t.1/\Bt n t.2.1/\Bt n t.2.2
abbrev Tz (t:Geo.T3):Prop:=Bt 100000 t.1/\Bt 100000 t.2.1/\Bt 9000 t.2.2
abbrev Tbs (n:Nat)(l:List Geo.T3):Prop:=∀ t∈l,Tb n t
def z7A {a b c:Geo.T3}{Q:DK}{X:XP}(h1:Tb 1000000 a)(h2:Tb 1000000 b)(h3:Tb 1000000 c)(q:Q (.int (Geo.cr3 a b c))):z2L.run [pl3 a,pl3 b,pl3 c] Q X:=by
 obtain⟨a1,a2,a3⟩:=h1
 obtain⟨b1,b2,b3⟩:=h2
 obtain⟨c1,c2,c3⟩:=h3
 unfold pl3
 walk_at "fn"
 ac_nf
 have u1:Bt 2000001 (b.2.1*c.2.2 - c.2.1*b.2.2):=(Bt.sub (Bt.mul b2 c3) (Bt.mul c2 b3)).le
 have u2:Bt 2000001 (b.1*c.2.2 - c.1*b.2.2):=(Bt.sub (Bt.mul b1 c3) (Bt.mul c1 b3)).le
 have u3:Bt 2000001 (b.1*c.2.1 - b.2.1*c.1):=(Bt.sub (Bt.mul b1 c2) (Bt.mul b2 c1)).le
 refine zey ⟨a1.le,u1.le⟩ ?_
 ac_nf
 exact q
def z9e {l:List Geo.T3}{Q:DK}{X:XP}(hb:Tbs 1000000 l)(hz:l.length<=100000)(q:Q (.lst ((Geo.z3Z l).reverse.map pl3))):z31.run [.lst (l.map pl3),.fn 1] Q X:=by
 walk_at "fn"
 refine zfn (zfp ?_)
 ac_nf
 refine zaD (fun x hx=>by cases hx) ?_
 ac_rfl
 ac_nf
 refine z2K (f:=pl3) (fun dn ρ=>∃ (st:List Geo.T3) (x:B),st=Geo.z3Z dn/\(∀ p∈st,p∈l)/\st.length<=dn.length/\ρ=[.s (.lst (l.map pl3)),.s (.fn 1),.o (.lst (st.reverse.map pl3)),x]) ⟨[],_,rfl,(fun p hp=>by cases hp),Nat.le_refl _,rfl⟩ ?_ ?_
 ·rintro dn v r ρ e ⟨st,x,hst,hsub,hlen,rfl⟩
  have hv:v∈l:=by rw[e]; simp
  show Sm.run _ _ _ _ _
  ac_rfl
  refine Sm.cut (fun ρ=>∃ st':List Geo.T3,st'=Geo.z2b v st/\(∀ p∈st',p∈l)/\st'.length<=dn.length/\ρ=[.s (.lst (l.map pl3)),.s (.fn 1),.o (.lst (st'.reverse.map pl3)),.s (pl3 v)]) ?_ ?_
  ·refine zdj (fun ρ=>∃ st':List Geo.T3,Geo.z2b v st'=Geo.z2b v st/\(∀ p∈st',p∈l)/\st'.length<=dn.length/\ρ=[.s (.lst (l.map pl3)),.s (.fn 1),.o (.lst (st'.reverse.map pl3)),.s (pl3 v)]) (fun ρ=>match ρ with | [_,_,.o (.lst k),_]=>k.length | _=>0) ⟨st,rfl,hsub,hlen,rfl⟩ ?_
   rintro ρ ⟨st',h1,h2,h3,rfl⟩
   ac_nf
   match st',h1,h2,h3 with
   | [],h1,h2,h3=>
    refine t_no (by simp) ?_
    refine z6D ?_
    exact⟨[],by rw[<- h1]; rfl,h2,h3,rfl⟩
   | [b],h1,h2,h3=>
    refine t_no (by simp) ?_
    refine z6D ?_
    exact⟨[b],by rw[<- h1]; rfl,h2,h3,rfl⟩
   | b::a::r,h1,h2,h3=>
    refine z6C (by simp; lia) ?_
    ac_nf
    refine zeR rfl ?_
    ac_nf
    refine z3k (z2j zeU) ?_
    ac_nf
    refine z3k (z2j zhm) ?_
    ac_nf
    have hB:∀ p,p∈l->Tb 1000000 p:=hb
    refine z7A (hB a (h2 a (by simp))) (hB b (h2 b (by simp))) (hB v hv) ?_
    ac_nf
    refine z3n (fun hc => ?_) (fun hc => ?_)
    ·refine zhz (z6M rfl ?_)
     unfold popL
     rw[List.length_map,List.length_reverse,List.getElem?_map,show (b::a::r).reverse[(b::a::r).length - 1]? = some b by simp]
     refine⟨⟨a::r,?_,fun p hp=>h2 p (List.mem_cons_of_mem _ hp),by simp at h3 ⊢; lia,?_⟩,?_⟩
     ·rw[<- h1]
      show _=Geo.z2b v (b::a::r)
      rw[Geo.z2b,if_pos hc]
     ·simp
     ·simp
    ·exact⟨b::a::r,by rw[<- h1,Geo.z2b,if_neg hc],h2,h3,rfl⟩
  ·rintro ρ ⟨st',h1,h2,h3,rfl⟩
   refine zft (l:=[]) (z6M rfl ?_)
   ac_nf
   have hdl:dn.length < l.length:=by rw[e]; simp
   refine⟨by simp; exact szl' (by lia),Safe.of_noL rfl rfl _,?_⟩
   ac_rfl
   refine⟨v::st',.s (pl3 v),?_,fun p hp => ?_,by simp; lia,by simp⟩
   ·unfold Geo.z3Z at hst ⊢
    rw[List.foldl_append, <- hst,h1]
    rfl
   ·rcases List.mem_cons.mp hp with rfl | hp
    ·exact hv
    ·exact h2 p hp
 rintro ρ ⟨st,x,hst,hsub,hlen,rfl⟩
 ac_nf
 rw[hst]
 exact q
def zc9 {l:List Geo.T3}{Q:DK}{X:XP}(hb:Tbs 1000000 l)(hz:l.length<=100000)(q:Q (pls3 (Geo.z7Z l))):z2l.run [.lst (l.map pl3),.fn 1] Q X:=by
 walk_at "fn"
 ac_nf
 rw[List.length_map]
 refine z3n (fun h => ?_) (fun h => ?_)
 ·ac_nf
  rw[Geo.z7Z,if_pos (by lia)] at q
  exact q
 ac_nf
 refine z9e hb hz ?_
 have c1:∀ (l:List Geo.T3) (s:List Geo.T3),(l.foldl (fun s v=>v::Geo.z2b v s) s).length<=l.length+s.length:=by
  have c0:∀ (v:Geo.T3) (s:List Geo.T3),(Geo.z2b v s).length<=s.length:=by
   intro v s
   induction s with
   | nil=>exact Nat.le_refl _
   | cons b s ih=>
    cases s with
    | nil=>exact Nat.le_refl _
    | cons a s=>
     rw[Geo.z2b]
     split
     ·exact Nat.le_succ_of_le ih
     ·exact Nat.le_refl _
  intro l
  induction l with
  | nil=>intro s; simp
  | cons v l ih=>
   intro s
   rw[List.foldl_cons]
   have:=ih (v::Geo.z2b v s)
   have:=c0 v s
   simp only[List.length_cons] at*
   lia
 have c2:(Geo.z3Z l).length<=l.length:=Nat.le_trans (c1 l []) (Nat.le_refl _)
 have c3:(Geo.z3Z l.reverse).length<=l.length:=Nat.le_trans (c1 l.reverse []) (by simp)
 refine zaE ?_ ?_
 ·exact⟨trivial,trivial,trivial,trivial,trivial⟩
 ac_rfl
 ac_nf
 refine zbh ?_
 ac_nf
 rw[<- List.map_reverse]
 refine z9e (fun p hp=>hb p (by simpa using hp)) (by simpa using hz) ?_
 refine zaE ⟨trivial,trivial,trivial,trivial,trivial⟩ ?_
 ac_rfl
 ac_nf
 rw[z7d,z7d,z9M,z9M]
 refine z9x (by simp; exact szl (by lia)) ?_
 ac_nf
 rw[<- List.map_append]
 rw[Geo.z7Z,if_neg (by lia)] at q
 exact q
def pk3 (t:Geo.T3):List Int:=[t.1,t.2.1,t.2.2]
def zb6 {p r:Geo.T3}(h:pk3 p=pk3 r):p=r:=by
 unfold pk3 at h
 injection h with h1 h2
 injection h2 with h2 h3
 injection h3 with h3 _
 exact Prod.ext h1 (Prod.ext h2 h3)
def zb4 (l:List Geo.T3):l.map pl3=(l.map pk3).map tupD:=by rw[List.map_map]; rfl
def Ps (d:D)(l:List Geo.T3):Prop:=d = .tup (l.map pl3)\/d = .lst (l.map pl3)
def Ps.set {d:D}{l:List Geo.T3}{P:List (List Int)->Prop}(h:Ps d l)(hz:l.length<=2040)(q:P (l.map pk3)):zaF d P:=by
 rcases h with rfl | rfl
 ·exact⟨l.map pk3,zb4 l,by simpa using hz,q⟩
 ·exact⟨l.map pk3,zb4 l,by simpa using hz,q⟩
def zce {kl:List (List Int)}{l:List Geo.T3}(h:Rows (l.map pk3) kl):∃ rl:List Geo.T3,kl=rl.map pk3/\rl.Nodup/\∀ p,p∈rl↔p∈l:=by
 have h1:∀ k∈kl,∃ p,k=pk3 p:=fun k hk=>by
  obtain⟨p,_,rfl⟩:=List.mem_map.mp ((h.mem k).mp hk)
  exact⟨p,rfl⟩
 have h2:∃ rl:List Geo.T3,kl=rl.map pk3:=by
  clear h
  induction kl with
  | nil=>exact⟨[],rfl⟩
  | cons k kl ih=>
   obtain⟨p,hp⟩:=h1 k List.mem_cons_self
   obtain⟨rl,hr⟩:=ih fun k hk=>h1 k (List.mem_cons_of_mem _ hk)
   exact⟨p::rl,by rw[hp,hr]; rfl⟩
 obtain⟨rl,rfl⟩:=h2
 refine⟨rl,rfl,?_,fun p => ?_⟩
 ·have:=h.up
  rw[List.pairwise_map] at this
  exact this.imp fun {a b} z e=>by
   rw[e,Tim.z6X] at z
   cases z
 ·have:=h.mem (pk3 p)
  constructor
  ·intro hp
   obtain⟨r,hr,er⟩:=List.mem_map.mp (this.mp (List.mem_map.mpr ⟨p,hp,rfl⟩))
   rw[<- zb6 er]; exact hr
  ·intro hp
   obtain⟨r,hr,er⟩:=List.mem_map.mp (this.mpr (List.mem_map.mpr ⟨p,hp,rfl⟩))
   rw[<- zb6 er]; exact hr
def zcv {α β:Type}{f:α->β}:∀ {l:List α}{m:List β},(l.map f).Perm m->∃ l',l.Perm l'/\m=l'.map f:=by
 intro l m h
 generalize e:l.map f=k at h
 induction h generalizing l with
 | nil=>
  cases l with
  | nil=>exact⟨[],.refl _,rfl⟩
  | cons a l=>simp at e
 | cons x _ ih=>
  cases l with
  | nil=>simp at e
  | cons a l=>
   rw[List.map_cons] at e
   injection e with e1 e2
   obtain⟨l',p,q⟩:=ih e2
   exact⟨a::l',p.cons a,by rw[List.map_cons,e1,q]⟩
 | swap x y t=>
  match l,e with
  | a::b::l,e=>
   simp only[List.map_cons,List.cons.injEq] at e
   obtain⟨e1,e2,e3⟩:=e
   exact⟨b::a::l,.swap b a l,by simp[e1,e2,e3]⟩
 | trans _ _ ih1 ih2=>
  obtain⟨l1,p1,q1⟩:=ih1 e
  obtain⟨l2,p2,q2⟩:=ih2 q1.symm
  exact⟨l2,p1.trans p2,q2⟩
def fk (g:Int)(t:Geo.T3):List Int:=[t.1*(g*g) / t.2.2,t.2.1*(g*g) / t.2.2]
def zim {g:Int}{p q:Geo.T3}(hp:Geo.Lo p)(hq:Geo.Lo q)(gp:p.2.2<=g)(gq:q.2.2<=g)(ne:p≠q)(h:HT.z0r (fk g q) (fk g p)=false):Geo.Lx3 p q:=by
 have h':¬ Geo.Lx (q.1*(g*g) / q.2.2,q.2.1*(g*g) / q.2.2) (p.1*(g*g) / p.2.2,p.2.1*(g*g) / p.2.2):=fun z=>by
  have:=zgQ.mpr z
  unfold fk at h
  rw[h] at this
  cases this
 have f1:=Geo.z9I (g:=g) (x:=q.1) (y:=p.1) hq.1 hp.1 gq gp
 have f2:=Geo.z9I (g:=g) (x:=q.2.1) (y:=p.2.1) hq.1 hp.1 gq gp
 unfold Geo.Lx at h'
 dsimp only at h'
 rw[f1.1,f2.1] at h'
 unfold Geo.Lx3
 rcases Int.lt_trichotomy (p.1*q.2.2) (q.1*p.2.2) with z | z | z
 ·exact .inl z
 ·refine .inr ⟨z,?_⟩
  rcases Int.lt_trichotomy (p.2.1*q.2.2) (q.2.1*p.2.2) with y | y | y
  ·exact y
  ·exact absurd (Geo.Lo.eq hp hq z y) ne
  ·exact absurd (.inr ⟨f1.2 z.symm,y⟩) h'
 ·exact absurd (.inl z) h'
def zca {d:D}{l:List Geo.T3}{Q:DK}{X:XP}(hd:Ps d l)(hb:∀ t∈l,Tz t)(lo:∀ t∈l,Geo.Lo t)(hz:l.length<=2040)(q:∀ rl:List Geo.T3,rl.Pairwise Geo.Lx3->(∀ p,p∈rl↔p∈l)->rl.length<=l.length->Q (.lst (rl.map pl3))):z1P.run [d] Q X:=by
 walk_at "fn"
 ac_nf
 refine hd.set hz ⟨fun k hk => ?_,fun kl h => ?_⟩
 ·obtain⟨p,_,rfl⟩:=List.mem_map.mp hk
  unfold pk3
  simp
 obtain⟨r0,rfl,nd,hm⟩:=zce h
 have hl:r0.length<=l.length:=z4j nd fun x hx=>(hm x).mp hx
 ac_nf
 rw[<- zb4]
 refine⟨by rw[List.length_map]; exact szl' (by lia),?_⟩
 refine z32 (g:=fun t =>.int t.2.2) (fun t ht K hK => ?_) ?_
 ·unfold pl3
  ac_nf
  exact hK
 have e:(r0.map fun t=>D.int t.2.2)=(r0.map (·.2.2)).map D.int:=by rw[List.map_map]; rfl
 rw[e]
 ac_nf
 refine zgt fun g hg hgm => ?_
 have gg:∀ t∈r0,t.2.2<=g:=fun t ht=>hg _ (List.mem_map.mpr ⟨t,ht,rfl⟩)
 have bg:Bt 9000 g:=by
  rcases hgm with z | ⟨_,rfl⟩
  ·obtain⟨t,ht,rfl⟩:=List.mem_map.mp z
   exact(hb t ((hm t).mp ht)).2.2
  ·exact z7h (by decide) (by decide)
 refine⟨Safe.of_noL rfl rfl _,?_⟩
 ac_rfl
 ac_nf
 refine zeQ ?_
 ac_nf
 refine⟨by rw[List.length_map]; exact szl' (by lia),?_⟩
 have bgg:Bt 18000 (g*g):=(Bt.mul bg bg).le
 refine z32 (g:=fun t=>tupD (fk g t)) (fun t ht K hK => ?_) ?_
 ·have tl:=(lo t ((hm t).mp ht)).1
  obtain⟨b1,b2,b3⟩:=hb t ((hm t).mp ht)
  unfold pl3
  ac_nf
  exact hK
 refine⟨r0.map (fk g),by rw[List.map_map]; rfl,fun k hk => ?_,fun out ho => ?_⟩
 ·obtain⟨t,_,rfl⟩:=List.mem_map.mp hk
  unfold fk
  simp
 obtain⟨ps,p1,rfl,p3⟩:=ho
 have ez:(r0.map (fk g)).zip (r0.map pl3)=r0.map fun t=>(fk g t,pl3 t):=by
  clear p1 nd hm hl gg h e hg hgm
  induction r0 with
  | nil=>rfl
  | cons t r ih=>rw[List.map_cons,List.map_cons,List.map_cons,List.zip_cons_cons,ih]
 rw[ez] at p1
 obtain⟨rl,pm,rfl⟩:=zcv p1.symm
 rw[List.map_map]
 refine q rl ?_ (fun p=>pm.mem_iff.symm.trans (hm p)) (by rw[<- pm.length_eq]; exact hl)
 rw[List.pairwise_map] at p3
 have nd':rl.Nodup:=pm.nodup_iff.mp nd
 refine List.Pairwise.imp_of_mem (fun {a b} ha hb' z => ?_) (p3.and nd')
 have ma:=pm.mem_iff.mpr ha
 have mb:=pm.mem_iff.mpr hb'
 exact zim (lo a ((hm a).mp ma)) (lo b ((hm b).mp mb)) (gg a ma) (gg b mb) z.2 z.1
def z9f {d:D}{l:List Geo.T3}{Q:DK}{X:XP}(hd:Ps d l)(hb:∀ t∈l,Tz t)(lo:∀ t∈l,Geo.Lo t)(hz:l.length<=2040)(q:∀ h,Geo.Ar l h->Q (pls3 h)):z10.run [d] Q X:=by
 walk_at "fn"
 ac_nf
 refine zca hd hb lo hz fun rl h1 h2 h3 => ?_
 ac_nf
 exact zc9 (fun p hp=>have z:=hb p ((h2 p).mp hp); ⟨z.1.le,z.2.1.le,z.2.2.le⟩) (by lia) (q _ ⟨rl,h1,h2,rfl⟩)
end Pu
namespace Pu
open PySem L2 Mth
def zbR (a:Int):(if a < 0 then -a else a)=(a.natAbs:Int):=by split <;> omega
def z7B {a b:Int}{Q:DK}{X:XP}(q:Q (.int ((Int.gcd a b:Nat):Int))):z0G.run [.int a,.int b] Q X:=by
 walk_at "fn"
 ac_nf
 rw[zbR,zbR]
 refine zdj (fun ρ=>∃ (m s:Nat) (y:B),Nat.gcd m s=Int.gcd a b/\ρ=[.s (.int (m:Int)),.s (.int (s:Int)),y]) (fun ρ=>match ρ with | [_,.s (.int s),_]=>s.toNat | _=>0) ⟨a.natAbs,b.natAbs,_,rfl,rfl⟩ ?_
 rintro ρ ⟨m,s,y,es,rfl⟩
 ac_nf
 refine z3n (fun z => ?_) (fun z => ?_)
 ·ac_nf
  have hm:(m:Int) % (s:Int)=((m % s:Nat):Int):=by simp
  refine⟨⟨s,m % s,_,by rw[<- es,Nat.gcd_comm m s,Nat.gcd_rec s m,Nat.gcd_comm],by rw[hm]⟩,?_⟩
  show ((m:Int) % (s:Int)).toNat < ((s:Nat):Int).toNat
  rw[hm]
  have:=Nat.mod_lt m (show 0 < s by omega)
  omega
 ·have:s=0:=by omega
  subst this
  rw[Nat.gcd_zero_right] at es
  ac_nf
  rw[es]
  exact q
structure Lw (x y b:Int)(t:Geo.T3):Prop where
 lo:Geo.Lo t
 cx:t.1*b=x*t.2.2
 cy:t.2.1*b=y*t.2.2
 ax:t.1.natAbs<=x.natAbs
 ay:t.2.1.natAbs<=y.natAbs
 ab:t.2.2<=b
def z7C {x y b:Int}{Q:DK}{X:XP}(hb:0 < b)(bb:Bt 8000 b)(q:∀ t,Lw x y b t->Q (pl3 t)):z08.run [.int x,.int y,.int b] Q X:=by
 have hg:((Int.gcd ((Int.gcd x y:Nat):Int) b:Nat):Int)=g3 x y b:=by
  unfold g3
  rw[z9E]
  congr 1
  show Nat.gcd (Nat.gcd x.natAbs y.natAbs) b.natAbs=_
  rw[Nat.gcd_comm, <- Nat.gcd_assoc]
  rfl
 have hp:=zfY (x:=x) (y:=y) hb
 have g0:=zdE (x:=x) (y:=y) hb
 have gb:=z9H x y b
 have bg:Bt 9000 (g3 x y b):=Bt.le (bb.of_abs (by
  have:=Int.natAbs_dvd_natAbs.mpr gb
  exact Nat.le_of_dvd (by lia) this))
 walk_at "fn"
 ac_nf
 refine z7B ?_
 ac_nf
 refine z7B ?_
 rw[hg]
 generalize g3 x y b=g at*
 ac_nf
 refine q (x / g,y / g,b / g) ?_
 obtain⟨k,rfl⟩:=gb
 exact⟨⟨by have:=hp.pos; exact this,hp.cop⟩,hp.cx,hp.cy,hp.lu,hp.lv,Int.ediv_le_self _ (by lia)⟩
structure Pb (n:Nat)(t:Geo.T3):Prop where
 lo:Geo.Lo t
 bx:Bt n t.1
 bY:Bt n t.2.1
 bw:Bt 2000 t.2.2
def Pb.le {m n:Nat}{t:Geo.T3}(h:Pb m t)(q:m<=n):Pb n t:=⟨h.lo,h.bx.le q,h.bY.le q,h.bw⟩
def Pb.tz {n:Nat}{t:Geo.T3}(h:Pb n t)(q:n<=100000):Tz t:=⟨h.bx.le q,h.bY.le q,h.bw.le⟩
def Lw.pb {x y b:Int}{t:Geo.T3}{n:Nat}(h:Lw x y b t)(bx:Bt n x)(bY:Bt n y)(bb:Bt 2000 b):Pb n t:=⟨h.lo,bx.of_abs h.ax,bY.of_abs h.ay,bb.of_abs (by have:=h.ab; have:=h.lo.1; lia)⟩
def btw (a b:Geo.T3)(i j:Int)(t:Geo.T3):Prop:=Lw (a.1*b.2.2*(j - i)+b.1*a.2.2*i) (a.2.1*b.2.2*(j - i)+b.2.1*a.2.2*i) (a.2.2*b.2.2*j) t
def zaL {a b:Geo.T3}{i j:Int}{n:Nat}{Q:DK}{X:XP}(ha:Pb n a)(hb:Pb n b)(hn:n<=100000)(h1:0<=i)(h2:i<=10)(h3:0 < j)(h4:j<=10)(q:∀ t,btw a b i j t->Q (pl3 t)):z16.run [pl3 a,pl3 b,.int i,.int j] Q X:=by
 have a1:Bt 100000 a.1:=ha.bx.le hn
 have a2:Bt 100000 a.2.1:=ha.bY.le hn
 have a3:Bt 2000 a.2.2:=ha.bw
 have b1:Bt 100000 b.1:=hb.bx.le hn
 have b2:Bt 100000 b.2.1:=hb.bY.le hn
 have b3:Bt 2000 b.2.2:=hb.bw
 have bi:Bt 5 i:=z0S (by lia)
 have bj:Bt 5 j:=z0S (by lia)
 have bk:Bt 5 (j - i):=z0S (by lia)
 have w1:=ha.lo.1
 have w2:=hb.lo.1
 have c1:Bt 102000 (a.1*b.2.2):=(Bt.mul a1 b3).le
 have c2:Bt 102000 (b.1*a.2.2):=(Bt.mul b1 a3).le
 have c3:Bt 102000 (a.2.1*b.2.2):=(Bt.mul a2 b3).le
 have c4:Bt 102000 (b.2.1*a.2.2):=(Bt.mul b2 a3).le
 have c5:Bt 4000 (a.2.2*b.2.2):=(Bt.mul a3 b3).le
 unfold pl3
 walk_at "fn"
 ac_nf
 exact z7C (Int.mul_pos (Int.mul_pos w1 w2) h3) (Bt.mul (Bt.mul a3 b3) bj).le q
def zfk {k:Int}{Q:DK}{X:XP}(h0:0<=k)(h1:k<=60)(q:∀ m:Int,0 < m->Bt 300 m->Q (.int m)):z1z.run [.int k] Q X:=by
 walk_at "fn"
 ac_nf
 refine zaR (by lia) (by lia) ?_
 refine z2K (f:=fun j:Nat=>D.int (j:Int)) (fun dn ρ=>∃ (m:Int) (x:B),0 < m/\Bt (4+4*dn.length) m/\ρ=[.s (.int k),.s (.int m),x]) ⟨1,_,by decide,z0S (by decide),rfl⟩ ?_ ?_
 ·rintro dn v r ρ e ⟨m,x,m0,bm,rfl⟩
  have hl:dn.length<=60:=by
   have:=congrArg List.length e
   simp at this
   lia
  show Sm.run _ _ _ _ _
  ac_rfl
  refine zfm ?_
  ac_nf
  refine zey ⟨bm.le (by lia),(z0S (n:=4) (by decide)).le⟩ ?_
  refine⟨Safe.of_noL rfl rfl _,m*10,_,by lia,?_,rfl⟩
  rw[List.length_append,List.length_singleton]
  exact(Bt.mul bm (z0S (n:=4) (i:=10) (by decide))).le (by lia)
 ·rintro ρ ⟨m,x,m0,bm,rfl⟩
  ac_nf
  exact q m m0 (bm.le (by simp; lia))
def zaK {r m:Int}{Q:DK}{X:XP}(h0:0<=m)(bm:Bt 300 m)(q:∀ x,Bt 400 x->Q (.int x)):z0Z.run [.int r,.int m] Q X:=by
 walk_at "fn"
 ac_nf
 have a1:=Int.emod_nonneg r (show 2*m+1≠0 by omega)
 have a2:=Int.emod_lt_of_pos r (show 0 < 2*m+1 by omega)
 have b0:Bt 310 (2*m+1):=Bt.le (Bt.add (Bt.mul (z0S (n:=3) (by decide)) bm) (z0S (n:=3) (by decide)))
 generalize r % (2*m+1)=d at*
 have bd:Bt 310 ((d+1) / 2):=b0.of_abs (by omega)
 have be:Bt 4 (1 - 2*(d % 2)):=z0S (by omega)
 ac_nf
 exact q _ (Bt.mul bd be).le
def zfq {c:Int}{Q:DK}{X:XP}(q:∀ t,Pb 400 t->Q (pl3 t)):z0H.run [.int c,.int 57] Q X:=by
 walk_at "fn"
 ac_nf
 refine zfk (by omega) (by omega) fun m m0 bm => ?_
 have b0:Bt 310 (2*m+1):=Bt.le (Bt.add (Bt.mul (z0S (n:=3) (by decide)) bm) (z0S (n:=3) (by decide)))
 ac_nf
 refine zaK (by omega) bm fun x bx => ?_
 ac_nf
 refine zaK (by omega) bm fun y bY => ?_
 ac_nf
 have a1:=Int.emod_nonneg (c / 57 / (2*m+1) / (2*m+1)) (show m≠0 by omega)
 have a2:=Int.emod_lt_of_pos (c / 57 / (2*m+1) / (2*m+1)) m0
 generalize c / 57 / (2*m+1) / (2*m+1) % m=r at*
 have br:Bt 300 (1+r):=bm.of_abs (by omega)
 exact z7C (by omega) br.le fun t h=>q t (h.pb bx bY br.le)
def zaI {c k:Int}{Q:DK}{X:XP}(hk:0<=k)(hk':k<=1000)(q:∀ r:Int,0<=r->r < 2147483647->Q (.int r)):z0Y.run [.int c,.int k] Q X:=by
 have bk:Bt 640 k:=z0S (by omega)
 have b1:Bt 700 (c % 2147483647):=Bt.le (m:=40) (z0S (by omega))
 walk_at "fn"
 ac_nf
 have h1:0<=(c % 2147483647*48271+977*k+11) % 2147483647/\(c % 2147483647*48271+977*k+11) % 2147483647 < 2147483647:=by omega
 generalize (c % 2147483647*48271+977*k+11) % 2147483647=z at*
 have bz:Bt 40 z:=z0S (by omega)
 ac_nf
 generalize z*z=y at*
 exact q _ (by omega) (by omega)
def z8k {x y s:Int}{Q:DK}{X:XP}(hx : -100<=x/\x<=100)(hy : -100<=y/\y<=100)(q:∀ t,Pb 400 t->Q (pl3 t)):onV (atI [.int 1,.int 1,.int 2,.int 3,.int 6] (s % 5)) (fun d=>z08.run [.int x,.int y,d] Q X):=by
 have bx:Bt 400 x:=Bt.le (m:=8) (z0S (by omega))
 have bY:Bt 400 y:=Bt.le (m:=8) (z0S (by omega))
 have go:∀ b:Int,0 < b->b<=6->z08.run [.int x,.int y,.int b] Q X:=fun b b0 b1=>by
  have bb:Bt 8 b:=z0S (by omega)
  exact z7C b0 bb.le fun t h=>q t (h.pb bx bY bb.le)
 rcases(by omega:s % 5=0\/s % 5=1\/s % 5=2\/s % 5=3\/s % 5=4) with z | z | z | z | z <;> rw[z]
 ·exact go 1 (by decide) (by decide)
 ·exact go 1 (by decide) (by decide)
 ·exact go 2 (by decide) (by decide)
 ·exact go 3 (by decide) (by decide)
 ·exact go 6 (by decide) (by decide)
def zbO {l:List Geo.T3}{s:Int}(hne:l≠[]):∃ t∈l,atI (l.map pl3) (s % ((l.map pl3).length:Int))=some (pl3 t):=by
 have hl:0 < l.length:=List.length_pos_iff.mpr hne
 rw[List.length_map]
 have a1:=Int.emod_nonneg s (show (l.length:Int)≠0 by omega)
 have a2:=Int.emod_lt_of_pos s (show 0 < (l.length:Int) by omega)
 generalize s % (l.length:Int)=k at*
 obtain⟨j,rfl⟩:=Int.eq_ofNat_of_zero_le a1
 have hj:j < l.length:=by omega
 refine⟨l[j],List.getElem_mem _,z2j ?_⟩
 unfold atI ixN
 rw[if_pos (by omega)]
 simp[hj]
def zhi {a b t:Geo.T3}{i j:Int}{n m:Nat}(ha:Pb n a)(hb:Pb n b)(wa:Bt m a.2.2)(wb:Bt m b.2.2)(hm:m<=990)(h1:0<=i)(h2:i<=10)(h3:0 < j)(h4:j<=10)(h:btw a b i j t):Pb (n+m+10) t:=by
 have bi:Bt 4 i:=z0S (by omega)
 have bj:Bt 4 j:=z0S (by omega)
 have bk:Bt 4 (j - i):=z0S (by omega)
 exact Lw.pb h ((Bt.add (Bt.mul (Bt.mul ha.bx wb) bk) (Bt.mul (Bt.mul hb.bx wa) bi)).le (by omega)) ((Bt.add (Bt.mul (Bt.mul ha.bY wb) bk) (Bt.mul (Bt.mul hb.bY wa) bi)).le (by omega)) ((Bt.mul (Bt.mul wa wb) bj).le (by omega))
def s_by {c:Int}{l:List Geo.T3}{n:Nat}{Q:DK}{X:XP}(hl:∀ t∈l,Pb n t)(hn:400<=n)(hn':n<=90000)(q:∀ t,Pb (n+60) t->Q (pl3 t)):z0U.run [.int c,.lst (l.map pl3)] Q X:=by
 walk_at "fn"
 ac_nf
 refine zaI (by decide) (by decide) fun r r0 r1 => ?_
 have p12:(10:Int) ^ (12:Int).toNat=1000000000000:=by decide
 have p8:(10:Int) ^ (8:Int).toNat=100000000:=by decide
 have p5:(10:Int) ^ (5:Int).toNat=100000:=by decide
 have p20:(10:Int) ^ (20:Int).toNat=100000000000000000000:=by decide
 have q4:∀ t,Pb 400 t->Q (pl3 t):=fun t h=>q t (h.le (by omega))
 ac_nf
 have nx : -6<=r / 8 / 5 % 13 - 6/\r / 8 / 5 % 13 - 6<=6:=by omega
 have ny : -6<=r / 8 / 65 % 13 - 6/\r / 8 / 65 % 13 - 6<=6:=by omega
 generalize r / 8 / 5 % 13 - 6=x at*
 generalize r / 8 / 65 % 13 - 6=y at*
 have bx:Bt 8 x:=z0S (by omega)
 by_cases w1:r % 8=1
 ·refine z6C w1 ?_
  ac_nf
  by_cases ne:l=[]
  ·subst ne
   refine t_no (by simp) ?_
   ac_nf
   refine t_no (by omega) ?_
   ac_nf
   refine t_no (by omega) ?_
   ac_nf
   refine t_no (by omega) ?_
   ac_nf
   exact z8k (by omega) (by omega) q4
  ·have hlen:0 < ((l.map pl3).length:Int):=by simp; exact List.length_pos_iff.mpr ne
   refine z6C hlen ?_
   ac_nf
   obtain⟨t,ht,e⟩:=zbO (s:=r / 8) ne
   refine z3k e ?_
   exact q t ((hl t ht).le (by omega))
 refine t_no w1 ?_
 ac_nf
 by_cases w2:r % 8=2
 ·refine z6C w2 ?_
  ac_nf
  by_cases ne:l=[]
  ·subst ne
   refine t_no (by simp) ?_
   ac_nf
   refine t_no (by omega) ?_
   ac_nf
   refine t_no (by omega) ?_
   ac_nf
   exact z8k (by omega) (by omega) q4
  ·have hlen:0 < ((l.map pl3).length:Int):=by simp; exact List.length_pos_iff.mpr ne
   refine z6C hlen ?_
   ac_nf
   obtain⟨t,ht,e⟩:=zbO (s:=r / 8) ne
   refine z3k e ?_
   refine⟨Safe.of_noL rfl rfl _,?_⟩
   ac_rfl
   ac_nf
   obtain⟨u,hu,e'⟩:=zbO (s:=r / 8 / 97) ne
   refine z3k e' ?_
   refine⟨Safe.of_noL rfl rfl _,?_⟩
   ac_rfl
   have pt:=hl t ht
   have pu:=hl u hu
   have b1:=pt.bw
   have b2:=pu.bw
   unfold pl3
   ac_nf
   rw[p12]
   refine z3n (fun z => ?_) (fun z => ?_)
   ·ac_nf
    have t0:=pt.lo.1
    have u0:=pu.lo.1
    have k1:t.2.2 < 1000000000000:=Int.lt_of_le_of_lt (by have:=Int.mul_le_mul_of_nonneg_left (show 1<=u.2.2 by omega) (show 0<=t.2.2 by omega); omega) z
    have k2:u.2.2 < 1000000000000:=Int.lt_of_le_of_lt (by have:=Int.mul_le_mul_of_nonneg_right (show 1<=t.2.2 by omega) (show 0<=u.2.2 by omega); omega) z
    have c1:Bt 40 t.2.2:=z0S (by omega)
    have c2:Bt 40 u.2.2:=z0S (by omega)
    exact zaL pt pu (by omega) (by omega) (by omega) (by omega) (by omega) fun v h=>q v ((zhi pt pu c1 c2 (by omega) (by omega) (by omega) (by omega) (by omega) h).le (by omega))
   ·ac_nf
    refine t_no (by omega) ?_
    ac_nf
    refine t_no (by omega) ?_
    ac_nf
    exact z8k (by omega) (by omega) q4
 refine t_no w2 ?_
 ac_nf
 refine z3n (fun w3 => ?_) (fun w3 => ?_)
 ·ac_nf
  refine t_no (by omega) ?_
  ac_nf
  exact z8k (by omega) (by omega) q4
 ac_nf
 refine z3n (fun w4 => ?_) (fun w4 => ?_)
 ·ac_nf
  refine zaI (by decide) (by decide) fun u u0 u1 => ?_
  ac_nf
  rw[p20,p8,p5]
  have bX:Bt 400 (c % (2*100000000000000000000+1) - 100000000000000000000):=Bt.le (m:=80) (z0S (by omega))
  have bY:Bt 400 (u - 100000000):=Bt.le (m:=40) (z0S (by omega))
  have bW:Bt 40 (1+r / 8 % 100000):=z0S (by omega)
  exact z7C (by omega) bW.le fun t h=>q4 t (h.pb bX bY bW.le)
 ac_nf
 exact z8k (by omega) (by omega) q4
def zcb {cs:List Int}{f:Int}{Q:DK}{X:XP}(hf:f=0\/f=57)(hz:cs.length<=1000)(q:∀ ts:List Geo.T3,ts.length=cs.length->(∀ t∈ts,Pb (400+60*cs.length) t)->Q (.lst (ts.map pl3))):z0P.run [.lst (cs.map .int),.int f] Q X:=by
 walk_at "fn"
 ac_nf
 refine z3n (fun h => ?_) (fun h => ?_)
 ·obtain rfl:f=57:=by omega
  ac_nf
  refine⟨by rw[List.length_map]; exact szl' (by lia),?_⟩
  refine z8e (g:=pl3) (P:=fun _ t=>Pb 400 t) (fun c hc K hK => ?_) (fun ys hl ha => ?_)
  ·ac_nf
   exact zfq hK
  ·refine q ys hl fun t ht => ?_
   obtain⟨_,_,h⟩:=ha t ht
   exact h.le (by omega)
 ·obtain rfl:f=0:=by omega
  ac_nf
  refine zaD (fun x hx=>by cases hx) ?_
  ac_rfl
  ac_nf
  refine z2K (f:=D.int) (fun dn ρ=>∃ (ts:List Geo.T3) (x:B),ts.length=dn.length/\(∀ t∈ts,Pb (400+60*dn.length) t)/\ρ=[.s (.lst (cs.map .int)),.s (.int 0),.o (.lst (ts.map pl3)),x]) ⟨[],_,rfl,fun t ht=>by simp at ht,rfl⟩ ?_ ?_
  ·rintro dn v r ρ e ⟨ts,x,hl,hp,rfl⟩
   have hd:dn.length < cs.length:=by rw[e]; simp
   show Sm.run _ _ _ _ _
   ac_rfl
   refine zft (l:=ts.map pl3) (z6M rfl ?_)
   ac_nf
   refine s_by hp (by omega) (by omega) fun t ht => ?_
   refine⟨by rw[List.length_map]; exact szl' (by lia),Safe.of_noL rfl rfl _,ts++[t],_,by simp[hl],fun u hu => ?_,by simp; rfl⟩
   rw[List.length_append,List.length_singleton]
   rcases List.mem_append.mp hu with z | z
   ·exact(hp u z).le (by omega)
   ·rw[List.mem_singleton.mp z]
    exact ht.le (by omega)
  ·rintro ρ ⟨ts,x,hl,hp,rfl⟩
   ac_nf
   exact q ts hl hp
end Pu
namespace Pu
open PySem PySem.Spec PyProof.Rows L2 Tab
end Pu
namespace Pu
open PySem L2
def z52 {α:Type}{l:List α}{k:Nat}(h:k < l.length):atI l (k:Int)=l[k]? := by
 unfold atI ixN
 rw[if_pos (by lia),if_pos (by lia)]
 simp
end Pu
namespace Pu
open PySem L2 Mth
def zho {α:Type}{l:List α}{k:Nat}(h:k < l.length):atI l ((k:Int) - 1)=l[(k+l.length - 1) % l.length]? := by
 by_cases hk:k=0
 ·subst hk
  rw[show (0+l.length - 1) % l.length=l.length - 1 from by rw[Nat.zero_add]; exact Nat.mod_eq_of_lt (by omega)]
  unfold atI ixN
  rw[if_neg (by omega),if_pos (by omega)]
  show l[(((0:Nat):Int) - 1+(l.length:Int)).toNat]? = _
  congr 1
  omega
 ·rw[show (k:Int) - 1=((k - 1:Nat):Int) by omega,z52 (by omega),show (k+l.length - 1) % l.length=k - 1 from by rw[show k+l.length - 1=k - 1+l.length by omega,Nat.add_mod_right]; exact Nat.mod_eq_of_lt (by omega)]
def OkL (h:List Geo.T3)(p:Geo.T3)(k:Nat):Prop:=∀ a b,h[(k+h.length - 1) % h.length]? = some a->h[k]? = some b->
 0<=(Geo.st3 a b).1*(Geo.st3 a p).2 - (Geo.st3 a b).2*(Geo.st3 a p).1/\(h.length=2->0<=(Geo.st3 a b).1*(Geo.st3 a p).1+(Geo.st3 a b).2*(Geo.st3 a p).2)
def zh2 {M:Int}{h:List Geo.T3}{p:Geo.T3}(hM:∀ t∈h,Geo.Dv M t)(pM:Geo.Dv M p)(hl:2<=h.length):Geo.In (h.map (Geo.up M)) (Geo.up M p)↔∀ k,k < h.length->OkL h p k:=by
 by_cases h2:h.length=2
 ·match h,h2 with
  | [a,b],_=>
   have ma:=hM a (by simp)
   have mb:=hM b (by simp)
   have s1:=Geo.z7u ma mb pM
   have s2:=Geo.z7u mb ma pM
   have c:Geo.cr (Geo.up M b) (Geo.up M a) (Geo.up M p) = -Geo.cr (Geo.up M a) (Geo.up M b) (Geo.up M p):=by simp only[Geo.cr]; grind
   constructor
   ·intro z
    have z':Geo.cr (Geo.up M a) (Geo.up M b) (Geo.up M p)=0/\0<=Geo.dot (Geo.up M a) (Geo.up M b) (Geo.up M p)/\0<=Geo.dot (Geo.up M b) (Geo.up M a) (Geo.up M p):=z
    obtain⟨z1,z2,z3⟩:=z'
    intro k hk
    rcases(by simp at hk; omega:k=0\/k=1) with rfl | rfl
    ·intro a' b' e1 e2
     simp at e1 e2
     subst e1
     subst e2
     exact⟨s2.1.mpr (by omega),fun _=>s2.2.2.mpr z3⟩
    ·intro a' b' e1 e2
     simp at e1 e2
     subst e1
     subst e2
     exact⟨s1.1.mpr (by omega),fun _=>s1.2.2.mpr z2⟩
   ·intro z
    have o0:=z 0 (by simp) b a rfl rfl
    have o1:=z 1 (by simp) a b (by simp) rfl
    have y0:=s2.1.mp o0.1
    have y1:=s1.1.mp o1.1
    show Geo.cr (Geo.up M a) (Geo.up M b) (Geo.up M p)=0/\0<=Geo.dot (Geo.up M a) (Geo.up M b) (Geo.up M p)/\0<=Geo.dot (Geo.up M b) (Geo.up M a) (Geo.up M p)
    exact⟨by omega,s1.2.2.mp (o1.2 rfl),s2.2.2.mp (o0.2 rfl)⟩
 ·rw[Geo.In.three (by rw[List.length_map]; omega),List.length_map]
  constructor
  ·intro z k hk a b ea eb
   refine⟨?_,fun w=>absurd w h2⟩
   refine(Geo.z7u (hM a (List.mem_of_getElem? ea)) (hM b (List.mem_of_getElem? eb)) pM).1.mpr ?_
   exact z k _ _ hk (by rw[List.getElem?_map,ea]; rfl) (by rw[List.getElem?_map,eb]; rfl)
  ·intro z j A B hj eA eB
   rw[List.getElem?_map] at eA eB
   obtain⟨a,ea,rfl⟩:=Option.map_eq_some_iff.mp eA
   obtain⟨b,eb,rfl⟩:=Option.map_eq_some_iff.mp eB
   exact(Geo.z7u (hM a (List.mem_of_getElem? ea)) (hM b (List.mem_of_getElem? eb)) pM).1.mp (z j hj a b ea eb).1
def z4B {a b:Geo.T3}{Q:DK}{X:XP}(ha:Tz a)(hb:Tz b)(q:Q (vec (Geo.st3 a b))):z0f.run [pl3 a,pl3 b] Q X:=by
 obtain⟨a1,a2,a3⟩:=ha
 obtain⟨b1,b2,b3⟩:=hb
 unfold pl3
 walk_at "fn"
 ac_nf
 exact q
def z6e {a b:Geo.T3}(ha:Tz a)(hb:Tz b):Vb 120000 (Geo.st3 a b):=⟨(Bt.sub (Bt.mul hb.1 ha.2.2) (Bt.mul ha.1 hb.2.2)).le,(Bt.sub (Bt.mul hb.2.1 ha.2.2) (Bt.mul ha.2.1 hb.2.2)).le⟩
def zaH {p r:Int × Int}{Q:DK}{X:XP}(h1:Vb 120000 p)(h2:Vb 120000 r)(q:Q (.int (p.1*r.2 - p.2*r.1))):z0L.run [vec p,vec r] Q X:=by
 obtain⟨a1,a2⟩:=h1
 obtain⟨b1,b2⟩:=h2
 walk_at "fn"
 ac_nf
 exact q
def zfr {p r:Int × Int}{Q:DK}{X:XP}(h1:Vb 120000 p)(h2:Vb 120000 r)(q:Q (.int (p.1*r.1+p.2*r.2))):z1Q.run [vec p,vec r] Q X:=by
 obtain⟨a1,a2⟩:=h1
 obtain⟨b1,b2⟩:=h2
 walk_at "fn"
 ac_nf
 exact q
def z5G (a b:Geo.T3):deq (pl3 a) (pl3 b)=decide (a=b):=by
 obtain⟨a,b',c⟩:=a
 obtain⟨d,e,f⟩:=b
 show PyData.eqv (.tuple [.int a,.int b',.int c]) (.tuple [.int d,.int e,.int f])=decide ((a,b',c)=(d,e,f))
 simp[PyData.eqv,PyData.eqvAll]
 by_cases h1:a=d <;> by_cases h2:b'=e <;> by_cases h3:c=f <;> simp[h1,h2,h3]
def Da.pl3 (p:Geo.T3){n:Nat}:Da (n+1) (Pu.pl3 p):=Da.tup.mpr fun d hd=>by
 simp only[List.mem_cons,List.not_mem_nil,or_false] at hd
 rcases hd with rfl | rfl | rfl <;> exact Da.int
def zif {l:List Geo.T3}{p:Geo.T3}{Q:DK}{X:XP}(q:Q (.bl (decide (p∈l)))):pIn.run [pl3 p,pls3 l] Q X:=by
 refine⟨Da.pl3 p,fun d hd => ?_,?_⟩
 ·obtain⟨y,_,rfl⟩:=List.mem_map.mp hd
  exact Da.pl3 y
 ·show Q (.bl ((l.map pl3).any fun d=>deq d (pl3 p)))
  have e:((l.map pl3).any fun d=>deq d (pl3 p))=decide (p∈l):=by
   rw[Bool.eq_iff_iff,List.any_eq_true,decide_eq_true_iff]
   constructor
   ·rintro⟨d,hd,z⟩
    obtain⟨y,hy,rfl⟩:=List.mem_map.mp hd
    rw[z5G,decide_eq_true_iff] at z
    rw[<- z]; exact hy
   ·intro z
    exact⟨pl3 p,List.mem_map_of_mem z,by rw[z5G]; simp⟩
  rw[e]
  exact q
def zaJ {M:Int}{h:List Geo.T3}{p:Geo.T3}{Q:DK}{X:XP}(hM:∀ t∈h,Geo.Dv M t)(pM:Geo.Dv M p)(lo:∀ t∈h,Geo.Lo t)(lp:Geo.Lo p)(hz:h.length<=2100)(hb:∀ t∈h,Tz t)(bp:Tz p)(q:∀ v:Bool,(v=true↔Geo.In (h.map (Geo.up M)) (Geo.up M p))->Q (.bl v)):z0B.run [pls3 h,pl3 p] Q X:=by
 walk_at "fn"
 ac_nf
 rw[List.length_map]
 refine z3n (fun hl => ?_) (fun hl => ?_)
 ·ac_nf
  refine zif (q _ ?_)
  rw[decide_eq_true_iff]
  match h,hl with
  | [],_=>exact⟨fun z=>by simp at z,fun z=>False.elim z⟩
  | [m],_=>
   show _↔Geo.up M p=Geo.up M m
   rw[List.mem_singleton]
   exact⟨fun z=>by rw[z],fun z=>Geo.Lo.inj lp (lo m (by simp)) pM (hM m (by simp)) z⟩
  | _::_::_,hl=>simp at hl; omega
 have iff:=zh2 hM pM (h:=h) (by omega)
 ac_nf
 rw[List.length_map]
 refine zaR (by omega) (by omega) ?_
 rw[show ((h.length:Nat):Int).toNat=h.length by simp]
 refine z2K (f:=fun(j:Nat)=>D.int (j:Int)) (fun dn ρ=>∃ x2 x3:B,(∀ k∈dn,OkL h p k)/\ρ=[.s (pls3 h),.s (pl3 p),x2,x3]) ⟨_,_,by simp,rfl⟩ ?_ ?_
 ·rintro dn k r ρ e ⟨x2,x3,hdn,rfl⟩
  have hk:k < h.length:=List.mem_range.mp (by rw[e]; simp)
  have hj:(k+h.length - 1) % h.length < h.length:=Nat.mod_lt _ (by omega)
  have ea:h[(k+h.length - 1) % h.length]? = some (h[(k+h.length - 1) % h.length]'hj):=List.getElem?_eq_getElem hj
  have eb:h[k]? = some h[k]:=List.getElem?_eq_getElem hk
  have va:=hb _ (List.getElem_mem hj)
  have vb:=hb _ (List.getElem_mem hk)
  generalize h[(k+h.length - 1) % h.length]'hj=a at*
  generalize h[k]=b at*
  have a1:atI h ((k:Int) - 1)=some a:=by rw[zho hk,ea]
  have a0:atI h (k:Int)=some b:=by rw[z52 hk,eb]
  have ok:0<=(Geo.st3 a b).1*(Geo.st3 a p).2 - (Geo.st3 a b).2*(Geo.st3 a p).1->(h.length=2->0<=(Geo.st3 a b).1*(Geo.st3 a p).1+(Geo.st3 a b).2*(Geo.st3 a p).2)->∀ j∈dn++[k],OkL h p j:=fun w1 w2 j hj=>by
   rcases List.mem_append.mp hj with hj | hj
   ·exact hdn j hj
   ·rw[List.mem_singleton.mp hj]
    intro a' b' ea' eb'
    rw[ea] at ea'
    rw[eb] at eb'
    cases ea'
    cases eb'
    exact⟨w1,w2⟩
  show Sm.run _ _ _ _ _
  ac_rfl
  ac_nf
  refine z3k (z2j a1) ?_
  ac_nf
  refine z3k (z2j a0) ?_
  ac_nf
  refine z4B va vb ?_
  ac_nf
  refine z3k (z2j a1) ?_
  ac_nf
  refine z4B va bp ?_
  ac_nf
  refine zaH (z6e va vb) (z6e va bp) ?_
  ac_nf
  refine z3n (fun w => ?_) (fun w => ?_)
  ·ac_nf
   refine q _ ⟨fun w=>by(cases w),fun w' => ?_⟩
   have:=(iff.mp w' k hk a b ea eb).1
   omega
  ac_nf
  rw[List.length_map]
  refine z3n (fun w2 => ?_) (fun w2 => ?_)
  ·ac_nf
   refine z3k (z2j a1) ?_
   ac_nf
   refine z4B va bp ?_
   ac_nf
   refine zfr (z6e va vb) (z6e va bp) ?_
   ac_nf
   refine z3n (fun w3 => ?_) (fun w3 => ?_)
   ·ac_nf
    refine q _ ⟨fun w=>by(cases w),fun w' => ?_⟩
    have:=(iff.mp w' k hk a b ea eb).2 (by omega)
    omega
   ·ac_nf
    exact⟨_,_,ok (by omega) fun _=>by omega,rfl⟩
  ·ac_nf
   exact⟨_,_,ok (by omega) fun z=>by omega,rfl⟩
 ·rintro ρ ⟨x2,x3,hdn,rfl⟩
  ac_nf
  exact q true ⟨fun _=>iff.mpr fun k hk=>hdn k (List.mem_range.mpr hk),fun _=>rfl⟩
def z9L (l h:List Geo.T3):deq (pls3 l) (pls3 h)=decide (l=h):=by
 show PyData.eqvAll (pys (l.map pl3)) (pys (h.map pl3))=decide (l=h)
 induction l generalizing h with
 | nil=>
  cases h with
  | nil=>rfl
  | cons p h=>rfl
 | cons p l ih=>
  cases h with
  | nil=>rfl
  | cons r h=>
   show (PyData.eqv (py (pl3 p)) (py (pl3 r)) && PyData.eqvAll (pys (l.map pl3)) (pys (h.map pl3)))=_
   rw[ih h,show PyData.eqv (py (pl3 p)) (py (pl3 r))=decide (p=r) from z5G p r]
   by_cases e1:p=r <;> by_cases e2:l=h <;> simp[e1,e2]
def Da.pls3 (l:List Geo.T3){n:Nat}:Da (n+2) (Pu.pls3 l):=Da.tup.mpr fun d hd=>by
 obtain⟨y,_,rfl⟩:=List.mem_map.mp hd
 exact Da.pl3 y
def zhp {l h:List Geo.T3}(x:Geo.Ar l h)(lo:∀ t∈l,Geo.Lo t):h.length<=l.length:=by
 by_cases hn:l=[]
 ·subst hn; rw[x.nil]; simp
 ·obtain⟨M,_,hM⟩:=Geo.z9K fun t ht=>(lo t ht).1
  have nd:(h.map (Geo.up M)).Nodup:=(x.is hM hn).nodup
  exact z4j (List.Pairwise.imp (fun z e=>z (by rw[e])) (List.pairwise_map.mp nd)) x.sub
end Pu
namespace Pu
open PySem L2
def z1p:Fn:=Fn.mkN 1 1 (.ret (.and (.op (pIsi "int") [(.v 0)]) (.not (.op (pIsi "bool") [(.v 0)]))))
def z1g:Fn:=Fn.mkN 2 3 (.seq (.set 2 (.op z0f [(.v 0),(.v 1)]))
 (.ret (.or (.op pGt [(.op pIx [(.v 2),(.c (.int 0))]),(.c (.int 0))]) (.and (.op pEq [(.op pIx [(.v 2),(.c (.int 0))]),(.c (.int 0))]) (.op pGt [(.op pIx [(.v 2),(.c (.int 1))]),(.c (.int 0))])))))
def z0X:Fn:=Fn.mkN 1 1 (.seq (.ifs (.or (.not (.op (pIsi "tuple") [(.v 0)])) (.or (.op pNe [(.op pLen [(.v 0)]),(.c (.int 3))]) (.not (.op pAll [(.comp 1 [] (.nm 0) (.v 0) none (.op z1p [(.v 0)]))])))) (.ret (.c (.bl false))) .skip)
 (.ret (.and (.op pGt [(.op pIx [(.v 0),(.c (.int 2))]),(.c (.int 0))]) (.op pEq [(.op z08 [(.op pIx [(.v 0),(.c (.int 0))]),(.op pIx [(.v 0),(.c (.int 1))]),(.op pIx [(.v 0),(.c (.int 2))])]),(.v 0)]))))
def z14:Fn:=Fn.mkN 1 3 (.seq (.ifs (.or (.not (.op (pIsi "tuple") [(.v 0)])) (.not (.op pAll [(.comp 1 [] (.nm 0) (.v 0) none (.op z0X [(.v 0)]))]))) (.ret (.c (.bl false))) .skip)
 (.seq (.forr [(.c (.int 1)),(.op pLen [(.v 0)])] (.nm 1) (.ifs (.not (.op z1g [(.op pIx [(.v 0),(.c (.int 0))]),(.op pIx [(.v 0),(.v 1)])])) (.ret (.c (.bl false))) .skip))
 (.seq (.ifs (.op pLt [(.op pLen [(.v 0)]),(.c (.int 3))]) (.ret (.c (.bl true))) .skip)
 (.seq (.forr [(.op pLen [(.v 0)])] (.nm 1) (.seq (.set 2 (.op z0f [(.op pIx [(.v 0),(.op pSub [(.v 1),(.c (.int 2))])]),(.op pIx [(.v 0),(.op pSub [(.v 1),(.c (.int 1))])])]))
 (.ifs (.or (.op pLe [(.op z0L [(.v 2),(.op z0f [(.op pIx [(.v 0),(.op pSub [(.v 1),(.c (.int 1))])]),(.op pIx [(.v 0),(.v 1)])])]),(.c (.int 0))]) (.not (.op z0B [(.v 0),(.op pIx [(.v 0),(.v 1)])]))) (.ret (.c (.bl false))) .skip)))
 (.ret (.c (.bl true)))))))
def z19:Fn:=Fn.mkN 1 4 (.seq (.set 1 (.op z10 [(.op z5p [(.v 0)])]))
 (.seq (.ifs (.not (.op z14 [(.v 1)])) (.ret (.c (.bl false))) .skip)
 (.seq (.for_ [] (.nm 2) (.v 1) (.ifs (.op zbe [(.v 2),(.v 0)]) (.ret (.c (.bl false))) .skip))
 (.seq (.for_ [] (.nm 3) (.v 0) (.ifs (.not (.op z0B [(.v 1),(.v 3)])) (.ret (.c (.bl false))) .skip))
 (.ret (.op pEq [(.op z10 [(.op z5p [(.op pAdd [(.sls (.v 0) none none (.op pNeg [(.c (.int 1))])),(.sl (.v 0) none (some (.c (.int 100))))])])]),(.v 1)]))))))
def z5F:Fn:=Fn.mkN 1 6 (.seq (.set 1 (.op z15 [(.v 0),(.c (.int 0))]))
 (.seq (.set 2 (.op z0y [(.c (.int 57)),(.op pMod [(.v 1),(.c (.int 2))])]))
 (.seq (.set 3 (.op pAdd [(.op pLst [(.op z30 [(.v 1),(.c (.int 2))])]),(.sl (.v 0) (some (.c (.int 1))) (some (.c (.int 63))))]))
 (.seq (.ifs (.and (.op pEq [(.op pMod [(.op z30 [(.v 1),(.c (.int 5))]),(.c (.int 8))]),(.c (.int 1))]) (.op pEq [(.v 2),(.c (.int 0))])) (.set 3 (.op pAdd [(.v 3),(.comp 1 [1] (.nm 0) (.op z7L [(.c (.int 1)),(.c (.int 121))]) none (.op pAdd [(.v 1),(.op z0y [(.c (.int 7919)),(.v 0)])]))])) .skip)
 (.seq (.set 4 (.op z0P [(.v 3),(.v 2)]))
 (.seq (.ifs (.or (.op pNe [(.op pLen [(.op z10 [(.op pTup [])])]),(.c (.int 0))]) (.not (.op (pIsi "tuple") [(.op z10 [(.op pTup [])])]))) (.ret (.c (.bl false))) .skip)
 (.seq (.set 5 (.op pIx [(.v 4),(.c (.int 0))]))
 (.ret (.and (.op pEq [(.op z10 [(.op pTup [(.v 5)])]),(.op pTup [(.v 5)])]) (.op z19 [(.v 4)]))))))))))
end Pu
namespace Pu
open PySem L2 Mth
def zc7 {a:Int}{Q:DK}{X:XP}(q:Q (.bl true)):z1p.run [.int a] Q X:=by
 walk_at "fn"
 ac_nf
 refine zav rfl ?_
 ac_nf
 exact q
def zcS {t u:Geo.T3}(lo:Geo.Lo t)(h:Lw t.1 t.2.1 t.2.2 u):u=t:=Geo.Lo.eq h.lo lo h.cx h.cy
def zcc {t:Geo.T3}{Q:DK}{X:XP}(lo:Geo.Lo t)(tz:Tz t)(bw:Bt 8000 t.2.2)(q:Q (.bl true)):z0X.run [pl3 t] Q X:=by
 have w0:=lo.1
 show z0X.run [.tup [.int t.1,.int t.2.1,.int t.2.2]] Q X
 walk_at "fn"
 ac_nf
 refine z5Q (zav rfl ?_)
 ac_nf
 refine z5Q (z6C rfl ?_)
 ac_nf
 refine⟨szl' (by simp),?_⟩
 refine z32 (f:=D.int) (l:=[t.1,t.2.1,t.2.2]) (g:=fun _ =>.bl true) (fun a _ K hK => ?_) ?_
 ·ac_nf
  exact zc7 hK
 refine zgJ (bs:=[true,true,true]) ?_
 ac_nf
 refine z5Q (zav rfl ?_)
 ac_nf
 refine z6C w0 ?_
 ac_nf
 refine z7C w0 bw fun u hu => ?_
 rw[zcS lo hu]
 ac_nf
 refine zeA (l:=[.int t.1,.int t.2.1,.int t.2.2]) (r:=[.int t.1,.int t.2.1,.int t.2.2]) (Da.pl3 t) (Da.pl3 t) ?_
 rw[show deq (.tup [.int t.1,.int t.2.1,.int t.2.2]) (.tup [.int t.1,.int t.2.1,.int t.2.2])=decide (t=t) from z5G t t]
 simpa using q
def zaM {a b:Geo.T3}{Q:DK}{X:XP}(ha:Tz a)(hb:Tz b)(lx:Geo.Lx3 a b)(q:Q (.bl true)):z1g.run [pl3 a,pl3 b] Q X:=by
 walk_at "fn"
 ac_nf
 refine z4B ha hb ?_
 ac_nf
 rcases lx with z | ⟨z1,z2⟩
 ·refine z6C (by show 0 < b.1*a.2.2 - a.1*b.2.2; omega) ?_
  exact q
 ·refine t_no (by show ¬ 0 < b.1*a.2.2 - a.1*b.2.2; omega) ?_
  ac_nf
  refine z6C (by show b.1*a.2.2 - a.1*b.2.2=0; omega) ?_
  ac_nf
  rw[decide_eq_true (show 0 < (Geo.st3 a b).2 by show 0 < b.2.1*a.2.2 - a.2.1*b.2.2; omega)]
  exact q
def zhn {α:Type}{l:List α}{k j:Nat}(hk:k < l.length)(hj:j<=l.length):atI l ((k:Int) - (j:Int))=l[(k+l.length - j) % l.length]? := by
 rcases Nat.lt_or_ge k j with z | z
 ·rw[Nat.mod_eq_of_lt (show k+l.length - j < l.length by omega)]
  unfold atI
  rw[show ixN l.length ((k:Int) - (j:Int))=some (k+l.length - j) by
   unfold ixN
   rw[if_neg (by omega),if_pos (by omega)]
   congr 1; omega]
  rfl
 ·rw[show k+l.length - j=(k - j)+l.length by omega,Nat.add_mod_right,Nat.mod_eq_of_lt (by omega),show (k:Int) - (j:Int)=((k - j:Nat):Int) by omega,z52 (by omega)]
def zc1 {a b c:Geo.T3}(ha:0 < a.2.2)(hb:0 < b.2.2)(h:0 < (Geo.st3 a b).1*(Geo.st3 a c).2 - (Geo.st3 a b).2*(Geo.st3 a c).1):0 < (Geo.st3 a b).1*(Geo.st3 b c).2 - (Geo.st3 a b).2*(Geo.st3 b c).1:=by
 refine(Geo.z7x ha hb (x:=(Geo.st3 a b).1*(Geo.st3 b c).2 - (Geo.st3 a b).2*(Geo.st3 b c).1) (y:=(Geo.st3 a b).1*(Geo.st3 a c).2 - (Geo.st3 a b).2*(Geo.st3 a c).1) ?_).1.mpr h
 unfold Geo.st3
 dsimp only
 grind
def zbu {S:Geo.P->Prop}{h:List Geo.T3}{M:Int}(x:Geo.z1S S (h.map (Geo.up M)))(hl:3<=h.length){k:Nat}(hk:k < h.length){a b c:Geo.T3}(ea:h[(k+h.length - 2) % h.length]? = some a)(eb:h[(k+h.length - 1) % h.length]? = some b)(ec:h[k]? = some c):0 < Geo.cr (Geo.up M a) (Geo.up M b) (Geo.up M c):=by
 have hlm:(h.map (Geo.up M)).length=h.length:=List.length_map ..
 obtain⟨i,ei⟩:∃ i,i=k+h.length - 2:=⟨_,rfl⟩
 have g:∀ j t,h[j % h.length]? = some t->Geo.cy (h.map (Geo.up M)) j=Geo.up M t:=fun j t e=>by
  have:=Geo.z8b (h:=h.map (Geo.up M)) (i:=j) (by omega)
  rw[hlm,List.getElem?_map,e] at this
  exact(Option.some.inj this).symm
 have e1:=Geo.zbJ x (by omega) i
 have e2:=Geo.zbJ x (by omega) (i+1)
 have tn:=Geo.zbF e1 e2 (Geo.zhb x (by omega) i)
 rw[g i a (by rw[ei]; exact ea),g (i+1) b (by rw[show i+1=k+h.length - 1 by omega]; exact eb),g (i+1+1) c (by
  rw[show i+1+1=k+h.length by omega,Nat.add_mod_right,Nat.mod_eq_of_lt hk]; exact ec)] at tn
 exact tn
def zdh {M:Int}{l h:List Geo.T3}(x:Geo.Ar l h)(hM:∀ t∈l,Geo.Dv M t){m v:Geo.T3}{k:Nat}(em:h[0]? = some m)(ev:h[k+1]? = some v):Geo.Lx3 m v:=by
 have mm:=x.sub m (List.mem_of_getElem? em)
 have mv:=x.sub v (List.mem_of_getElem? ev)
 have is:=x.is hM (fun z=>by rw[z] at mm; simp at mm)
 obtain⟨m',t,e,sm,hm,hmt,_⟩:=is.ex
 refine(Geo.zdA (hM m mm) (hM v mv)).mpr ?_
 have e0:(h.map (Geo.up M))[0]? = some (Geo.up M m):=by rw[List.getElem?_map,em]; rfl
 have e1:(h.map (Geo.up M))[k+1]? = some (Geo.up M v):=by rw[List.getElem?_map,ev]; rfl
 rw[e] at e0 e1
 simp at e0 e1
 subst e0
 have mt:=List.mem_of_getElem? e1
 rcases Geo.Lx.tri (Geo.up M m) (Geo.up M v) with z | z | z
 ·exact z
 ·exact(hmt (z ▸ mt)).elim
 ·exact(hm _ (List.mem_map_of_mem mv) z).elim
def z9Z {M:Int}{l h:List Geo.T3}{Q:DK}{X:XP}(x:Geo.Ar l h)(hM:∀ t∈l,Geo.Dv M t)(lo:∀ t∈l,Geo.Lo t)(tz:∀ t∈l,Tz t)(bw:∀ t∈l,Bt 8000 t.2.2)(hz:h.length<=2000)(q:Q (.bl true)):z14.run [pls3 h] Q X:=by
 walk_at "fn"
 ac_nf
 refine z5Q (zav rfl ?_)
 ac_nf
 refine⟨by rw[List.length_map]; exact szl' (by omega),?_⟩
 refine z32 (g:=fun _ =>.bl true) (fun p hp K hK => ?_) ?_
 ·ac_nf
  have mp:=x.sub p hp
  exact zcc (lo p mp) (tz p mp) (bw p mp) hK
 rw[show (h.map fun _=>D.bl true)=(h.map fun _=>true).map .bl by rw[List.map_map]; rfl]
 refine zgJ ?_
 rw[show (h.map fun _=>true).all id=true by simp]
 ac_nf
 refine z5Q (z49 ?_)
 ac_nf
 rw[List.length_map]
 refine zfx ⟨⟨by decide,by decide⟩,by omega,by omega⟩ ?_
 refine z2K (f:=fun(j:Nat)=>D.int (1+(j:Int))) (fun dn ρ=>∃ x1 x2:B,ρ=[.s (pls3 h),x1,x2]) ⟨_,_,rfl⟩ ?_ ?_
 ·rintro dn k r ρ e ⟨x1,x2,rfl⟩
  have hk:k+1 < h.length:=by
   have:=List.mem_range.mp (show k∈List.range ((h.length:Int) - 1).toNat by rw[e]; simp)
   omega
  have ev:h[k+1]? = some h[k+1]:=List.getElem?_eq_getElem hk
  have em:h[0]? = some h[0]:=List.getElem?_eq_getElem (by omega)
  have lx:=zdh x hM em ev
  have mv:=x.sub _ (List.mem_of_getElem? ev)
  have mm:=x.sub _ (List.mem_of_getElem? em)
  have am:atI h 0=some h[0]:=(z52 (l:=h) (k:=0) (by omega)).trans em
  have av:atI h (1+(k:Int))=some h[k+1]:=by rw[show 1+(k:Int)=((k+1:Nat):Int) by omega,z52 hk]; exact ev
  generalize h[k+1]=v at*
  generalize h[0]=m at*
  show Sm.run _ _ _ _ _
  ac_rfl
  ac_nf
  refine z3k (z2j am) ?_
  ac_nf
  refine z3k (z2j av) ?_
  ac_nf
  refine zaM (tz _ mm) (tz _ mv) lx ?_
  ac_nf
  refine z5Q (z49 ?_)
  ac_nf
  exact⟨_,_,rfl⟩
 rintro ρ ⟨x1,x2,rfl⟩
 ac_nf
 rw[List.length_map]
 refine z3n (fun _ => ?_) (fun h3 => ?_)
 ·ac_nf
  exact q
 ac_nf
 rw[List.length_map]
 refine zaR (by omega) (by omega) ?_
 rw[show ((h.length:Nat):Int).toNat=h.length by simp]
 have h3':3<=h.length:=by omega
 have ne:l≠[]:=fun z=>by rw[z] at x; rw[x.nil] at h3'; simp at h3'
 have is:=x.is hM ne
 refine z2K (f:=fun(j:Nat)=>D.int (j:Int)) (fun dn ρ=>∃ x1 x2:B,ρ=[.s (pls3 h),x1,x2]) ⟨_,_,rfl⟩ ?_ ?_
 ·rintro dn k r ρ e ⟨x1,x2,rfl⟩
  have hk:k < h.length:=List.mem_range.mp (by rw[e]; simp)
  have i2:(k+h.length - 2) % h.length < h.length:=Nat.mod_lt _ (by omega)
  have i1:(k+h.length - 1) % h.length < h.length:=Nat.mod_lt _ (by omega)
  have ea:=List.getElem?_eq_getElem i2
  have eb:=List.getElem?_eq_getElem i1
  have ec:=List.getElem?_eq_getElem hk
  have a2:atI h ((k:Int) - 2)=_:=(zhn (j:=2) hk (by omega)).trans ea
  have a1:atI h ((k:Int) - 1)=_:=(zhn (j:=1) hk (by omega)).trans eb
  have a0:atI h (k:Int)=_:=(z52 hk).trans ec
  have tn:=zbu is h3' hk ea eb ec
  have ma:=x.sub _ (List.mem_of_getElem? ea)
  have mb:=x.sub _ (List.mem_of_getElem? eb)
  have mc:=x.sub _ (List.mem_of_getElem? ec)
  generalize h[(k+h.length - 2) % h.length]=a at*
  generalize h[(k+h.length - 1) % h.length]=b at*
  generalize h[k]=c at*
  have t3:=zc1 (lo a ma).1 (lo b mb).1 ((Geo.z7u (hM a ma) (hM b mb) (hM c mc)).2.1.mpr tn)
  show Sm.run _ _ _ _ _
  ac_rfl
  ac_nf
  refine z3k (z2j a2) ?_
  ac_nf
  refine z3k (z2j a1) ?_
  ac_nf
  refine z4B (tz a ma) (tz b mb) ?_
  ac_nf
  refine z3k (z2j a1) ?_
  ac_nf
  refine z3k (z2j a0) ?_
  ac_nf
  refine z4B (tz b mb) (tz c mc) ?_
  ac_nf
  refine zaH (z6e (tz a ma) (tz b mb)) (z6e (tz b mb) (tz c mc)) ?_
  ac_nf
  refine t_no (by omega) ?_
  ac_nf
  refine z3k (z2j a0) ?_
  ac_nf
  refine zaJ (M:=M) (fun t ht=>hM t (x.sub t ht)) (hM c mc) (fun t ht=>lo t (x.sub t ht)) (lo c mc) (by omega) (fun t ht=>tz t (x.sub t ht)) (tz c mc) fun v hv => ?_
  have vt:v=true:=hv.mpr (is.in (List.mem_map_of_mem mc))
  subst vt
  ac_nf
  refine z5Q (z49 ?_)
  ac_nf
  exact⟨_,_,rfl⟩
 rintro ρ ⟨x1,x2,rfl⟩
 ac_nf
 exact q
def zcL (l:List Geo.T3):noL (pls3 l)=true:=by
 show noLs (l.map pl3)=true
 refine z6U fun d hd => ?_
 obtain⟨p,_,rfl⟩:=List.mem_map.mp hd
 rfl
def zcN (l:List Geo.T3):noD (pls3 l)=true:=by
 show noDs (l.map pl3)=true
 refine z6V fun d hd => ?_
 obtain⟨p,_,rfl⟩:=List.mem_map.mp hd
 rfl
def zhc {α:Type}{f:α->D}{l:List α}{k:Int}(h:0<=k):cutD (l.map f) none (some k)=(l.take k.toNat).map f:=by
 have hs:HT.sIx l.length l.length (some k)=min k.toNat l.length:=by
  show (if k < 0 then (k+(l.length:Int)).toNat else min k.toNat l.length)=_
  rw[if_neg (by omega)]
 rw[z7d,hs]
 show ((l.drop 0).take (min k.toNat l.length - 0)).map f=_
 rw[List.drop_zero,Nat.sub_zero]
 rcases Nat.le_total k.toNat l.length with z | z
 ·rw[Nat.min_eq_left z]
 ·rw[Nat.min_eq_right z,List.take_of_length_le z,List.take_length]
def zdZ {ns:List Int}{Q:DK}{X:XP}(q:∀ c,Q (.int c)):z15.run [.lst (ns.map .int),.int 0] Q X:=by
 walk_at "fn"
 ac_nf
 refine z3n (fun h => ?_) (fun h => ?_)
 ·ac_nf
  cases ns with
  | nil=>simp at h
  | cons a r=>
   have e:atI (a::r) ((0:Nat):Int)=some a:=by rw[z52 (by simp)]; rfl
   exact z3k (z2j (f:=D.int) e) (q a)
 ·ac_nf
  exact q 0
end Pu
namespace Pu
open PySem L2
def zdG {α β:Type}{f:α->Option β}{g:α->β}:∀ {ks:List α},(∀ k∈ks,f k=some (g k))->ks.filterMap f=ks.map g
 | [],_=>rfl
 | k::ks,h=>by rw[List.filterMap_cons,h k List.mem_cons_self,List.map_cons,zdG fun x hx=>h x (List.mem_cons_of_mem _ hx)]
end Pu
namespace Pu
open PySem L2 Mth
def zex {i k:Int}{Q:DK}{X:XP}(h:(-(2 ^ 62)<=i/\i < 2 ^ 62) /\ -(2 ^ 62)<=k/\k < 2 ^ 62)(q:Q (.lst ((List.range (k - i).toNat).map fun(j:Nat)=>D.int (i+(j:Int))))):z7L.run [.int i,.int k] Q X:=⟨h,q⟩
def zgq {l:List Geo.T3}{p:Geo.T3}{Q:DK}{X:XP}(h:p∈l)(q:Q (.bl false)):zbe.run [pl3 p,.lst (l.map pl3)] Q X:=by
 refine⟨Da.pl3 p,fun d hd => ?_,?_⟩
 ·obtain⟨y,_,rfl⟩:=List.mem_map.mp hd
  exact Da.pl3 y
 ·show Q (.bl (!(l.map pl3).any fun d=>deq d (pl3 p)))
  rw[show ((l.map pl3).any fun d=>deq d (pl3 p))=true from List.any_eq_true.mpr ⟨pl3 p,List.mem_map_of_mem h,by rw[z5G]; simp⟩]
  exact q
def zb7 {α:Type}{f:α->D}(l:List α):∃ l':List α,za3 (l.map f) none none (-1)=l'.map f/\l'.length=l.length/\∀ t,t∈l'↔t∈l:=by
 refine⟨l.reverse,?_,by simp,by simp⟩
 have e1:sliceRange ((l.length:Int) - 1) (-1) (-1)=(List.range l.length).map fun k=>l.length - 1 - k:=by
  unfold sliceRange
  dsimp only
  rw[if_neg (by decide)]
  have:(if (l.length:Int) - 1 > -1 then ((l.length:Int) - 1 - -1 - -1 - 1) / (- -1) else 0).toNat=l.length:=by
   split
   ·rw[show -(-1:Int)=1 from rfl,Int.ediv_one]; omega
   ·omega
  rw[this]
  refine List.map_congr_left fun k hk => ?_
  have:=List.mem_range.mp hk
  omega
 have e0:sliceBounds none none (some (-1)) (l.map f).length=((l.length:Int) - 1,-1,-1):=by rw[List.length_map]; rfl
 unfold za3
 rw[e0]
 dsimp only
 rw[e1,List.filterMap_map]
 apply List.ext_getElem?
 intro i
 have:∀ k∈List.range l.length,((fun x=>(l.map f)[x]?) ∘ fun k=>l.length - 1 - k) k=some ((l.reverse.map f).getD k .non):=fun k hk=>by
  have hk:=List.mem_range.mp hk
  show (l.map f)[l.length - 1 - k]? = _
  rw[List.getD_eq_getElem?_getD,List.getElem?_map,List.getElem?_map,List.getElem?_reverse hk,List.getElem?_eq_getElem (show l.length - 1 - k < l.length by omega)]
  rfl
 rw[zdG this,List.getElem?_map]
 rcases Nat.lt_or_ge i l.length with z | z
 ·rw[List.getElem?_range z,Option.map_some,List.getD_eq_getElem?_getD,List.getElem?_map,List.getElem?_reverse z,List.getElem?_eq_getElem (show l.length - 1 - i < l.length by omega)]
  rfl
 ·rw[List.getElem?_eq_none (by simpa using z),List.getElem?_eq_none (by simpa using z)]
  rfl
def zc4 {l:List Geo.T3}{Q:DK}(q:∀ l':List Geo.T3,l'.length=l.length->(∀ t,t∈l'↔t∈l)->Q (.lst (l'.map pl3))):slsD (.lst (l.map pl3)) none none (-1) Q:=by
 obtain⟨l',e,h1,h2⟩:=zb7 (f:=pl3) l
 refine⟨by decide,?_⟩
 show Q (D.lst (za3 (List.map pl3 l) none none (-1)))
 rw[e]
 exact q l' h1 h2
def zc8 {l:List Geo.T3}{n:Nat}{Q:DK}{X:XP}(hp:∀ t∈l,Pb n t)(hn:n<=80000)(hz:l.length<=1000)(ne:l≠[])(q:Q (.bl true)):z19.run [.lst (l.map pl3)] Q X:=by
 have lo:∀ t∈l,Geo.Lo t:=fun t ht=>(hp t ht).lo
 have tz:∀ t∈l,Tz t:=fun t ht=>(hp t ht).tz (by omega)
 have bw:∀ t∈l,Bt 8000 t.2.2:=fun t ht=>(hp t ht).bw.le (by decide)
 obtain⟨M,_,hM⟩:=Geo.z9K (l:=l) fun t ht=>(lo t ht).1
 walk_at "fn"
 ac_nf
 refine z9f (l:=l) (.inl rfl) tz lo (by omega) fun h x => ?_
 have hl:=zhp x lo
 have is:=x.is hM ne
 refine⟨Safe.of_noL (zcL h) (zcN h) _,?_⟩
 ac_rfl
 ac_nf
 refine z9Z x hM lo tz bw (by omega) ?_
 ac_nf
 refine z5Q (z49 ?_)
 ac_nf
 refine z2K (f:=pl3) (fun dn ρ=>∃ x2 x3:B,ρ=[.s (.lst (l.map pl3)),.s (pls3 h),x2,x3]) ⟨_,_,rfl⟩ ?_ ?_
 ·rintro dn p r ρ e ⟨x2,x3,rfl⟩
  have mp:p∈h:=by rw[e]; simp
  show Sm.run _ _ _ _ _
  ac_rfl
  ac_nf
  refine zgq (x.sub p mp) ?_
  refine t_bl (fun w=>absurd w (by decide)) (fun _ => ?_)
  ac_nf
  exact⟨_,_,rfl⟩
 rintro ρ ⟨x2,x3,rfl⟩
 ac_nf
 refine z2K (f:=pl3) (fun dn ρ=>∃ x2 x3:B,ρ=[.s (.lst (l.map pl3)),.s (pls3 h),x2,x3]) ⟨_,_,rfl⟩ ?_ ?_
 ·rintro dn p r ρ e ⟨x2,x3,rfl⟩
  have mp:p∈l:=by rw[e]; simp
  show Sm.run _ _ _ _ _
  ac_rfl
  ac_nf
  refine zaJ (M:=M) (fun t ht=>hM t (x.sub t ht)) (hM p mp) (fun t ht=>lo t (x.sub t ht)) (lo p mp) (by omega) (fun t ht=>tz t (x.sub t ht)) (tz p mp) fun v hv => ?_
  have vt:v=true:=hv.mpr (is.in (List.mem_map_of_mem mp))
  subst vt
  ac_nf
  refine z5Q (z49 ?_)
  ac_nf
  exact⟨_,_,rfl⟩
 rintro ρ ⟨x2,x3,rfl⟩
 ac_nf
 refine zc4 fun l' hl' hm' => ?_
 ac_nf
 rw[zhc (by decide)]
 refine z9x (by simp; exact szl (by omega)) ?_
 rw[<- List.map_append]
 ac_nf
 have sub:∀ t,t∈l'++l.take (100:Int).toNat↔t∈l:=fun t=>by
  rw[List.mem_append,hm']
  exact⟨fun z=>z.elim id List.mem_of_mem_take,.inl⟩
 refine z9f (l:=l'++l.take (100:Int).toNat) (.inl rfl) (fun t ht=>tz t ((sub t).mp ht)) (fun t ht=>lo t ((sub t).mp ht)) (by rw[List.length_append,hl',List.length_take]; omega) fun h' x' => ?_
 rw[<- x.eq x' lo fun t=>(sub t).symm]
 ac_nf
 refine zeA (Da.pls3 h) (Da.pls3 h) ?_
 rw[show deq (.tup (h.map pl3)) (.tup (h.map pl3))=decide (h=h) from z9L h h,decide_eq_true rfl]
 exact q
def zaO {cs:List Int}{f:Int}{d0 d1:D}(hc:1<=cs.length/\cs.length<=200)(hf:f=0\/f=57):((Sm.set 4 (Ex.op z0P [Ex.v 3,Ex.v 2])).seq ((Sm.ifs ((Ex.op pNe [Ex.op pLen [Ex.op z10 [Ex.op pTup []]],Ex.c (D.int 0)]).or (Ex.op (pIsi "tuple") [Ex.op z10 [Ex.op pTup []]]).not) (Sm.ret (Ex.c (D.bl false))) Sm.skip).seq ((Sm.set 5 (Ex.op pIx [Ex.v 4,Ex.c (D.int 0)])).seq (Sm.ret ((Ex.op pEq [Ex.op z10 [Ex.op pTup [Ex.v 5]],Ex.op pTup [Ex.v 5]]).and (Ex.op z19 [Ex.v 4])))))).run [.s d0,.s d1,.s (.int f),.s (.lst (cs.map .int)),.n,.n] (fun _=>D.non=D.bl true) (fun d=>d=D.bl true) fun _=>False:=by
 ac_nf
 refine zcb hf (by omega) fun ts t1 t2 => ?_
 refine⟨by walk_at "sf",?_⟩
 ac_rfl
 have hp:∀ t∈ts,Pb 20000 t:=fun t ht=>(t2 t ht).le (by omega)
 have emp:∀ {Q:DK}{X:XP},Q (.tup [])->z10.run [.tup []] Q X:=fun q=>z9f (l:=[]) (.inl rfl) (by simp) (by simp) (by simp) fun h x=>by rw[x.nil]; exact q
 obtain⟨a,r,rfl⟩:∃ a r,ts=a::r:=by
  cases ts with
  | nil=>simp at t1; omega
  | cons a r=>exact⟨a,r,rfl⟩
 ac_nf
 refine emp ?_
 ac_nf
 refine t_bl (fun w=>absurd w (by decide)) (fun _ => ?_)
 ac_nf
 refine emp ?_
 ac_nf
 refine z5Q (zav rfl ?_)
 ac_nf
 refine z3k (z2j (f:=pl3) (l:=a::r) (k:=0) (x:=a) (z52 (l:=a::r) (k:=0) (by simp))) ?_
 refine⟨by walk_at "sf",?_⟩
 ac_rfl
 ac_nf
 have pa:=hp a (by simp)
 refine z9f (l:=[a]) (.inl rfl) (fun t ht=>by rw[List.mem_singleton.mp ht]; exact pa.tz (by omega)) (fun t ht=>by rw[List.mem_singleton.mp ht]; exact pa.lo) (by simp) fun h x => ?_
 have hh:h=[a]:=by
  obtain⟨rl,pw,hm,rfl⟩:=x
  have e:rl=[a]:=by
   match rl,pw,hm with
   | [],_,hm=>exact absurd ((hm a).mpr (by simp)) (by simp)
   | [b],_,hm=>rw[List.mem_singleton.mp ((hm b).mp (by simp))]
   | b::c::t,pw,hm=>
    have eb:=List.mem_singleton.mp ((hm b).mp (by simp))
    have ec:=List.mem_singleton.mp ((hm c).mp (by simp))
    have:=(List.pairwise_cons.mp pw).1 c (by simp)
    rw[eb,ec] at this
    unfold Geo.Lx3 at this
    omega
  rw[e]; rfl
 rw[hh]
 ac_nf
 refine zeA (Da.pls3 [a]) (Da.pls3 [a]) ?_
 rw[show deq (.tup ([a].map pl3)) (.tup [pl3 a])=decide ([a]=[a]) from z9L [a] [a],decide_eq_true rfl]
 refine z49 ?_
 ac_nf
 exact zc8 (l:=a::r) hp (by omega) (by omega) (by simp) rfl
def zeE (ns:List Int)(h:ns.length<=63):z5F.run [.lst (ns.map .int)] (fun d=>d = .bl true) (fun _=>False):=by
 walk_at "fn"
 ac_nf
 refine zdZ fun c => ?_
 ac_nf
 rw[z7d]
 obtain⟨ys,hy,e⟩:∃ ys:List Int,ys.length<=63/\ys=(ns.drop (HT.sIx ns.length 0 (some 1))).take (HT.sIx ns.length ns.length (some 63) - HT.sIx ns.length 0 (some 1)):=⟨_,by simp; omega,rfl⟩
 rw[<- e]
 clear e
 refine z9x (by simp; exact szl (by omega)) ?_
 rw[show [D.int (c / 2)]++ys.map D.int=(c / 2::ys).map D.int from rfl]
 have hc:1<=(c / 2::ys).length/\(c / 2::ys).length<=64:=by simp; omega
 generalize c / 2::ys=cs at*
 have hf:57*(c % 2)=0\/57*(c % 2)=57:=by omega
 generalize 57*(c % 2)=f at*
 refine⟨by walk_at "sf",?_⟩
 ac_rfl
 ac_nf
 refine z3n (fun _ => ?_) (fun _ => ?_)
 ·ac_nf
  refine z3n (fun _ => ?_) (fun _ => ?_)
  ·ac_nf
   refine zex ⟨⟨by decide,by decide⟩,by decide,by decide⟩ ?_
   ac_nf
   refine⟨by rw[List.length_map,List.length_range]; decide,?_⟩
   refine z32 (f:=fun j:Nat=>D.int (1+(j:Int))) (g:=fun j:Nat=>D.int (c+7919*(1+(j:Int)))) (fun j hj K hK => ?_) ?_
   ·have hj:=List.mem_range.mp hj
    have hj':j < 120:=hj
    ac_nf
    exact hK
   ac_nf
   refine z9x (by simp; exact szl (by omega)) ?_
   rw[show ((List.range ((121:Int) - 1).toNat).map fun j:Nat=>D.int (c+7919*(1+(j:Int))))=((List.range 120).map fun j:Nat=>c+7919*(1+(j:Int))).map D.int by rw[List.map_map]; rfl, <- List.map_append]
   refine⟨by walk_at "sf",?_⟩
   ac_rfl
   exact zaO (by simp; omega) hf
  ·ac_nf
   exact zaO (by omega) hf
 ·refine t_bl (fun w=>absurd w (by decide)) (fun _ => ?_)
  ac_nf
  exact zaO (by omega) hf
end Pu
namespace Pu
open PySem PySem.Spec PyProof.Rows L2
def Std (K:W.Frag)(n:Str)(st:Stmt)(f:Addr):Prop:=∃ (oc:Value) (od:Option Addr) (sl:Array (Option Value)) (kV dc pm:Value) (an:Option Addr) (cd ct:Value),
 PySem.W.nsIn K mainGlobals n=some (some (.ref f))/\K.lookup f=some ⟨oc,od,.func (PySem.W.fnOf n n (z3h st) (z2g st) (z00 st) .none kV dc pm an cd ct),sl⟩/\PySem.W.codeIn K cd n=true/\PySem.W.keepIn K (.ref f)=true
def Std.mk {K:W.Frag}{n:Str}{st:Stmt}{f:Addr}{oc:Value}{od:Option Addr}{sl:Array (Option Value)}{kV dc pm:Value}{an:Option Addr}{cd ct:Value}(a:PySem.W.nsIn K mainGlobals n=some (some (.ref f)))(l:K.lookup f=some ⟨oc,od,.func (PySem.W.fnOf n n (z3h st) (z2g st) (z00 st) .none kV dc pm an cd ct),sl⟩)(c:PySem.W.codeIn K cd n=true)(k:PySem.W.keepIn K (.ref f)=true):Std K n st f:=⟨oc,od,sl,kV,dc,pm,an,cd,ct,a,l,c,k⟩
section
variable {P:Program}{w:World}{K:W.Frag}{mg:Str->Option Value}{h base:Heap}{CX:CXT}{k:Nat}{n:Str}{st:Stmt}{f fa:Addr}{ps:List Str}{sp:Sp}
def z1h (X:K.In h)(G:h.Ns mainGlobals mg)(d:Std K n st f)
  (hb:∀ (kV dc pm:Value) (an:Option Addr) (cd ct:Value) (us:List Value),us.length=ps.length->bindArgs (PySem.W.fnOf n n (z3h st) (z2g st) (z00 st) .none kV dc pm an cd ct) ⟨us,[]⟩=pure (ps.zip us))
  (ok:∀ fd,Fun K n n st f fd->FnOk P w K mg base CX k f fd ps sp):Cal P w K mg base CX k n ps sp:=by
 obtain⟨oc,od,sl,kV,dc,pm,an,cd,ct,a,l,c,kk⟩:=d
 have F:=zdF (st:=st) l c kk
 exact⟨_,_,ok _ F,PySem.W.mg_of X G a,kk,F.binds (ps:=ps) hb⟩
def zf6 {x:Str}(X:K.In h)(G:h.Ns mainGlobals mg)(d:Std K n st f)(hfa:mg n=some (.ref fa))
  (hb:∀ (kV dc pm:Value) (an:Option Addr) (cd ct:Value) (s:Shared) (v:Value),BindsTo s (PySem.W.fnOf n n (z3h st) (z2g st) (z00 st) .none kV dc pm an cd ct) ⟨[v],[]⟩ [(x,v)])
  (ok:∀ base:Heap,K.In base->base.Ns mainGlobals mg->∀ fd,Fun K n n st fa fd->FnOk P w K mg base CX k fa fd [x] sp):
  ∃ fd:FuncData,(∀ (s:Shared) (v:Value),BindsTo s fd ⟨[v],[]⟩ [(x,v)])/\∀ base:Heap,K.In base->base.Ns mainGlobals mg->FnOk P w K mg base CX k fa fd [x] sp:=by
 obtain⟨oc,od,sl,kV,dc,pm,an,cd,ct,a,l,c,kk⟩:=d
 cases hfa.symm.trans (PySem.W.mg_of X G a)
 exact⟨_,fun s v=>hb kV dc pm an cd ct s v,fun base kb nb=>ok base kb nb _ (zdF (st:=st) l c kk)⟩
end
end Pu
namespace Tim
open PySem PyProof.Rows PySem.W HT Tab
section
variable {prog:Program}{w:World}{A:Around}{E:Value->Shared->Prop}{s:Shared}
structure KI (a kS:Addr)(e1:Nat)(kz:List (List Int))(ks:List Value)(s':Shared):Prop where
 hasA:s'.heap.get? a=some (seqObj "list" #[] e1)
 hasK:∃ e,s'.heap.get? kS=some (seqObj "list" ks.toArray e)
 tell:∀ (i:Nat) u k,ks[i]? = some u->kz[i]? = some k->TI s'.heap u k
def KOut (kz:List (List Int))(vs out:List Value):Prop:=∃ ps:List (List Int × Value),ps.Perm (kz.zip vs)/\out=ps.map Prod.snd/\ps.Pairwise (fun p q=>HT.z0r q.1 p.1=false)
def zdg {ks vs:List Value}{key:Value->List Int}(hk:∀ v∈ks,TI s.heap v (key v))(b:Bool):Asks (model prog w) A s (tuples' b) (ks.toArray.zip vs.toArray) (fun p=>rkL (ks.map key) (key p.1)):=by
 intro x y hx hy Q E h
 rw[ksk_zip] at hx hy
 have mx:x.1∈ks:=(List.of_mem_zip (b:=x.2) hx).1
 have my:y.1∈ks:=(List.of_mem_zip (b:=y.2) hy).1
 rw[<- z9g (List.mem_map.mpr ⟨_,mx,rfl⟩) (List.mem_map.mpr ⟨_,my,rfl⟩)] at h
 obtain⟨a1,o1,i1,n1,e1,g1,c1,d1,k1⟩:=hk _ mx
 obtain⟨a2,o2,i2,n2,e2,g2,c2,d2,k2⟩:=hk _ my
 rw[e1] at h k1
 rw[e2] at h k2
 rw[e1,e2]
 exact kat_lt g1 d1 g2 d2 (z44 0 k1 k2 (by rw[<- IntsAre.length k1, <- IntsAre.length k2,Array.length_toList,Array.length_toList]) h)
def zeH {a kS:Addr}{e1:Nat}{kz:List (List Int)}{ks vs:List Value}{P:PySem.Fin->Shared->Prop}(hka:kS≠a)(I:KI a kS e1 kz ks s)(hl:kz.length=vs.length)(hl':ks.length=vs.length)(hne:∀ k∈kz,k≠[])(hz:vs.length<=sizeLine)
  (h:∀ out:List Value,out.length=vs.length->KOut kz vs out->P (.done (.ret .none)) { s with heap:=(s.heap.update kS (Obj.mapSeq fun _ => #[])).update a (Obj.mapSeq fun _=>out.toArray) }):
  wpAny (model prog w) A (ksk_end a false vs.toArray e1 (.ref kS) ks.toArray) P E s:=by
 have hti:∀ v∈ks,TI s.heap v (z2y s.heap v)/\z2y s.heap v∈kz:=fun v hv=>by
  obtain⟨i,hi⟩:=List.getElem?_of_mem hv
  have hil:i < kz.length:=by
   have:=(List.getElem?_eq_some_iff.mp hi).1
   omega
  have t:=I.tell i v _ hi (List.getElem?_eq_getElem hil)
  rw[z4n t]
  exact⟨t,List.getElem_mem _⟩
 have hkz:ks.map (z2y s.heap)=kz:=by
  refine List.ext_getElem? fun i => ?_
  rw[List.getElem?_map]
  by_cases hi:i < ks.length
  ·rw[List.getElem?_eq_getElem hi,List.getElem?_eq_getElem (show i < kz.length by omega),Option.map_some,z4n (I.tell i _ _ (List.getElem?_eq_getElem hi) (List.getElem?_eq_getElem (show i < kz.length by omega)))]
  ·rw[List.getElem?_eq_none (by omega),List.getElem?_eq_none (by omega),Option.map_none]
 obtain⟨eK,hK⟩:=I.hasK
 have hA1:(s.heap.update kS (Obj.mapSeq fun _=>(#[]:Array Value))).get? a=some (seqObj "list" #[] e1):=by
  rw[Heap.get?_update_ne _ _ _ _ hka.symm]
  exact I.hasA
 have tail:∀ st:SortSt,failedOf st=none->(arrOf st).Perm (ks.toArray.zip vs.toArray)->Up (fun p=>rkL (ks.map (z2y s.heap)) (z2y s.heap p.1)) (arrOf st).toList->wpAny (model prog w) A (ksk_tail a false e1 (.ref kS) st) P E s:=fun st hf hp hu=>by
  have hout:(arrOf st).map (·.2)=(((arrOf st).toList.map (·.2)).toArray:Array Value):=by
   apply Array.toList_inj.mp
   rw[Array.toList_map]
  have hlen:((arrOf st).toList.map (·.2)).length=vs.length:=by
   rw[List.length_map,Array.length_toList,hp.size_eq,Array.size_zip,List.size_toArray,List.size_toArray,hl',Nat.min_self]
  have hpl:(arrOf st).toList.Perm (ks.zip vs):=by
   have:=Array.perm_iff_toList_perm.mp hp
   rw[ksk_zip] at this
   exact this
  unfold ksk_tail
  try dsimp only
  rw[hout]
  refine wpAny_bind (listUpdate_at hK rfl ?_ (by rw[List.size_toArray]; omega) (Nat.zero_le _))
  refine wpAny_bind (wpAny_letGo ?_)
  refine wpAny_bind (seqEpoch_at hA1 rfl ?_)
  refine wpAny_bind (listUpdate_at hA1 rfl ?_ (Nat.zero_le _) (by show (List.toArray _).size<=_; rw[List.size_toArray,hlen]; omega))
  rw[hf]
  simp only[bne_self_eq_false,Bool.false_eq_true,if_false]
  refine wpAny_pure (h _ hlen ⟨(arrOf st).toList.map fun p=>(z2y s.heap p.1,p.2),?_,?_,?_⟩)
  ·refine(hpl.map _).trans ?_
   rw[<- hkz,List.zip_map_left]
   exact List.Perm.refl _
  ·rw[List.map_map]; rfl
  ·rw[List.pairwise_map]
   refine List.Pairwise.imp_of_mem (fun {x y} hx hy hxy => ?_) hu
   have mx:x.1∈ks:=(List.of_mem_zip (b:=x.2) (hpl.mem_iff.mp hx)).1
   have my:y.1∈ks:=(List.of_mem_zip (b:=y.2) (hpl.mem_iff.mp hy)).1
   show HT.z0r (z2y s.heap y.1) (z2y s.heap x.1)=false
   rw[z9g (List.mem_map.mpr ⟨_,my,rfl⟩) (List.mem_map.mpr ⟨_,mx,rfl⟩)]
   exact decide_eq_false (Nat.not_lt.mpr hxy)
 have hzs:(ks.toArray.zip vs.toArray).size=vs.length:=by rw[Array.size_zip,List.size_toArray,List.size_toArray,hl',Nat.min_self]
 unfold ksk_end
 dsimp only
 rw[if_neg Bool.false_ne_true,if_neg Bool.false_ne_true]
 by_cases h2:vs.toArray.size < 2
 ·rw[if_pos h2,if_pos h2]
  refine wpAny_bind (wpAny_pure ?_)
  rw[StateT.run_pure]
  refine wpAny_bind (wpAny_pure ?_)
  refine tail _ rfl (Array.Perm.refl _) ?_
  refine z9o ?_
  show (ks.toArray.zip vs.toArray).toList.length < 2
  rw[Array.length_toList,hzs]
  simpa using h2
 ·rw[if_neg h2,if_neg h2]
  rw[List.size_toArray] at h2
  refine wpAny_bind (z9D (key:=z2y s.heap) (fun v hv=>⟨(hti v hv).1,hne _ (hti v hv).2⟩) (by omega) ?_)
  refine wpAny_bind (wpAny_mono (z4P (a₀:=ks.toArray.zip vs.toArray) (κ:=tuples' true) (rk:=fun p=>rkL (ks.map (z2y s.heap)) (z2y s.heap p.1)) (st:=SortSt.mk' (tuples' true) (ks.toArray.zip vs.toArray) #[] 7 none)
   (Q:=fun _ st'=>TB (tuples' true) (ks.toArray.zip vs.toArray) st'/\Seg (fun p=>rkL (ks.map (z2y s.heap)) (z2y s.heap p.1)) (arrOf st') 0 (ks.toArray.zip vs.toArray).size)
   (zdg (fun v hv=>(hti v hv).1) true) ⟨rfl,rfl,Array.Perm.refl _⟩ rfl (by rw[hzs]; omega) fun st' b1 b2=>⟨b1,b2⟩) ?_ fun _ _ e=>e)
  rintro⟨⟨⟩,st'⟩ s' ⟨rfl,hB,hs⟩
  dsimp only at hB hs ⊢
  refine tail _ hB.failed hB.perm ?_
  have:=z9d hs (by rw[hB.perm.size_eq]; exact Nat.le_refl _)
  rw[<- hB.perm.size_eq] at this
  simpa using this
def zc3 {a:Addr}{f:Value}{vs:List Value}{n:Nat}{P:PySem.Fin->Shared->Prop}(ho:s.heap.get? a=some (seqObj "list" vs.toArray n))(hz:vs.length < sizeLine)
  (I:Nat->List Value->Shared->Prop)
  (start:∀ e1,(s.heap.update a (Obj.mapSeq fun _=>(#[]:Array Value))).get? a=some (seqObj "list" #[] e1)->I e1 [] { s with heap:=((s.heap.update a (Obj.mapSeq fun _ => #[])).push (seqObj "tuple" vs.toArray 0)).push (seqObj "list" #[] 0) })
  (turn:∀ e1 (i:Nat) v ks s',vs[i]? = some v->ks.length=i->I e1 ks s'->
   wpAny (model prog w) A (call f [v]) (fun u s''=>(∃ e,s''.heap.get? (s.heap.objs.size+1)=some (seqObj "list" ks.toArray e))/\I e1 (ks++[u]) { s'' with heap:=s''.heap.update (s.heap.objs.size+1) (Obj.mapSeq (·.push u)) }) (fun _ _=>False) s')
  (fin:∀ e1 ks s',ks.length=vs.length->I e1 ks s'->∃ kz:List (List Int),kz.length=vs.length/\(∀ k∈kz,k≠[])/\KI a (s.heap.objs.size+1) e1 kz ks s'/\
   ∀ out:List Value,out.length=vs.length->KOut kz vs out->P (.done (.ret .none)) { s' with heap:=(s'.heap.update (s.heap.objs.size+1) (Obj.mapSeq fun _ => #[])).update a (Obj.mapSeq fun _=>out.toArray) }):
  wpAny (model prog w) A (ksk_tree a f false) P E s:=by
 have ha:a < s.heap.objs.size:=Heap.lt_size ho
 obtain⟨e1,ho1⟩:∃ e1,(s.heap.update a (Obj.mapSeq fun _=>(#[]:Array Value))).get? a=some (seqObj "list" #[] e1):=⟨_,get?_update_seq ho fun _ => #[]⟩
 have I0:=start e1 ho1
 have hkS:((s.heap.update a (Obj.mapSeq fun _=>(#[]:Array Value))).push (seqObj "tuple" vs.toArray 0)).objs.size=s.heap.objs.size+1:=by rw[size_push',Heap.size_update]
 unfold ksk_tree
 refine wpAny_bind (listItems_at ho rfl ?_)
 refine wpAny_bind (listUpdate_at ho rfl ?_ (by rw[List.size_toArray]; omega) (Nat.zero_le _))
 refine wpAny_bind (seqEpoch_at ho1 rfl ?_)
 refine wpAny_bind (wpAny_newTuple ?_ (by show vs.length<=_; omega))
 refine wpAny_bind (wpAny_newList ?_ (Nat.zero_le _))
 refine wpAny_holding ?_
 show wpAny (model prog w) A (ksk_rest a f false vs.toArray e1 (.ref ((s.heap.update a (Obj.mapSeq fun _=>(#[]:Array Value))).push (seqObj "tuple" vs.toArray 0)).objs.size)) P E { s with heap:=((s.heap.update a (Obj.mapSeq fun _ => #[])).push (seqObj "tuple" vs.toArray 0)).push (seqObj "list" #[] 0) }
 rw[hkS]
 unfold ksk_rest
 refine wpAny_bind (wpAny_rule ?_)
 rw[<- Array.forIn_toList]
 refine wpAny_bind (ksk_fold (fun i s'=>∃ ks,ks.length=i/\I e1 ks s'/\∃ e,s'.heap.get? (s.heap.objs.size+1)=some (seqObj "list" ks.toArray e)) vs 0 _ ⟨[],rfl,I0,0,by rw[<- hkS]; exact Heap.get?_push_size _ rfl⟩ ?step ?done)
 case step=>
  rintro j x s' hx ⟨ks,hk,hI,_⟩
  simp only[Nat.zero_add] at hk ⊢
  have hj:j < vs.length:=(List.getElem?_eq_some_iff.mp hx).1
  refine wpAny_bind (wpAny_attempt (wpAny_mono (turn e1 j x ks s' hx hk hI) (fun u s'' he => ?_) fun _ _ hF=>hF.elim))
  obtain⟨⟨e,hK⟩,hI'⟩:=he
  try dsimp only
  refine wpAny_bind (listUpdate_at hK rfl ?_ (by rw[List.size_toArray]; omega) (Nat.le_trans (Nat.le_of_eq (Array.size_push ..)) (by rw[List.size_toArray]; omega)))
  exact wpAny_pure ⟨rfl,ks++[u],by simp[hk],hI',_,by rw[get?_update_seq hK (·.push u)]; simp; rfl⟩
 case done=>
  rintro s' ⟨ks,hk,hI,e,hK⟩
  obtain⟨kz,hl,hne,K,h⟩:=fin e1 ks s' (by omega) hI
  try dsimp only
  refine wpAny_bind (listItems_at hK rfl ?_)
  exact zeH (Nat.ne_of_gt (Nat.lt_succ_of_lt ha)) K hl (by omega) hne (by omega) h
end
end Tim
namespace L2
open PySem PySem.Spec PyProof.Rows
def zbT (X:Cx)(pos:Pos):Prop:=∃ c P,X.env.code = .ref c/\PySem.W.codeHdIn X.K c P=true/\(tsOf X.K).lookup P=some (pos.line,pos.col,X.env.qual++"<lambda>")
abbrev lamO (X:Cx)(params:Arguments)(body:Expr)(scope:Scope)(c':Addr)(ctv:Value):Obj:=PySem.W.kla_obj "<lambda>" (X.env.qual++"<lambda>") params body scope (z2m X.env scope.names []) ((X.mg "__name__").getD .none) c' ctv
def LamF (X:Cx)(params:Arguments)(body:Expr)(scope:Scope)(f c':Addr)(H:Hp):Prop:=∃ ctv oc vs t,H f=some (.frz (lamO X params body scope c' ctv) (.own f))/\H c'=some (.frz oc (.own c'))/\oc.data = .fields vs/\vs[1]? = some (.str (X.env.qual++"<lambda>") t)
def LamF.same {X:Cx}{params:Arguments}{body:Expr}{scope:Scope}{f c':Addr}{H H':Hp}(h:LamF X params body scope f c' H)(g:∀ b o,H b=some o->H' b=some o):LamF X params body scope f c' H':=
 let ⟨ctv,oc,vs,t,h1,h2,h3⟩:=h; ⟨ctv,oc,vs,t,g _ _ h1,g _ _ h2,h3⟩
def z4M {t:Nat × Nat × Str}{more:Array Value}{i:Nat}(h:i < 3):(encT t++more)[i]? = (encT t)[i]? := Array.getElem?_append_left (show i < (encT t).size from h)
section
variable {X:Cx}{pins:List (Addr × Obj)}{σ:St}{H:Hp}{s:Shared}{params:Arguments}{body:Expr}{scope:Scope}{pos:Pos}{N':List Str}{nt:Nat}{js:List Nat}
def zcV {E:Value->Shared->Prop}{Q:VK}(I:Inv X pins σ H s)(hl:zbT X pos)(cp:z3D X N' nt js scope)(hdef:defaultsOf params X.env=([],[]))
  (h:∀ f c' H',LamF X params body scope f c' H'->Same H H'->Q (.ref f) H'):wpAny (model X.prog X.w) X.A (eval (.Lambda params body scope pos) X.env) (EP X pins σ Q) E s:=by
 obtain⟨c,P,hcode,hhd,hts⟩:=hl
 obtain⟨more,hHP⟩:=I.tbs P _ hts
 have CH:PySem.W.CodeHd s.heap c P:=PySem.W.codeHd_of_K I.kIn hhd
 have hg:s.heap.Ns mainGlobals X.mg:=I.mod.glob.keeps I.bk
 have base_ne:∀ b o,X.base.get? b=some o->b≠P:=fun b o e z=>by
  have:=(I.bs b o e).2
  rw[z,hHP] at this; cases this
 have hgP:mainGlobals≠P:=by
  obtain⟨o,es,ep,e,_⟩:=I.mod.glob
  exact base_ne _ _ e
 have hb:s.heap.BuiltinsAt X.mg P:=by
  obtain⟨bm,ob,b1,b2,b3,b4,b5,b6⟩:=I.mod.bm
  obtain⟨o,es,ep,e,hd,_⟩:=I.mod.glob
  exact⟨bm,ob,b1,b2,(fun z=>by rw[z,e] at b3; cases b3; rw[hd] at b6; cases b6),base_ne _ _ b3,I.bk _ _ b3,b4,b5,b6⟩
 have hcl:=z4u (cp.cells I)
 refine PySem.W.kla_eval hdef ?_
 rcases I.hok P _ hHP with hP | ⟨l,cl,q,t,c',oc,vs,u,e1,e2,e3,hP,hc',hd,hv⟩
 ·refine PySem.W.kla_makeFunction (ps := #[]) hcl I.ok.glob hg hcode CH hP trivial rfl hgP hb fun c' ctv h' tk hx hge hlt hrec htb => ?_
  obtain⟨c2,oc,vs,t,ec,hoc,hd,hv⟩:=hrec
  cases ec
  have cn:H c'=none:=I.hok.fresh hge
  have hsz:s.heap.objs.size<=h'.objs.size:=Nat.le_trans hge (Nat.le_of_lt hlt)
  generalize hf0:h'.objs.size=f at*
  have fn:H f=none:=I.hok.fresh hsz
  have ncf:c'≠f:=Nat.ne_of_lt hlt
  generalize hlo:lamO X params body scope c' ctv=lo
  have hlo':PySem.W.kla_obj "<lambda>" (X.env.qual++"<lambda>") params body scope (z2m X.env scope.names []) ((X.mg "__name__").getD .none) c' ctv=lo:=hlo
  rw[hlo']
  generalize hh2:h'.push lo=h2
  have up:∀ b o,h'.get? b=some o->h2.get? b=some o:=fun b o e=>hh2 ▸ Heap.get?_push_of_some _ e
  have hfo:h2.get? f=some lo:=by rw[<- hh2, <- hf0]; exact Heap.get?_push_size _ (hlo ▸ rfl)
  have keep:∀ b o,b≠P->s.heap.get? b=some o->h2.get? b=some o:=fun b o n e=>up b o (hx b o n e)
  let H1:Hp:=upd H c' (.frz oc (.own c'))
  have f1:H1 f=none:=by show upd H c' _ f=none; rw[z09 ncf.symm]; exact fn
  have neH:∀ b v,H b=some v->upd H1 f (.frz lo (.own f)) b=some v:=fun b v e=>by
   rw[z09 (z0t e fn)]
   show upd H c' _ b=_
   rw[z09 (z0t e cn)]; exact e
  have U:Un X.fs [] H (upd H1 f (.frz lo (.own f))) s.heap h2:=⟨fun b o e n _ _=>keep b o (fun z=>by rw[z,hHP] at n; cases n) e,fun b o e n _ _=>⟨o.slots,keep b o (fun z=>by rw[z,hHP] at n; cases n) e⟩,fun b o e n _=>by
    rw[z09 (Nat.ne_of_lt (Nat.lt_of_lt_of_le (Heap.lt_size e) hsz))]
    show upd H c' _ b=_
    rw[z09 (Nat.ne_of_lt (Nat.lt_of_lt_of_le (Heap.lt_size e) hge))]; exact n,fun b o e _=>by
    by_cases hb:b=P
    ·exact⟨_,hb ▸ up _ _ htb⟩
    ·exact⟨o,keep b o hb e⟩,fun b xs e=>neH b _ e,fun b o u e=>neH b _ e,fun b ps e=>⟨#[],by rw[neH b _ e]; simp⟩⟩
  have K:HOk X.prog X.w (upd H1 f (.frz lo (.own f))) h2:=fun b v e=>by
   by_cases hbf:b=f
   ·subst hbf; rw[z0i] at e; cases e; exact⟨hfo,_,hfo⟩
   rw[z09 hbf] at e
   by_cases hbc:b=c'
   ·subst hbc
    have e':upd H b _ b=some v:=e
    rw[z0i] at e'; cases e'; exact⟨up _ _ hoc,_,up _ _ hoc⟩
   have e':upd H c' _ b=some v:=e
   rw[z09 hbc] at e'
   by_cases hbP:b=P
   ·subst hbP
    rw[hHP] at e'
    cases e'
    exact .inr ⟨rawInt pos.line,rawInt pos.col,_,0,c',oc,vs,t,z4M (by decide),z4M (by decide),z4M (by decide),up _ _ (by simpa using htb),by rw[z09 ncf]; exact z0i,hd,hv⟩
   ·exact(I.hok b v e').stay (fun c2 v2 hc q=>keep c2 v2 (by
     rcases hc with rfl | hc
     ·exact hbP
     ·intro z; rw[z,hHP] at hc; cases hc) q) (fun c q=>neH _ _ q) (fun c xs q=>neH _ _ q) fun c _ _ q=>neH _ _ q
  exact⟨.ref f,_,I.un (t':=tk) U K,rfl,h f c' _ ⟨ctv,oc,vs,t,by rw[z0i,hlo],by rw[z09 ncf]; exact z0i,hd,hv⟩ neH⟩
 ·have e1':l=rawInt pos.line:=Option.some.inj (((z4M (by decide)).symm.trans e1).symm)
  have e2':cl=rawInt pos.col:=Option.some.inj (((z4M (by decide)).symm.trans e2).symm)
  have e3':X.env.qual++"<lambda>"=q:=by
   have:(encT (pos.line,pos.col,X.env.qual++"<lambda>")++more)[2]? = some (.str (X.env.qual++"<lambda>") 0):=z4M (by decide)
   rw[this] at e3
   injection e3 with e3
   injection e3
  subst e1' e2'
  subst e3'
  refine PySem.W.kla_makeFunctionHit (ps := #[rawInt pos.line,rawInt pos.col,.ref c']) (cv :=.ref c') hcl I.ok.glob hg hcode CH hP (by simp[TriplesOk,rawInt]) (by simp[codeAmong,rawInt]) hb fun ctv h' tk hk hsz => ?_
  generalize hlo:lamO X params body scope c' ctv=lo
  have hlo':({ cls :=.type "function",data :=.func (PySem.W.kla_fn "<lambda>" (X.env.qual++"<lambda>") params body scope (z2m X.env scope.names []) ((X.mg "__name__").getD .none) (.ref c') ctv) }:Obj)=lo:=hlo
  rw[hlo']
  have fn:H h'.objs.size=none:=I.hok.fresh hsz
  have hfo:(h'.push lo).get? h'.objs.size=some lo:=Heap.get?_push_size _ (hlo ▸ rfl)
  exact⟨.ref _,_,I.laid (t':=tk) (o :=.frz lo (.own h'.objs.size)) (fun b u e=>Heap.get?_push_of_some _ (hk b u e)) hsz ⟨hfo,_,hfo⟩,rfl,h _ c' _ ⟨ctv,oc,vs,u,by rw[z0i,hlo],by rw[z09 (z0t hc' fn)]; exact hc',hd,hv⟩ (z0D fn _)⟩
@[reducible] def Cx.lamG (X:Cx)(A:Around)(scope:Scope)(N':List Str)(f c':Addr)(s:Shared)(H:Hp):Cx:=
 { X with A:=A.deeper (PySem.W.envX (X.env.qual++"<lambda>") scope s.heap.objs.size f (.ref c') (z2m X.env scope.names [])),N:=N',s₀:=s,H₀:=H,env:=PySem.W.envX (X.env.qual++"<lambda>") scope s.heap.objs.size f (.ref c') (z2m X.env scope.names []),outer:=X.stack,stack:=PySem.W.envX (X.env.qual++"<lambda>") scope s.heap.objs.size f (.ref c') (z2m X.env scope.names [])::X.stack,ex:=[],pn:=[],fn:=fun y=>((z2m X.env scope.names []).lookup y).isNone,xe:=fun _ _=>False }
def Inv.lamG {A:Around}{f c':Addr}{h1:Heap}{t1:Nat}{p:Str}{xv:V}{u:Value}(I:Inv X pins σ H s)(hk:scope.kind = .function)(c:z3D X N' 1 js scope)(hA:A.frames=X.A.frames)(hc:A.handled=none)(hp:N'[0]? = some p)(hpl:scope.names.lookup p=some .local)(r:RelV xv u)
  (keep:∀ b o,s.heap.get? b=some o->h1.get? b=some o) (hns:h1.Ns s.heap.objs.size (fun x=>([(p,u)]:List (Str × Value)).reverse.lookup x)):
  Inv (X.lamG A scope N' f c' s H) [] (some xv::js.map fun j=>(σ[j]?).getD none) H { s with heap:=h1,toks:=t1 }:=by
 have cell:∀ {a:Addr}{v:Option Value},s.heap.IsCell a v->h1.IsCell a v:=fun⟨o,ho,hd⟩=>⟨o,keep _ _ ho,hd⟩
 have noA:∀ b:Addr,b ∉ (X.lamG A scope N' f c' s H).ex:=fun b z=>absurd (show b∈([]:List Addr) from z) (by simp)
 refine⟨⟨I.ok.mod,hk,rfl,rfl,Nat.le_refl _,(fun y z a e1 e2=>I.ok.inj y z a (c.clo I e1).1 (c.clo I e2).1),(fun y q=>c.has I ?_),(fun y a hf e => ?_),(fun _=>hc),Around.frames_deeper (hA.trans I.ok.frames),.inr ⟨rfl,rfl⟩,fun b z=>absurd z (noA b),(fun b o e=>⟨I.bk b o e,(I.bs b o e).2⟩),Nat.le_trans I.ok.bsz I.sz,fun b _ _=>noA b,fun b z=>absurd z (noA b),I.stack,I.stkFree,I.tbs⟩,
  rfl,I.bare,Un.kept keep,⟨_,hns,(fun i y v e1 e2 hv => ?_)⟩,(fun y a e => ?_),I.hok.fresh (Nat.le_refl _),(fun y a e=>I.freeC y a (c.clo I e).1),(fun p hp=>absurd (show p∈([]:List (Addr × Obj)) from hp) (by simp)),I.hok.kept keep,?_⟩
 ·have q:scope.names.lookup y=some .cell\/scope.names.lookup y=some .free:=q
  rcases q with q | q
  ·exact absurd rfl (c.nocell _ (z0V q))
  ·exact z0V q
 ·have hf':((z2m X.env scope.names []).lookup y).isNone=true:=hf
  have e':(z2m X.env scope.names []).lookup y=some a:=e
  rw[e'] at hf'
  cases hf'
 ·cases i with
  | zero=>
   have e1':N'[0]? = some y:=e1
   rw[hp] at e1'
   cases e1'
   have e2':some (some xv)=some (some v):=e2
   cases e2'
   exact⟨u,r,.inl ⟨hpl,by simp⟩⟩
  | succ k=>
   have e2:(js.map fun j=>(σ[j]?).getD none)[k]? = some (some v):=by simpa using e2
   rw[List.getElem?_map] at e2
   cases ej:js[k]? with
   | none=>rw[ej] at e2; cases e2
   | some j=>
    rw[ej] at e2
    obtain⟨y',q1,q2,q3⟩:=c.cap _ _ ej
    rw[Nat.add_comm] at q1
    have e1':N'[k+1]? = some y:=e1
    rw[q1] at e1'
    cases e1'
    have e2:some ((σ[j]?).getD none)=some (some v):=e2
    have hσ:σ[j]? = some (some v):=by
     cases ez:σ[j]? with
     | none=>rw[ez] at e2; cases e2
     | some z=>rw[ez] at e2; exact congrArg some (Option.some.inj e2)
    have hkX:=c.free _ (z0V q3) rfl
    obtain⟨m,hn,hl⟩:=I.loc
    obtain⟨u,r,l⟩:=hl j y v q2 hσ (.inr hkX)
    refine⟨u,r,.inr ⟨.inr q3,?_⟩⟩
    rcases l with ⟨l,_⟩ | ⟨_,a,ha,hcell⟩
    ·have l':X.env.kindOf y=some .local:=l
     rcases hkX with z | z
     ·rw[l'] at z; cases z
     ·rw[l'] at z; cases z
    ·obtain⟨b,hb⟩:=c.has I (z0V q3)
     have:=(c.clo I hb).1
     rw[ha] at this
     cases this
     exact⟨a,hb,cell hcell⟩
 ·obtain⟨v,z⟩:=I.cell y a (c.clo I e).1
  exact⟨v,cell z⟩
 ·show (some xv::js.map fun j=>(σ[j]?).getD none).length=N'.length
  rw[List.length_cons,List.length_map,c.len,Nat.add_comm]
def zcW {A:Around}{f c':Addr}{p:Str}{xv:V}{u:Value}{tb:TE}{Q:VK}{E:Value->Shared->Prop}(I:Inv X pins σ H s)(hf:LamF X params body scope f c' H)(hk:scope.kind = .function)(hco:scope.isCoroutine=false)(hgen:scope.isGenerator=false)(cp:z3D X N' 1 js scope)
  (hA:A.frames=X.A.frames) (hc:A.handled=none) (hroom:A.depth < recursionLimit) (hp:N'[0]? = some p) (hpl:scope.names.lookup p=some .local) (r:RelV xv u)
  (hbind:∀ (name qual:Str) (sc:Scope) (cl:List (Str × Addr)) (pm cdv ct:Value),bindArgs (PySem.W.kla_fn name qual params body sc cl pm cdv ct) ⟨[u],[]⟩=pure [(p,u)])
  (hb:PE (X.lamG A scope N' f c' s H) body tb) (q:tb (some xv::js.map fun j=>(σ[j]?).getD none) H Q):
  wpAny (model X.prog X.w) A (call (.ref f) [u]) (EP X pins σ Q) E s:=by
 obtain⟨ctv,oc,vs,t,hF,hC,hd,hv⟩:=hf
 refine wpAny_call (PySem.W.kla_callFunE hroom (I.hok f _ hF).1 rfl hco hgen rfl ⟨c',oc,vs,t,rfl,(I.hok c' _ hC).1,hd,hv⟩ ?_)
 rw[hbind]
 refine wpAny_pure (wpAny_newFunctionEnv cp.nocell (fun y hy=>by rw[List.mem_singleton.mp hy]; exact hpl) (fun h1 hns hsb => ?_) hk)
 have keep:∀ b o,s.heap.get? b=some o->h1.get? b=some o:=fun b o e=>hsb.extBut b o (Nat.ne_of_lt (Heap.lt_size e)) (Heap.get?_push_of_some _ e)
 refine⟨I.nolimit.keeps keep,PySem.W.kla_codeExpr (wpAny_mono (hb [] _ _ H Q (I.lamG hk cp hA hc hp hpl r keep hns) q) (fun v s' hs => ?_) fun _ _ z=>z.elim)⟩
 obtain⟨y,H',J,rv,qq⟩:=hs
 exact⟨y,H',I.call' (ch:=[]) J.os J.base J.hok J.bare (fun b z=>absurd z (by simp)),rv,qq⟩
end
end L2
namespace Pu
open PySem PySem.Spec PyProof.Rows L2 Tab
def z8E {α β:Type}{R:α->β->Prop}{bs bs':List β}(p:bs.Perm bs'):∀ {as:List α},Paired R as bs->∃ as',as.Perm as'/\Paired R as' bs':=by
 induction p with
 | nil=>exact fun h=>⟨_,.refl _,h⟩
 | cons x _ ih=>
  intro as h
  cases h with
  | cons r t=>
   obtain⟨as',q,h'⟩:=ih t
   exact⟨_::as',q.cons _,.cons r h'⟩
 | swap x y l=>
  intro as h
  cases h with
  | cons r t=>
   cases t with
   | cons r' t'=>exact⟨_,List.Perm.swap _ _ _,.cons r' (.cons r t')⟩
 | trans _ _ ih1 ih2=>
  intro as h
  obtain⟨a1,q1,h1⟩:=ih1 h
  obtain⟨a2,q2,h2⟩:=ih2 h1
  exact⟨a2,q1.trans q2,h2⟩
def z6l {α β κ:Type}{R:α->β->Prop}:∀ (kz:List κ) {as:List α}{bs:List β},Paired R as bs->Paired (fun(p:κ × α) (q:κ × β)=>p.1=q.1/\R p.2 q.2) (kz.zip as) (kz.zip bs)
 | [],_,_,_ =>.nil
 | _::_,_,_,.nil=>by simpa using Paired.nil
 | k::kz,_,_,.cons r t =>.cons ⟨rfl,r⟩ (z6l kz t)
def z4G {α β κ:Type}{R:α->β->Prop}:∀ {ps:List (κ × α)}{qs:List (κ × β)},Paired (fun(p:κ × α) (q:κ × β)=>p.1=q.1/\R p.2 q.2) ps qs->ps.map Prod.fst=qs.map Prod.fst/\Paired R (ps.map Prod.snd) (qs.map Prod.snd)
 | _,_,.nil=>⟨rfl,.nil⟩
 | _,_,.cons r t=>⟨by simp[r.1,(z4G t).1],.cons r.2 (z4G t).2⟩
def KO {α:Type}(kz:List (List Int))(l out:List α):Prop:=∃ ps:List (List Int × α),ps.Perm (kz.zip l)/\out=ps.map Prod.snd/\ps.Pairwise (fun p q=>HT.z0r q.1 p.1=false)
def KO.lift {α β:Type}{R:α->β->Prop}{kz:List (List Int)}{as:List α}{bs zb:List β}(h:Paired R as bs)(k:KO kz bs zb):∃ za,Paired R za zb/\KO kz as za:=by
 obtain⟨ps,p,rfl,pw⟩:=k
 obtain⟨qs,q,hq⟩:=z8E p.symm (z6l kz h)
 obtain⟨e,hs⟩:=z4G hq
 refine⟨_,hs,qs,q.symm,rfl,?_⟩
 have:(ps.map Prod.fst).Pairwise (fun a b=>HT.z0r b a=false):=List.pairwise_map.mpr pw
 rw[<- e] at this
 exact List.pairwise_map.mp this
def z6i {K:W.Frag}{mg:Str->Option Value}{G:Hp}:∀ {ds:List D}{xs:List V},RDs K mg G ds xs->Paired (RD K mg G) ds xs
 | [],_,h=>by rw[RDs] at h; subst h; exact .nil
 | _::_,_,h=>by
  rw[RDs] at h
  obtain⟨x,r,rfl,h1,h2⟩:=h
  exact .cons h1 (z6i h2)
def z6m {K:W.Frag}{mg:Str->Option Value}{G:Hp}:∀ {ds:List D}{xs:List V},Paired (RD K mg G) ds xs->RDs K mg G ds xs
 | _,_,.nil=>RDs.nil
 | _,_,.cons r t=>RDs.cons r (z6m t)
def KeyG (K:W.Frag)(tb:TE)(σ0:V->L2.St)(xs:List V)(Q:VK)(H2:Hp):Prop:=∃ W:List V->Hp->Prop,W [] H2/\(∀ ys H,W ys H->Same H2 H)/\(∀ ys H x,W ys H->xs[ys.length]? = some x->tb (σ0 x) H fun y H'=>W (ys++[y]) H')/\
 ∀ ys H,W ys H->ys.length=xs.length->∃ kz,Tis K H ys kz/\(∀ k∈kz,k≠[])/\∀ zs:List V,KO kz xs zs->∀ p,H p=none->Q (.ref p) (upd H p (.lst zs))
section
variable {X:Cx}{pins:List (Addr × Obj)}{σ:L2.St}{H:Hp}{s:Shared}{params:Arguments}{body:Expr}{scope:Scope}{N':List Str}{js:List Nat}
def zbs {D:Addr}{o:HO}(I:Inv X pins σ H s)(hn:H D=none)(hD:X.s₀.heap.objs.size<=D)(hL:D≠X.env.locals)(h2:∀ x c,X.env.cells.lookup x=some c->c≠D)(h3:∀ p∈X.pn++pins,p.1≠D)(ok:z1K X.prog X.w (upd H D o) s.heap D o):Inv X pins σ (upd H D o) s:=by
 have neH:∀ b u,H b=some u->upd H D o b=some u:=fun b u e=>by rw[z09 (z0t e hn)]; exact e
 exact I.step (g':=s.gens) (d':=s.drawn) (t':=s.toks) (h':=s.heap) (ch:=[D]) (fun b hb=>by
  rw[List.mem_singleton.mp hb]; exact⟨.inr hD,hL,h2,h3⟩) (fun b o _ _ _ e _=>e) (fun b o _ _ _ e _=>⟨o.slots,e⟩) (fun b u hc e n=>by rw[z09 (fun z=>hc (by simp[z]))]; exact n) (fun b u _ e=>⟨u,e⟩) (fun b xs e=>neH b _ e) (fun b u v e=>neH b _ e) (fun b ps e=>⟨#[],by rw[neH b _ e]; simp⟩) (fun m h=>h) (HOk.track I.hok hn ok) I.bare
def zc2 {f c' a:Addr}{p:Str}{xs:List V}{tb:TE}{Q:VK}{E:Value->Shared->Prop}(hc:X.calm=true)(hroom:X.A.depth < recursionLimit)(I:Inv X pins σ H s)(hf:LamF X params body scope f c' H)(hk:scope.kind = .function)(hco:scope.isCoroutine=false)(hgen:scope.isGenerator=false)(cp:z3D X N' 1 js scope)
  (hp:N'[0]? = some p) (hpl:scope.names.lookup p=some .local)
  (hbind:∀ (u:Value) (name qual:Str) (sc:Scope) (cl:List (Str × Addr)) (pm cdv ct:Value),bindArgs (PySem.W.kla_fn name qual params body sc cl pm cdv ct) ⟨[u],[]⟩=pure [(p,u)])
  (hb:∀ (A:Around) (f c':Addr) (s:Shared) (H:Hp),PE (X.lamG A scope N' f c' s H) body tb) (hs:SqL X.K H a xs) (hz:xs.length < sizeLine)
  (kg:KeyG X.K tb (fun x=>some x::js.map fun j=>(σ[j]?).getD none) xs Q H):
  wpAny (model X.prog X.w) X.A (call (.builtin "sorted") [.ref a] [(Str.ofString "key",.ref f)]) (EP X pins σ Q) E s:=by
 obtain⟨W,w0,wS,wt,wf⟩:=kg
 obtain⟨vs,rv,pl,_⟩:=I.list hs
 have hl:xs.length=vs.length:=rv.length
 refine call_function_entry_kw kind_sorted plain_sorted entry_sorted (ksk_s1 _ _) ?_
 unfold Builtin.«sorted»
 refine wpAny_bind (m:=checkCount "sorted" 1 1 _) (wpAny_pure ?_)
 refine wpAny_bind (collect_list (vs:=vs) (by simpa using pl.isList) ?_ (by omega))
 refine wpAny_bind (wpAny_newList ?_ (by omega))
 have hsz:((s.heap.push (seqObj "list" #[] 0)).update s.heap.objs.size (Obj.mapSeq (· ++ vs.toArray))).objs.size=s.heap.objs.size+1:=by rw[Heap.size_update,size_push']
 have keep:∀ b o,s.heap.get? b=some o->(((s.heap.push (seqObj "list" #[] 0)).update s.heap.objs.size (Obj.mapSeq (· ++ vs.toArray))).push (seqObj "list" vs.toArray 0)).get? b=some o:=fun b o q=>by
  have hlt:b < s.heap.objs.size:=Heap.lt_size q
  rw[Heap.get?_push_ne _ _ _ (by rw[hsz]; exact Nat.ne_of_lt (Nat.lt_succ_of_lt hlt)),Heap.get?_update_ne _ _ _ _ (Nat.ne_of_lt hlt),Heap.get?_push_ne _ _ _ (Nat.ne_of_lt hlt)]
  exact q
 have hoL:(((s.heap.push (seqObj "list" #[] 0)).update s.heap.objs.size (Obj.mapSeq (· ++ vs.toArray))).push (seqObj "list" vs.toArray 0)).get? (s.heap.objs.size+1)=some (seqObj "list" vs.toArray 0):=by
  rw[<- hsz]; exact Heap.get?_push_size _ rfl
 show wpAny _ _ _ _ _ { s with heap:=((s.heap.push (seqObj "list" #[] 0)).update s.heap.objs.size (Obj.mapSeq (· ++ vs.toArray))).push (seqObj "list" vs.toArray 0) }
 rw[hsz]
 have hsz2:(((s.heap.push (seqObj "list" #[] 0)).update s.heap.objs.size (Obj.mapSeq (· ++ vs.toArray))).push (seqObj "list" vs.toArray 0)).objs.size=s.heap.objs.size+2:=by rw[size_push',hsz]
 generalize ((s.heap.push (seqObj "list" #[] 0)).update s.heap.objs.size (Obj.mapSeq (· ++ vs.toArray))).push (seqObj "list" vs.toArray 0)=g2 at keep hoL hsz2 ⊢
 generalize hD:s.heap.objs.size+1=D at hoL ⊢
 have hlt:s.heap.objs.size < D:=by omega
 have new:∀ d,s.heap.objs.size<=d->d≠X.env.locals/\d ∉ X.fs/\X.s₀.heap.objs.size<=d/\(∀ x c,X.env.cells.lookup x=some c->c≠d)/\∀ q∈X.pn++pins,q.1≠d:=fun d hd=>by
  refine⟨fun z => ?_,I.nofs hd,Nat.le_trans I.sz hd,fun x c e z => ?_,fun q hq z => ?_⟩
  ·have:=I.lt
   rw[z] at hd
   exact absurd this (Nat.not_lt.mpr hd)
  ·obtain⟨v,o,ho,_⟩:=I.cell x c e
   have:=Heap.lt_size ho
   rw[z] at this
   exact absurd this (Nat.not_lt.mpr hd)
  ·have:=Heap.lt_size (I.pin q hq).1
   rw[z] at this
   exact absurd this (Nat.not_lt.mpr hd)
 obtain⟨nD1,nD2,nD3,nD4,nD5⟩:=new D (Nat.le_of_lt hlt)
 obtain⟨nK1,nK2,nK3,nK4,nK5⟩:=new (g2.objs.size+1) (by omega)
 have hDK:D≠g2.objs.size+1:=by omega
 refine wpAny_bind (wpAny_holding (wpAny_call_entry_kw slot_list_sort ⟨_,hoL,rfl⟩ entry_list_sort ?body (ksk_l1 _ _)))
 show wpAny (model X.prog X.w) X.A.in1.in1 (Builtin.«list.sort» ⟨[.ref D],[(Str.ofString "key",.ref f)]⟩) _ _ _
 rw[ksk_t1]
 refine Tim.zc3 (s:={ s with heap:=g2 }) hoL (by omega) (fun e1 ks s'=>∃ ys H',Inv X pins σ H' s'/\W ys H'/\Vals ys ks/\s'.heap.get? D=some (seqObj "list" #[] e1)/\(∃ e,s'.heap.get? (g2.objs.size+1)=some (seqObj "list" ks.toArray e))/\H' D=none/\H' (g2.objs.size+1)=none) (fun e1 ho1 => ?start) (fun e1 i v ks s' hv hi hI => ?turn) (fun e1 ks s' hks hI => ?fin)
 case start=>
  have hkS:((g2.update D (Obj.mapSeq fun _=>(#[]:Array Value))).push (seqObj "tuple" vs.toArray 0)).objs.size=g2.objs.size+1:=by rw[size_push',Heap.size_update]
  refine⟨[],H,I.kept (t':=s.toks) (fun b o e=>Heap.get?_push_of_some _ (Heap.get?_push_of_some _ ?_)),w0,.nil,Heap.get?_push_of_some _ (Heap.get?_push_of_some _ ho1),⟨0,?_⟩,I.hok.fresh (Nat.le_of_lt hlt),I.hok.fresh (by omega)⟩
  ·rw[Heap.get?_update_ne _ _ _ _ (Nat.ne_of_lt (Nat.lt_trans (Heap.lt_size e) hlt))]
   exact keep b o e
  ·show Heap.get? (Heap.push _ _) _=_
   rw[<- hkS]; exact Heap.get?_push_size _ rfl
 case turn=>
  obtain⟨ys,H',J,w,r,hA,⟨e,hK⟩,hDn,hKn⟩:=hI
  have hyl:ys.length=i:=r.length.trans hi
  have hx:∃ x,xs[i]? = some x/\RelV x v:=by
   have hlt:i < xs.length:=by rw[hl]; exact(List.getElem?_eq_some_iff.mp hv).1
   obtain⟨u,h1,h2⟩:=rv.get (List.getElem?_eq_getElem hlt)
   rw[hv] at h1; cases h1
   exact⟨_,List.getElem?_eq_getElem hlt,h2⟩
  obtain⟨x,hx,rx⟩:=hx
  have J2:Inv X (pins++[(D,seqObj "list" #[] e1),(g2.objs.size+1,seqObj "list" ks.toArray e)]) σ H' s':=J.pins_of fun q hq=>by
   rcases List.mem_append.mp hq with hq | hq
   ·exact J.pin q (List.mem_append_right _ hq)
   ·rcases List.mem_cons.mp hq with rfl | hq
    ·exact⟨hA,hDn,nD1,nD2,fun v z=>by cases z⟩
    ·rw[List.mem_singleton.mp hq]
     exact⟨hK,hKn,nK1,nK2,fun v z=>by cases z⟩
  refine wpAny_mono (zcW (E:=fun _ _=>False) (A:=X.A.in1.in1) J2 (hf.same (wS ys H' w)) hk hco hgen cp rfl (I.ok.hd hc) hroom hp hpl rx (hbind v) (hb _ _ _ _ _) (wt ys H' x w (by rw[hyl]; exact hx))) (fun u s'' h => ?_) fun _ _ z=>z
  obtain⟨y,H'',J3,ry,w3⟩:=h
  have pD:=J3.pin (D,seqObj "list" #[] e1) (List.mem_append_right _ (List.mem_append_right _ (.head _)))
  have pK:=J3.pin (g2.objs.size+1,seqObj "list" ks.toArray e) (List.mem_append_right _ (List.mem_append_right _ (.tail _ (.head _))))
  have J4:Inv X pins σ H'' s'':=J3.pins_of fun q hq=>J3.pin q (List.mem_append_right _ (List.mem_append_left _ hq))
  refine⟨⟨e,pK.1⟩,ys++[y],H'',J4.turned (t':=s''.toks) (it:=g2.objs.size+1) (fun b o n q=>by rw[Heap.get?_update_ne _ _ _ _ n]; exact q) pK.2.1 nK1 (.inr nK3) nK4 nK5,w3,Vals.append r (.cons ry .nil),?_,?_,pD.2.1,pK.2.1⟩
  ·show Heap.get? (Heap.update _ _ _) _=_
   rw[Heap.get?_update_ne _ _ _ _ hDK]; exact pD.1
  ·obtain⟨e',he'⟩:∃ e',(s''.heap.update (g2.objs.size+1) (Obj.mapSeq (·.push u))).get? (g2.objs.size+1)=some (seqObj "list" (ks.toArray.push u) e'):=⟨_,get?_update_seq pK.1 (·.push u)⟩
   exact⟨e',by rw[show (ks++[u]).toArray=ks.toArray.push u by simp]; exact he'⟩
 case fin=>
  obtain⟨ys,H',J,w,r,hA,⟨e,hK⟩,hDn,hKn⟩:=hI
  have hyl:ys.length=xs.length:=by rw[r.length,hks,hl]
  obtain⟨kz,ht,hne,q⟩:=wf ys H' w hyl
  have hkl:kz.length=vs.length:=by rw[<- hl, <- hyl]; exact(zat ht).symm
  refine⟨kz,hkl,hne,⟨hA,⟨e,hK⟩,fun i u k hu hk => ?_⟩,fun out hol ko=>⟨_,rfl,wpAny_pure ⟨_,rfl,?_⟩⟩⟩
  ·obtain⟨b,k',h1,h2,rfl,h4⟩:=zf7 ht r hu
   rw[hk] at h2; cases h2
   exact TK.ti (z9S J Same.refl' h4)
  ·obtain⟨zs,hv,kz'⟩:=KO.lift (R:=RelV) rv ko
   have J1:=J.turned (t':=s'.toks) (it:=g2.objs.size+1) (h':=s'.heap.update (g2.objs.size+1) (Obj.mapSeq fun _ => #[])) (fun b o n q=>by rw[Heap.get?_update_ne _ _ _ _ n]; exact q) hKn nK1 (.inr nK3) nK4 nK5
   have hA1:(s'.heap.update (g2.objs.size+1) (Obj.mapSeq fun _ => #[])).get? D=some (seqObj "list" #[] e1):=by rw[Heap.get?_update_ne _ _ _ _ hDK]; exact hA
   obtain⟨e2,hA2⟩:∃ e2,((s'.heap.update (g2.objs.size+1) (Obj.mapSeq fun _ => #[])).update D (Obj.mapSeq fun _=>out.toArray)).get? D=some (seqObj "list" out.toArray e2):=⟨_,get?_update_seq hA1 fun _=>out.toArray⟩
   have J2:=J1.turned (t':=s'.toks) (it:=D) (h':=(s'.heap.update (g2.objs.size+1) (Obj.mapSeq fun _ => #[])).update D (Obj.mapSeq fun _=>out.toArray)) (fun b o n q=>by rw[Heap.get?_update_ne _ _ _ _ n]; exact q) hDn nD1 (.inr nD3) nD4 nD5
   have hzl:zs.length<=sizeLine:=by
    have:=hv.length
    omega
   exact⟨.ref D,upd H' D (.lst zs),zbs J2 hDn nD3 nD1 nD4 nD5 ⟨hzl,out,e2,hv,hA2⟩,rfl,q zs kz' D hDn⟩
end
end Pu
namespace Mxd
open PySem PySem.Spec PyProof.Rows
section
variable {prog:Program}{w:World}{A:Around}{R:Result->Shared->Prop}{I:Addr}{fp wr:List Addr}{n:Nat}{P:Nat->Value->Prop}{St:Nat->Heap->Prop}
def Best (P:Nat->Value->Prop)(bt:Nat->Nat->Bool)(i:Nat)(old:Array Value):Prop:=(i=0/\old = #[])\/∃ j v,i=j+1/\old = #[v,v]/\P (argBest bt j) v
def zij (W:Walks prog w A.in1 I fp wr n P St)(bt:Nat->Nat->Bool)(hcmp:CmpOf prog w A.in1 .Gt P bt)(S:Addr)(hSf:S ∉ fp)(d:Value):
  ∀ (k i:Nat) (s:Shared) (old:Array Value) (c:Nat),n - i=k->i<=n->St i s.heap->s.heap.get? S=some { cls :=.type "list",dict:=none,data :=.seq old c,slots := #[] }->Best P bt i old->
  (∀ v h' tk,(n=0/\v=d\/0 < n/\P (argBest bt (n - 1)) v)->(∀ b o,b ∉ wr->b≠S->s.heap.get? b=some o->h'.get? b=some o)->R (.ok (.ret v)) { s with heap:=h',toks:=tk })->
  codeAny (model prog w) A (.builtin "max.loop" ⟨[.ref I,.none,.ref S],[(Str.ofString "default",d)]⟩) R s:=by
 have hname:(toString "max"++toString ".loop":String)="max.loop":=by decide
 have hSw:S ∉ wr:=fun z=>hSf (W.sub _ z)
 intro k
 induction k with
 | zero=>
  intro i s old c e1 e2 st hS hB hR
  obtain rfl:i=n:=by omega
  refine codeAny_builtin F.entry_max_loop ?_
  rw[Around.under_plainId F.plain_max_loop _]
  show wpAny _ A.in1 (seqItems? (.ref S) >>= _) _ _ s
  refine wpAny_bind (wpAny_seqItems hS rfl ?_)
  show wpAny _ A.in1 (tryCatch (pyNext (.ref I)) _ >>= _) _ _ s
  refine wpAny_bind (wpAny_tryCatch (W.done s _ _ st fun h' tk kp => ?_))
  rcases hB with ⟨z,rfl⟩ | ⟨j,v,z,rfl,hP⟩
  ·exact wpAny_bind (wpAny_rule (wpAny_pure (hR d h' tk (.inl ⟨z,rfl⟩) fun b o nb _ e=>kp b o nb e)))
  ·have hS':=kp S _ hSw hS
   show wpAny _ A.in1 (updateSeq S (fun _ => #[]) >>= _) _ _ _
   refine wpAny_bind (wpAny_updateSeq hS' rfl (wpAny_bind (wpAny_letGo (wpAny_pure ?_))))
   exact hR v _ tk (.inr ⟨by omega,by rw[z]; exact hP⟩) fun b o nb ns e=>(Heap.get?_update_other _ _ (Ne.symm ns)).trans (kp b o nb e)
 | succ k ih=>
  intro i s old c e1 e2 st hS hB hR
  have hlt:i < n:=by omega
  refine codeAny_builtin F.entry_max_loop ?_
  rw[Around.under_plainId F.plain_max_loop _]
  show wpAny _ A.in1 (seqItems? (.ref S) >>= _) _ _ s
  refine wpAny_bind (wpAny_seqItems hS rfl ?_)
  show wpAny _ A.in1 (tryCatch (pyNext (.ref I)) _ >>= _) _ _ s
  refine wpAny_bind (wpAny_tryCatch (W.item i s _ _ hlt st fun v h' tk hv st' kp => ?_))
  have hS':=kp S _ hSw hS
  have back:∀ (g:Array Value->Array Value),St (i+1) (h'.update S (Obj.mapSeq g)):=fun g=>W.frame _ _ _ st' fun b hb o e=>(Heap.get?_update_other _ _ (fun z:S=b=>hSf (by rw[z]; exact hb))).trans e
  rcases hB with ⟨z,rfl⟩ | ⟨j,u,z,rfl,hP⟩
  ·show wpAny _ A.in1 (updateSeq S (fun _ => #[v,v]) >>= _) _ _ _
   refine wpAny_bind (wpAny_updateSeq hS' rfl ?_)
   rw[hname]
   refine wpAny_pure ⟨plainId_quiet F.plain_max_loop _,ih (i+1) _ #[v,v] _ (by omega) hlt (back _) (Heap.get?_update_self _ hS' rfl) (.inr ⟨0,v,by omega,rfl,by rw[z] at hv; exact hv⟩) fun v' g tk' q kp' => ?_⟩
   exact hR v' g tk' q fun b o nb ns e=>kp' b o nb ns ((Heap.get?_update_other _ _ (Ne.symm ns)).trans (kp b o nb e))
  ·show wpAny _ A.in1 (tryCatch (holding [v,v] (richCompare .Gt v u >>= _)) _ >>= _) _ _ _
   refine wpAny_bind (wpAny_tryCatch (wpAny_holding (wpAny_bind (hcmp i (argBest bt j) v u _ _ _ hv hP ?_))))
   refine wpAny_bind (wpAny_holding (wpAny_truthy_bool (wpAny_bind (wpAny_letGo (wpAny_pure ?_)))))
   cases hb:bt i (argBest bt j) with
   | true=>
    simp only[if_true]
    refine wpAny_bind (wpAny_updateSeq hS' rfl (wpAny_bind (wpAny_letGo ?_)))
    rw[hname]
    refine wpAny_pure ⟨plainId_quiet F.plain_max_loop _,ih (i+1) _ #[v,v] _ (by omega) hlt (back _) (Heap.get?_update_self _ hS' rfl) (.inr ⟨i,v,rfl,rfl,?_⟩) fun v' g tk' q kp' => ?_⟩
    ·rw[z] at hb hv ⊢
     simp only[argBest,hb,if_true]
     exact hv
    ·exact hR v' g tk' q fun b o nb ns e=>kp' b o nb ns ((Heap.get?_update_other _ _ (Ne.symm ns)).trans (kp b o nb e))
   | false=>
    simp only[Bool.false_eq_true,if_false]
    refine wpAny_bind (wpAny_letGo ?_)
    rw[hname]
    refine wpAny_pure ⟨plainId_quiet F.plain_max_loop _,ih (i+1) _ #[u,u] c (by omega) hlt st' hS' (.inr ⟨i,u,rfl,rfl,?_⟩) fun v' g tk' q kp' => ?_⟩
    ·rw[z] at hb ⊢
     simp only[argBest,hb,Bool.false_eq_true,if_false]
     exact hP
    ·exact hR v' g tk' q fun b o nb ns e=>kp' b o nb ns (kp b o nb e)
end
section
variable {prog:Program}{w:World}{A:Around}{E:Value->Shared->Prop}{s:Shared}
def zbP (a d:Value):argsOk "max" ⟨[a],[(Str.ofString "default",d)]⟩:=by unfold argsOk; kernel_rfl
def zcR {l:Addr}{xs:Array (Int × Tok)}{d:Value}{Q:Value->Shared->Prop}(hh:A.handled=none)(hl:s.heap.IsList l (intItems xs))
  (h:∀ v h' tk,(xs.size=0/\v=d\/0 < xs.size/\(intItems xs)[argBest (fun i j=>decide (numAt xs i > numAt xs j)) (xs.size - 1)]? = some v)->(∀ b o,s.heap.get? b=some o->h'.get? b=some o)->Q v { s with heap:=h',toks:=tk }):
  wpAny (model prog w) A (call (.builtin "max") [.ref l] [(Str.ofString "default",d)]) Q E s:=by
 refine wpAny_call (codeAny_call_builtin F.plain_max F.entry_max ?_)
 simp only[checkBuiltinCall,F.kind_max]
 have body:wpAny (model prog w) A.in1 (Builtin.«max» ⟨[.ref l],[(Str.ofString "default",d)]⟩) (fun fin s'=>match fin with
   | .done f=>(match (Except.ok f:Result) with | .ok (.ret v)=>Q v s' | .ok _=>False | .error e=>E e s')
   | .again c'=>c'.quiet=true/\codeAny (model prog w) A c' (fun r s'=>match r with | .ok (.ret v)=>Q v s' | .ok _=>False | .error e=>E e s') s') E s:=by
  have hname:(toString "max"++toString ".loop":String)="max.loop":=by decide
  show wpAny _ A.in1 (Builtin.Builtins.bindParams "max" ["key","default"] 0 ⟨[],[(Str.ofString "default",d)]⟩ >>= _) _ _ s
  refine wpAny_bind (wpAny_of_eq (show Builtin.Builtins.bindParams "max" ["key","default"] 0 ⟨[],[(Str.ofString "default",d)]⟩=pure [none,some d] from rfl) ?_)
  refine wpAny_bind (wpAny_pure ?_)
  refine wpAny_bind (iter_intList hl fun s₂ e st hfp hlI => ?_)
  subst e
  refine wpAny_bind (wpAny_newObj_type ?_)
  have W:=Walks.list (A:=A.in1) (prog:=prog) (w:=w) hh _ l hlI (intItems xs)
  rw[hname]
  have hz:(intItems xs).size=xs.size:=by simp[intItems]
  refine wpAny_pure ⟨plainId_quiet F.plain_max_loop _,zij W _ (CmpOf.ints_gt (numAt xs) (fun _ _=>intItems_at)) _ (fun hm=>Nat.lt_irrefl _ (hfp _ hm)) d _ 0 _ #[] _ rfl (Nat.zero_le _) (W.frame _ _ _ st fun b _ o e=>Heap.get?_push_of_some _ e) (Heap.get?_push_size _ rfl) (.inl ⟨rfl,rfl⟩) fun v h' tk q kp => ?_⟩
  refine h v h' tk ?_ ?_
  ·rw[hz] at q
   exact q
  ·exact old_kept fun b o nb e=>kp b o nb (Nat.ne_of_lt (Heap.lt_size e)) (Heap.get?_push_of_some _ e)
 cases hsig:Manifest.signature? "max" with
 | none=>exact wpAny_pure body
 | some sig=>
  have ha':Bind.checkArgs "max" sig ⟨[.ref l],[(Str.ofString "default",d)]⟩=pure ():=by simpa only[argsOk,hsig] using zbP (.ref l) d
  simp only[ha']
  exact wpAny_pure body
end
end Mxd
namespace Pu
open PySem PySem.Spec PyProof.Rows L2
section
variable {X:Cx}{E:XK}
def ze1 (K:W.Frag):R2:=fun x y H Q=>∃ (a:Addr) (ns:List Int) (i:Int),x = .ref a/\y = .int i/\SqL K H a (ns.map V.int)/\(ns=[]->Q (.int i) H)/\(ns≠[]->∀ m∈ns,(∀ x∈ns,x<=m)->Q (.int m) H)
def zbM (hc:X.calm=true){pins:List (Addr × Obj)}{s:Shared}{σ:L2.St}{H:Hp}{x y:V}{u v:Value}{Q:VK}(I:Inv X pins σ H s)(rx:RelV x u)(ry:RelV y v)(h:ze1 X.K x y H Q):
  wpAny (model X.prog X.w) X.A (call (.builtin "max") [u] [(Str.ofString "default",v)]) (EP X pins σ Q) X.xe s:=by
 obtain⟨a,ns,i,rfl,rfl,hs,q0,q1⟩:=h
 cases (show u=Value.ref a from rx)
 obtain⟨t0,rfl⟩:=ry
 obtain⟨its,hv,pl,_⟩:=I.list hs
 obtain⟨l,rfl,hl⟩:=zar ns hv
 have hll:l.length=ns.length:=by rw[<- hl,List.length_map]
 refine Mxd.zcR (xs:=l.toArray) (I.ok.hd hc) (by have:=pl.isList; simpa[intItems] using this) fun v h' tk z kp => ?_
 rcases z with ⟨z,rfl⟩ | ⟨z,e⟩
 ·have:ns=[]:=List.length_eq_zero_iff.mp (by rw[<- hll]; simpa using z)
  exact⟨.int i,H,I.kept (t':=tk) kp,⟨t0,rfl⟩,q0 this⟩
 ·have hpos:0 < l.length:=by simpa using z
  have num:∀ i,numAt l.toArray i=(ns[i]?).getD 0:=fun i=>by
   unfold numAt
   rw[<- hl,List.getElem?_map]
   simp
  obtain⟨t,rfl⟩:=intItems_at e
  generalize hk0:argBest (fun i j=>decide (numAt l.toArray i > numAt l.toArray j)) (l.toArray.size - 1)=k at*
  have hkle:k<=l.length - 1:=by
   have:=z6v (fun i j=>decide (numAt l.toArray i > numAt l.toArray j)) (l.toArray.size - 1)
   rw[hk0] at this
   simpa using this
  have hkn:k < ns.length:=by omega
  refine⟨.int _,H,I.kept (t':=tk) kp,⟨t,rfl⟩,q1 (fun w=>by rw[w] at hkn; simp at hkn) _ ?_ fun x hx => ?_⟩
  ·rw[num,List.getElem?_eq_getElem hkn]
   exact List.getElem_mem hkn
  ·obtain⟨j,hj,rfl⟩:=List.mem_iff_getElem.mp hx
   have:=z5M (numAt l.toArray) (l.toArray.size - 1) j (by simp; omega)
   rw[hk0] at this
   rw[num j,List.getElem?_eq_getElem hj] at this
   exact this
def zek {e k:Expr}{pp pos kpos:Pos}{te tk:TE}(hc:X.calm=true)(hg:Gl X "max")(hm:X.mg "max"=none)(ha:PE X e te)(hk:PE X k tk)
  (hs:starEach [e] X.env=(false,eval e X.env)::starEach [] X.env:=by rfl) (hkw:∀ pos,backToKw pos (keywordEach [⟨some "default",k,kpos⟩] X.env)=[(some (Str.ofString "default"),do let v <- eval k X.env; standAt pos; pure v)]:=by intro _; rfl):
  PE X (.Call (.Name "max" pp) [e] [⟨some "default",k,kpos⟩] pos) (tOp (ze1 X.K) te tk):=by
 intro pins s σ H Q I h
 refine wpAny_Call_Name_kw (z5t I hg hm (show bootBuiltins "max"=some (.builtin "max") from rfl) ?_ (by decide) (by decide))
 have pa:PA X [e] (z7s te tNil):=z8F ha zbd hs
 have pk:PK X [⟨some "default",k,kpos⟩] (z7s tk tNil):=zb5 hk zds
 refine callWith_kw (thn (pa pos pins s σ H (fun vs H1=>z7s tk tNil σ H1 fun zs H2=>match vs,zs with | [x],[y]=>ze1 X.K x y H2 Q | _,_=>False) I h) fun us s1 ⟨vs,H1,I1,r,q⟩=>thn (pk pos pins s1 σ H1 _ I1 q) fun ws s2 ⟨zs,H2,I2,rz,q2⟩ => ?_) (by rw[hs]; rfl) (by rw[hs]; rfl) (by rw[hkw]; rfl) (by rw[hkw]; rfl)
 match vs,zs,r,rz,q2 with
 | [x],[y],r,rz,q2=>
  obtain⟨u,rfl,ru⟩:=z4y r
  obtain⟨v,rfl,rv⟩:=z4y rz
  rw[hkw]
  exact zbM hc I2 ru rv q2
def ze2 {e k:Expr}{pp pos kpos:Pos}{x y:Ex}(hc:X.calm=true)(hg:Gl X "max")(hm:X.mg "max"=none)(ha:QX X E e x)(hk:QX X E k y)
  (hs:starEach [e] X.env=(false,eval e X.env)::starEach [] X.env:=by rfl) (hkw:∀ pos,backToKw pos (keywordEach [⟨some "default",k,kpos⟩] X.env)=[(some (Str.ofString "default"),do let v <- eval k X.env; standAt pos; pure v)]:=by intro _; rfl):
  QX X E (.Call (.Name "max" pp) [e] [⟨some "default",k,kpos⟩] pos) (.op zcA [x,y]):=
 QE.imp ⟨zek hc hg hm ha.p hk.p hs hkw⟩ fun σ H Q h=>tx2 (fun G H d1 d2 v1 v2 Q0 X0 Q g rd1 rd2 hr hk=>by
  obtain⟨ns,i,e,h1,h2⟩:=hr
  injection e with e1 e2
  injection e2 with e2 _
  subst e1
  subst e2
  obtain⟨a,xs,rfl,hq,hx⟩:=z2h rd1
  rw[z4d ns hx] at hq
  exact⟨a,ns,i,rfl,z1e rd2,z1G g hq,fun z=>hk.now g (h1 z) RD.int',fun z m hm hx=>hk.now g (h2 z m hm hx) RD.int'⟩) h
end
end Pu
namespace Pu
open PySem PySem.Spec PyProof.Rows L2 Tab
section
variable {X:Cx}{E:XK}{e:Expr}{params:Arguments}{body:Expr}{scope:Scope}{pos lpos kpos pp:Pos}{N':List Str}{js:List Nat}{p:Str}
def zcw {te tb:TE}(hc:X.calm=true)(hroom:X.A.depth < recursionLimit)(hg:Gl X "sorted")(hm:X.mg "sorted"=none)(hl:zbT X lpos)(ha:PE X e te)(hk:scope.kind = .function)(hco:scope.isCoroutine=false)(hgen:scope.isGenerator=false)(cp:z3D X N' 1 js scope)
  (hp:N'[0]? = some p) (hpl:scope.names.lookup p=some .local)
  (hbind:∀ (u:Value) (name qual:Str) (sc:Scope) (cl:List (Str × Addr)) (pm cdv ct:Value),bindArgs (PySem.W.kla_fn name qual params body sc cl pm cdv ct) ⟨[u],[]⟩=pure [(p,u)])
  (hb:∀ (A:Around) (f c':Addr) (s:Shared) (H:Hp),PE (X.lamG A scope N' f c' s H) body tb) (hdef:defaultsOf params X.env=([],[]))
  (hs:starEach [e] X.env=(false,eval e X.env)::starEach [] X.env) (hkw:∀ pos,backToKw pos (keywordEach [⟨some "key",.Lambda params body scope lpos,kpos⟩] X.env)=[(some (Str.ofString "key"),do let v <- eval (.Lambda params body scope lpos) X.env; standAt pos; pure v)]):
  PE X (.Call (.Name "sorted" pp) [e] [⟨some "key",.Lambda params body scope lpos,kpos⟩] pos) (fun σ H Q=>te σ H fun v H1=>∀ f c' H2,LamF X params body scope f c' H2->Same H1 H2->∃ a xs,v = .ref a/\SqL X.K H2 a xs/\xs.length < sizeLine/\KeyG X.K tb (fun x=>some x::js.map fun j=>(σ[j]?).getD none) xs Q H2):=by
 intro pins s σ H Q I h
 refine wpAny_Call_Name_kw (z5t I hg hm (show bootBuiltins "sorted"=some (.builtin "sorted") from rfl) ?_ (by decide) (by decide))
 have pa:PA X [e] (z7s te tNil):=z8F ha zbd hs
 have plam:PE X (.Lambda params body scope lpos) (fun σ H Q=>∀ f c' H',LamF X params body scope f c' H'->Same H H'->Q (.ref f) H'):=fun pins s σ H Q I h=>zcV I hl cp hdef h
 have pk:PK X [⟨some "key",.Lambda params body scope lpos,kpos⟩] (z7s _ tNil):=zb5 plam zds
 refine callWith_kw (thn (pa pos pins s σ H (fun vs H1=>match vs with | [v]=>∀ f c' H2,LamF X params body scope f c' H2->Same H1 H2->∃ a xs,v = .ref a/\SqL X.K H2 a xs/\xs.length < sizeLine/\KeyG X.K tb (fun x=>some x::js.map fun j=>(σ[j]?).getD none) xs Q H2 | _=>False) I h) fun us s1 ⟨vs,H1,I1,r,q⟩ => ?_) (by rw[hs]; rfl) (by rw[hs]; rfl) (by rw[hkw]; rfl) (by rw[hkw]; rfl)
 match vs,r,q with
 | [x],r,q=>
  obtain⟨u,rfl,ru⟩:=z4y r
  refine thn (pk pos pins s1 σ H1 (fun zs H2=>match zs with | [y]=>∃ f c',y = .ref f/\LamF X params body scope f c' H2/\∃ a xs,x = .ref a/\SqL X.K H2 a xs/\xs.length < sizeLine/\KeyG X.K tb (fun x=>some x::js.map fun j=>(σ[j]?).getD none) xs Q H2 | _=>False) I1 fun f c' H' l g=>⟨f,c',rfl,l,q f c' H' l g⟩) fun ws s2 ⟨zs,H2,I2,rz,q2⟩ => ?_
  match zs,rz,q2 with
  | [y],rz,q2=>
   obtain⟨v,rfl,rv⟩:=z4y rz
   obtain⟨f,c',rfl,lf,a,xs,rfl,h1,h2,h3⟩:=q2
   cases (show u=Value.ref a from ru)
   cases (show v=Value.ref f from rv)
   rw[hkw]
   exact zc2 hc hroom I2 lf hk hco hgen cp hp hpl hbind hb h1 h2 h3
def zco {k:Nat}{src x:Ex}(hc:X.calm=true)(hr:Room k X.A)(hg:Gl X "sorted")(hm:X.mg "sorted"=none)(hl:zbT X lpos)(ha:QX X E e src)(hk:scope.kind = .function)(hco:scope.isCoroutine=false)(hgen:scope.isGenerator=false)(cp:z3D X N' 1 js scope)
  (hp:N'[0]? = some p) (hpl:scope.names.lookup p=some .local)
  (hbind:∀ (u:Value) (name qual:Str) (sc:Scope) (cl:List (Str × Addr)) (pm cdv ct:Value),bindArgs (PySem.W.kla_fn name qual params body sc cl pm cdv ct) ⟨[u],[]⟩=pure [(p,u)])
  (hb:∀ (A:Around) (f c':Addr) (s:Shared) (H:Hp),QX (X.lamG A scope N' f c' s H) E0 body x) (hdef:defaultsOf params X.env=([],[]):=by rfl)
  (hs:starEach [e] X.env=(false,eval e X.env)::starEach [] X.env:=by rfl) (hkw:∀ pos,backToKw pos (keywordEach [⟨some "key",.Lambda params body scope lpos,kpos⟩] X.env)=[(some (Str.ofString "key"),do let v <- eval (.Lambda params body scope lpos) X.env; standAt pos; pure v)]:=by intro _; rfl):
  QF X E (.Call (.Name "sorted" pp) [e] [⟨some "key",.Lambda params body scope lpos,kpos⟩] pos) (.sortk 1 js (.nm 0) src x):=by
 refine QE.imp ⟨zcw (tb:=tx X.K X.mg E0 x) hc (Nat.lt_of_le_of_lt (Nat.le_trans (Nat.le_add_right _ (3*k)) (Nat.le_add_right _ 5)) hr.dp) hg hm hl ha.p hk hco hgen cp hp hpl hbind (fun A f c' s H=>(hb A f c' s H).p) hdef hs hkw⟩ fun σ H Q ⟨G,ρ,Q0,X0,g,ab,hr,hk,hx⟩ => ?_
 refine⟨G,ρ,_,X0,g,ab,hr,fun d v G1 H1 q g1 g2 g3 rd f c' H2 _ s12 => ?_,hx⟩
 cases d with
 | lst l=>
  obtain⟨a,xs,rfl,h1,h2⟩:=z2h rd
  obtain⟨hz,q⟩:=(show l.length < sizeLine/\_ from q)
  have hxl:xs.length=l.length:=h2.len
  have g12:Same G1 H2:=z07 g2 s12
  refine⟨a,xs,rfl,z1G g12 h1,by rw[hxl]; exact hz,fun ys H'=>∃ G' rs,Gr G1 H1 G'/\Same G' H'/\Same H2 H'/\RDs X.K X.mg G' rs ys/\z3B (z3l (.nm 0) none x (z0K 1 js ρ)) (l.drop ys.length) fun r=>∃ kz:List (List Int),rs++r=kz.map tupD/\(∀ k∈kz,k≠[])/\∀ out,zbU kz l out->Q0 (.lst out),⟨G1,[],Gr.refl,g12,Same.refl',RDs.nil,by simpa using q⟩,fun ys H' ⟨_,_,_,_,s,_⟩=>s,fun ys H' xv ⟨G',rs,k1,k2,k3,rds,hc⟩ hxv => ?_,fun ys H' ⟨G',rs,k1,k2,k3,rds,hc⟩ hyl => ?_⟩
  ·obtain⟨d,hd,rd'⟩:=h2.getV hxv
   obtain⟨hlt,hd'⟩:=List.getElem?_eq_some_iff.mp hd
   rw[List.drop_eq_getElem_cons hlt,hd'] at hc
   have hc':x.run ((z0K 1 js ρ).set 0 (.s d)) (fun d'=>z3B (z3l (.nm 0) none x (z0K 1 js ρ)) (l.drop (ys.length+1)) fun r=>∃ kz:List (List Int),rs++((some d').toList++r)=kz.map tupD/\(∀ k∈kz,k≠[])/\∀ out,zbU kz l out->Q0 (.lst out)) (fun _=>False):=hc
   have ab':AbE X.K X.mg G' ((z0K 1 js ρ).set 0 (.s d)) (some xv::js.map fun j=>(σ[j]?).getD none):=fun i d' ed=>by
    cases i with
    | zero=>
     have ed':some d=some d':=ed
     cases ed'
     exact⟨xv,rfl,rd'.same k1.1⟩
    | succ i=>
     obtain⟨v,e1,e2⟩:=z6r (nt:=1) (js:=js) (ab.same (z07 g1.1 k1.1)) (i+1) d' ed
     exact⟨v,e1,e2⟩
   refine⟨G',_,_,fun _=>False,k2,ab',hc',fun d' v' G2 H3 q n1 n2 n3 rd2=>⟨G2,rs++[d'],k1.trans (z07 s12 k3) n1,n2,z07 k3 n3,(rds.same n1.1).app (RDs.cons rd2 RDs.nil),?_⟩,Kx.no⟩
   rw[List.length_append]
   refine z2o z33 _ _ _ (fun r q => ?_) q
   simpa using q
  ·rw[hyl,hxl,List.drop_length] at hc
   obtain⟨kz,ek,hne,hq⟩:=(show ∃ kz:List (List Int),rs++[]=kz.map tupD/\(∀ k∈kz,k≠[])/\∀ out,zbU kz l out->Q0 (.lst out) from hc)
   rw[List.append_nil] at ek
   subst ek
   refine⟨kz,(z6H (rds.same k2)),hne,fun zs ko p hp => ?_⟩
   obtain⟨out,pr,ko'⟩:=KO.lift (z6i (h2.same k1.1)) ko
   have hn:∀ {A:Hp},Same A H'->A p=none:=fun s=>z22 s hp
   exact hk (.lst out) p G' (upd H' p (.lst zs)) (hq out ko') (g1.trans g3 k1) (z07 k2 (z0D hp _)) (z07 g3 (z07 s12 (z07 k3 (z0D hp _)))) (hn (z07 g3 (z07 s12 k3))) (hn k2) ⟨zs,z0i,z6m pr⟩
 | _=>exact(show False from q).elim
end
end Pu
namespace Pu
open PySem PySem.Spec PyProof.Rows L2
def z9C (K:W.Frag):Bool:=K.all fun p=>match p.2.data with
 | .func fd=>(match z9B fd with
  | some pos=>(match fd.code with
   | .ref c=>(match z8x K c with
    | some P=>PySem.W.codeHdIn K c P && ((tsOf K).lookup P == some (pos.line,pos.col,fd.qualname++".<locals>."++"<lambda>"))
    | none=>false)
   | _=>false)
  | none=>true)
 | _=>true
section
variable {P:Program}{w:World}{K:W.Frag}{mg:Str->Option Value}{base:Heap}{f:Addr}{qual:Str}{N:List Str}
def zgS {CX:CXT}{sc:Scope}{cdv:Value}{A:Around}{outer:List PySem.Env}{s:Shared}{H:Hp}{E:XK}{xe:Value->Shared->Prop}{pos:Pos}{oc:Value}{od:Option Addr}{fd:FuncData}{osl:Array (Option Value)}(h:z9C K=true)(lk:K.lookup f=some ⟨oc,od,.func fd,osl⟩)(hc:fd.code=cdv)(hq:fd.qualname=qual)(hp:z9B fd=some pos):zbT ((cxOf CX P w K mg base N qual sc f cdv A outer s H E).wish xe) pos:=by
 have:=List.all_eq_true.mp h _ (z9A lk)
 dsimp only at this
 rw[hp] at this
 dsimp only at this
 rw[hc,hq] at this
 cases cdv with
 | ref c=>
  dsimp only at this
  cases e:z8x K c with
  | none=>rw[e] at this; cases this
  | some P=>
   rw[e] at this
   dsimp only at this
   rw[Bool.and_eq_true] at this
   exact⟨c,P,rfl,this.1,eq_of_beq this.2⟩
 | _=>cases this
def fnL {x:Str}{st:Stmt}{fd:FuncData}{ps:List Str}{k np nn:Nat}{b:Sm}{pos:Pos}(F:Fun K x qual st f fd)(S:z0q N ps (z00 st))(hl:z9C K=true)(hps:z9B { name:=x,qualname:=qual,params:=z3h st,body :=.stmts (z2g st),scope:=z00 st,globals:=0,closure:=[],defaults :=.none,kwdefaults :=.none,doc :=.none,pyModule :=.none,annotations:=none,code :=.none,closureTuple :=.none,builtins:=0 }=some pos)
  (hb:∀ (cdv:Value) (A:Around) (outer:List PySem.Env) (s:Shared) (H:Hp) (E:XK),Room k (A.deeper (envOfC qual (z00 st) s.heap.objs.size f cdv))->(A.deeper (envOfC qual (z00 st) s.heap.objs.size f cdv)).units+64 < cLine->zbT ((cxOf (CXe P w) P w K mg base N qual (z00 st) f cdv A outer s H E).wish fun _ _=>False) pos->QZs ((cxOf (CXe P w) P w K mg base N qual (z00 st) f cdv A outer s H E).wish fun _ _=>False) E0 (z2g st) b) (hp:ps.length=np:=by rfl) (hN:N.length=nn:=by rfl):
  FnOk P w K mg base (CXe P w) (k+1) f fd ps (spP K mg (Fn.mkN np nn b)):=by
 obtain⟨oc,od,kV,doc,pm,an,cdv,ct,osl,rfl,lk,hcd⟩:=F.ex
 refine zh6 lk hcd S (fun vs H Q E ⟨G,ds,Q0,X0,hs,rds,⟨hl,hr⟩,hk,hx⟩=>by rw[rds.len,hl,hp]) fun A outer s H vs Q E hroom ⟨G,ds,Q0,X0,hs,rds,⟨hl',hr⟩,hk,hx⟩=>⟨_,(hb cdv A outer s H E hroom hroom.units (zgS hl lk rfl rfl hps)).p.nox,?_⟩
 refine⟨H,G,G,_,fun _=>Q0 .non,Q0,fun _=>False,z99 hs rds hl' hN,hr,fun ρ' σ' H' G' q ab _ => ?_,hk,Kx.no⟩
 exact hk .non .non G' H' q ⟨ab.g0,ab.nw⟩ ab.g ab.s0 (by rw[RD])
def zdQ {K:Params->W.Frag}{as:List Addr}{e:∀ P,as=(K P).map (·.1)}{ts:List Addr}{w:World}{h:Heap}(Y:(PySem.W.kmHook K as e ts).says w h)(hts:(tsOf (K w.params)).map Prod.fst=ts):∀ P t,(tsOf (K w.params)).lookup P=some t->h.get? P=some { cls :=.none,data :=.fields #[] }:=
 fun P t q=>PySem.W.km_tabs_of Y P (by rw[<- hts]; exact List.mem_map.mpr ⟨_,z9A q,rfl⟩)
end
end Pu
namespace My
open PySem L2 Pu
def top (i:Nat):Stmt:=PySem.Challenge.pw_closehaul_k35_least_corners.main.body.getD i (.Pass ⟨0,0,0,0⟩)
def z7c:(("_law_before":Str) == ("__debug__":Str))=false:=by decide
def z67:(("_law_between":Str) == ("__debug__":Str))=false:=by decide
def z66:(("_law_cell_at":Str) == ("__debug__":Str))=false:=by decide
def z65:(("_law_corners":Str) == ("__debug__":Str))=false:=by decide
def z51:(("_law_digit":Str) == ("__debug__":Str))=false:=by decide
def zai:(("_law_dot":Str) == ("__debug__":Str))=false:=by decide
def z1R:(("_law_lowest":Str) == ("__debug__":Str))=false:=by decide
def z3Y:(("_law_measure":Str) == ("__debug__":Str))=false:=by decide
def z50:(("_law_mixed":Str) == ("__debug__":Str))=false:=by decide
def z8a:(("_law_place":Str) == ("__debug__":Str))=false:=by decide
def z5J:(("_law_place_by":Str) == ("__debug__":Str))=false:=by decide
def z4N:(("_law_place_free":Str) == ("__debug__":Str))=false:=by decide
def z7b:(("_law_places":Str) == ("__debug__":Str))=false:=by decide
def z8X:(("_law_size":Str) == ("__debug__":Str))=false:=by decide
def z1Y:(("_law_step":Str) == ("__debug__":Str))=false:=by decide
def z8W:(("_law_told":Str) == ("__debug__":Str))=false:=by decide
def z5I:(("_law_turn":Str) == ("__debug__":Str))=false:=by decide
def z89:(("_law_whole":Str) == ("__debug__":Str))=false:=by decide
def z4s:(("_law_within":Str) == ("__debug__":Str))=false:=by decide
def zha:(("abs":Str) == ("__debug__":Str))=false:=by decide
def zh9:(("all":Str) == ("__debug__":Str))=false:=by decide
def z3A:(("area_of":Str) == ("__debug__":Str))=false:=by decide
def zh8:(("bool":Str) == ("__debug__":Str))=false:=by decide
def z6q:(("chain_of":Str) == ("__debug__":Str))=false:=by decide
def zix:(("int":Str) == ("__debug__":Str))=false:=by decide
def z7a:(("least_round":Str) == ("__debug__":Str))=false:=by decide
def z3N:(("len":Str) == ("__debug__":Str))=false:=by decide
def z5H:(("rising_places":Str) == ("__debug__":Str))=false:=by decide
def z45:(("tuple":Str) == ("__debug__":Str))=false:=by decide
def z88:(("turn_among":Str) == ("__debug__":Str))=false:=by decide
def zhl:bootBuiltins "abs"=some (.builtin "abs"):=by rfl
def zgO:("abs":Str)≠"__name__":=by decide
def zhk:bootBuiltins "all"=some (.builtin "all"):=by rfl
def zgN:("all":Str)≠"__name__":=by decide
def zhj:bootBuiltins "bool"=some (.type "bool"):=by rfl
def zgM:("bool":Str)≠"__name__":=by decide
def ziB:bootBuiltins "int"=some (.type "int"):=by rfl
def zii:("int":Str)≠"__name__":=by decide
def z3O:bootBuiltins "len"=some (.builtin "len"):=by rfl
def z3M:("len":Str)≠"__name__":=by decide
def z46:bootBuiltins "tuple"=some (.type "tuple"):=by rfl
def z43:("tuple":Str)≠"__name__":=by decide
structure Txt (K:W.Frag)(mg:Str->Option Value):Prop where
 triv:True
 n_abs:mg "abs"=none
 n_all:mg "all"=none
 n_bool:mg "bool"=none
 n_int:mg "int"=none
 n_isinstance:mg "isinstance"=none
 n_len:mg "len"=none
 n_list:mg "list"=none
 n_max:mg "max"=none
 n_range:mg "range"=none
 n_reversed:mg "reversed"=none
 n_set:mg "set"=none
 n_sorted:mg "sorted"=none
 n_tuple:mg "tuple"=none
 lam:z9C K=true
local macro_rules | `(tactic| rfl') => `(tactic| first | exact⟨.inl rfl,by decide,by decide⟩ | exact⟨.inr rfl,by decide,by decide⟩ | exact⟨rfl,rfl,rfl,by decide +kernel,rfl,by decide +kernel,by decide +kernel⟩)
local macro_rules | `(tactic| walk_at "c1") => `(tactic| exact fun _ _ _ _ _ _ us hl=>match us,hl with | [_],_=>rfl)
local macro_rules | `(tactic| walk_at "c2") => `(tactic| exact fun _ _ _ _ _ _ us hl=>match us,hl with | [_,_],_=>rfl)
local macro_rules | `(tactic| walk_at "c3") => `(tactic| exact fun _ _ _ _ _ _ us hl=>match us,hl with | [_,_,_],_=>rfl)
local macro_rules | `(tactic| walk_at "c4") => `(tactic| exact fun _ _ _ _ _ _ us hl=>match us,hl with | [_,_,_,_],_=>rfl)
abbrev Cl (P:Program)(w:World)(K:W.Frag)(mg:Str->Option Value)(base:Heap)(n:Nat)(x:Str)(ps:List Str)(F:Fn):Prop:=Cal P w K mg base (CXe P w) n x ps (spP K mg F)
abbrev Fk (P:Program)(w:World)(K:W.Frag)(mg:Str->Option Value)(base:Heap)(n:Nat)(f:Addr)(fd:FuncData)(ps:List Str)(F:Fn):Prop:=FnOk P w K mg base (CXe P w) n f fd ps (spP K mg F)
abbrev Nd (l:List Str):Prop:=l.Nodup
abbrev z1t:Stmt:=top 8
def z5S:z0q ["script","k"] ["script","k"] (z00 z1t):=by rfl'
def z3w:Nm (z00 z1t) "script":=by rfl'
def z3v:Nm (z00 z1t) "k":=by rfl'
abbrev z1U:Stmt:=top 15
def z38:z0q ["many","size","k"] ["many"] (z00 z1U):=by rfl'
def z81:Nm (z00 z1U) "many":=by rfl'
def z2F:Nm (z00 z1U) "size":=by rfl'
def z80:Nm (z00 z1U) "k":=by rfl'
abbrev z1E:Stmt:=top 16
def z4T:z0q ["rest","size","digit"] ["rest","size"] (z00 z1E):=by rfl'
def z74:Nm (z00 z1E) "rest":=by rfl'
def z73:Nm (z00 z1E) "size":=by rfl'
def z3g:Nm (z00 z1E) "digit":=by rfl'
abbrev z1a:Stmt:=top 10
def z1b:z0q ["one","other","rest"] ["one","other"] (z00 z1a):=by rfl'
def z1i:Nm (z00 z1a) "one":=by rfl'
def z0W:Nm (z00 z1a) "other":=by rfl'
def z3t:Nm (z00 z1a) "rest":=by rfl'
abbrev z12:Stmt:=top 11
def z4b:z0q ["x","y","bottom","part"] ["x","y","bottom"] (z00 z12):=by rfl'
def z3X:Nm (z00 z12) "x":=by rfl'
def z3W:Nm (z00 z12) "y":=by rfl'
def z3V:Nm (z00 z12) "bottom":=by rfl'
def z24:Nm (z00 z12) "part":=by rfl'
abbrev z0j:Stmt:=top 17
def z0F:z0q ["cell","most","size","rest","x","y"] ["cell","most"] (z00 z0j):=by rfl'
def z2J:Nm (z00 z0j) "cell":=by rfl'
def z2I:Nm (z00 z0j) "most":=by rfl'
def z0A:Nm (z00 z0j) "size":=by rfl'
def z0z:Nm (z00 z0j) "rest":=by rfl'
def z2H:Nm (z00 z0j) "x":=by rfl'
def z2G:Nm (z00 z0j) "y":=by rfl'
abbrev z1D:Stmt:=top 12
def z4S:z0q ["cell","k","mixed"] ["cell","k"] (z00 z1D):=by rfl'
def z72:Nm (z00 z1D) "cell":=by rfl'
def z71:Nm (z00 z1D) "k":=by rfl'
def z3f:Nm (z00 z1D) "mixed":=by rfl'
abbrev z0v:Stmt:=top 13
def z2O:z0q ["one","other","top","bottom","x","y"] ["one","other","top","bottom"] (z00 z0v):=by rfl'
def z1k:Nm (z00 z0v) "one":=by rfl'
def z1j:Nm (z00 z0v) "other":=by rfl'
def z1O:Nm (z00 z0v) "top":=by rfl'
def z2u:Nm (z00 z0v) "bottom":=by rfl'
def z3y:Nm (z00 z0v) "x":=by rfl'
def z3x:Nm (z00 z0v) "y":=by rfl'
abbrev z0h:Stmt:=top 14
def z0l:z0q ["cell","ahead","rest","way","x","y","one","other"] ["cell","ahead"] (z00 z0h):=by rfl'
def z2f:Nm (z00 z0h) "cell":=by rfl'
def z0u:Nm (z00 z0h) "ahead":=by rfl'
def z0c:Nm (z00 z0h) "rest":=by rfl'
def z18:Nm (z00 z0h) "way":=by rfl'
def z2e:Nm (z00 z0h) "x":=by rfl'
def z17:Nm (z00 z0h) "y":=by rfl'
def z2d:Nm (z00 z0h) "one":=by rfl'
def z2c:Nm (z00 z0h) "other":=by rfl'
abbrev z0N:Stmt:=top 18
def z39:z0q ["cells","free","places","cell"] ["cells","free"] (z00 z0N):=by rfl'
def z3U:Nm (z00 z0N) "cells":=by rfl'
def z60:Nm (z00 z0N) "free":=by rfl'
def z23:Nm (z00 z0N) "places":=by rfl'
def z3T:Nm (z00 z0N) "cell":=by rfl'
abbrev z0M:Stmt:=top 4
def z35:z0q ["start","middle","end","x","y"] ["start","middle","end"] (z00 z0M):=by rfl'
def z2U:Nm (z00 z0M) "start":=by rfl'
def z1d:Nm (z00 z0M) "middle":=by rfl'
def z1c:Nm (z00 z0M) "end":=by rfl'
def z3S:Nm (z00 z0M) "x":=by rfl'
def z3R:Nm (z00 z0M) "y":=by rfl'
abbrev z1B:Stmt:=top 1
def z42:z0q ["spots","turn","kept","spot"] ["spots","turn"] (z00 z1B):=by rfl'
def z83:Nm (z00 z1B) "spots":=by rfl'
def z82:Nm (z00 z1B) "turn":=by rfl'
def z1l:Nm (z00 z1B) "kept":=by rfl'
def z3z:Nm (z00 z1B) "spot":=by rfl'
abbrev z0Q:Stmt:=top 2
def z2N:z0q ["rising","turn","there","back"] ["rising","turn"] (z00 z0Q):=by rfl'
def z1N:Nm (z00 z0Q) "rising":=by rfl'
def z3s:Nm (z00 z0Q) "turn":=by rfl'
def z3r:Nm (z00 z0Q) "there":=by rfl'
def z3q:Nm (z00 z0Q) "back":=by rfl'
abbrev z0p:Stmt:=top 5
def z1y:z0q ["places","apart","great","times"] ["places"] (z00 z0p):=by rfl'
def z4K:Nm (z00 z0p) "places":=by rfl'
def z1X:Nm (z00 z0p) "apart":=by rfl'
def z1W:Nm (z00 z0p) "great":=by rfl'
def z4J:Nm (z00 z0p) "times":=by rfl'
abbrev z3F:Stmt:=top 6
def z9X:z0q ["places"] ["places"] (z00 z3F):=by rfl'
def z8T:Nm (z00 z3F) "places":=by rfl'
abbrev z2r:Stmt:=top 19
def z8A:z0q ["one","other"] ["one","other"] (z00 z2r):=by rfl'
def z2E:Nm (z00 z2r) "one":=by rfl'
def z2D:Nm (z00 z2r) "other":=by rfl'
abbrev z1n:Stmt:=top 24
def z4c:z0q ["one","other","step"] ["one","other"] (z00 z1n):=by rfl'
def z62:Nm (z00 z1n) "one":=by rfl'
def z61:Nm (z00 z1n) "other":=by rfl'
def z25:Nm (z00 z1n) "step":=by rfl'
abbrev z2q:Stmt:=top 20
def z8z:z0q ["one","other"] ["one","other"] (z00 z2q):=by rfl'
def z4W:Nm (z00 z2q) "one":=by rfl'
def z4V:Nm (z00 z2q) "other":=by rfl'
abbrev z2X:Stmt:=top 21
def z9W:z0q ["one","other"] ["one","other"] (z00 z2X):=by rfl'
def z5z:Nm (z00 z2X) "one":=by rfl'
def z5y:Nm (z00 z2X) "other":=by rfl'
abbrev z11:Stmt:=top 22
def z36:z0q ["corners","place","k","side"] ["corners","place"] (z00 z11):=by rfl'
def z0E:Nm (z00 z11) "corners":=by rfl'
def z2W:Nm (z00 z11) "place":=by rfl'
def z1w:Nm (z00 z11) "k":=by rfl'
def z2V:Nm (z00 z11) "side":=by rfl'
abbrev z2B:Stmt:=top 9
def z7y:z0q ["found"] ["found"] (z00 z2B):=by rfl'
def z4q:Nm (z00 z2B) "found":=by rfl'
abbrev z27:Stmt:=top 23
def z7z:z0q ["found"] ["found"] (z00 z27):=by rfl'
def z0O:Nm (z00 z27) "found":=by rfl'
abbrev z0R:Stmt:=top 25
def z20:z0q ["found","k","side"] ["found"] (z00 z0R):=by rfl'
def z0d:Nm (z00 z0R) "found":=by rfl'
def z0x:Nm (z00 z0R) "k":=by rfl'
def z3u:Nm (z00 z0R) "side":=by rfl'
abbrev z1A:Stmt:=top 26
def z37:z0q ["places","found","corner","place"] ["places"] (z00 z1A):=by rfl'
def z29:Nm (z00 z1A) "places":=by rfl'
def z28:Nm (z00 z1A) "found":=by rfl'
def z4Y:Nm (z00 z1A) "corner":=by rfl'
def z4X:Nm (z00 z1A) "place":=by rfl'
abbrev z3P:Stmt:=top 27
def z5i:z0q ["script","first","free","cells","places","one"] ["script"] (z00 z3P):=by rfl'
def zbx:Nm (z00 z3P) "script":=by rfl'
def z76:Nm (z00 z3P) "first":=by rfl'
def z8S:Nm (z00 z3P) "free":=by rfl'
def z75:Nm (z00 z3P) "cells":=by rfl'
def z8R:Nm (z00 z3P) "places":=by rfl'
def z8Q:Nm (z00 z3P) "one":=by rfl'
section
variable {P:Program}{w:World}{K:W.Frag}{mg:Str->Option Value}{base:Heap}{f:Addr}{fd:FuncData}(T:Txt K mg)
include T
theorem z5X (F:Fun K "_law_cell_at" "_law_cell_at" z1t f fd):Fk P w K mg base 1 f fd ["script","k"] z15:=by
 refine fnN F z5S rfl rfl (fun cdv A outer s H E hr => ?_)
 have hu:=hr.units
 exact(z06 (z2P (z1f (z8M hu) lk2 (qx_v (vg 1 z3v)) (z2Z z2i lkN (glg rfl) T.n_len z3O (z01 (qx_v (vg 0 z3w)) z04) z3M z3N) (z0I _)) (z0b (z0m (z0g (qx_v (vg 0 z3w)) (qx_v (vg 1 z3v)) (fun _ _=>rfl)))) z1u)
   (z0b (z0m z02)))
theorem z8J (F:Fun K "_law_size" "_law_size" z1U f fd):Fk P w K mg base 1 f fd ["many"] z1z:=by
 refine fnN F z38 rfl rfl (fun cdv A outer s H E hr => ?_)
 have hu:=hr.units
 exact(z06 (z0n (ag 1 z38.nd z2F z02))
   (z06 (z6I (g:=(.nm 2)) PassesOwn.never rfl (glg rfl) T.n_range (z01 (qx_v (vg 0 z81)) z04) (ng 2 z38.nd z80) (z0b (z0n (ag 1 z38.nd z2F (z03 z0k lk2 (qx_v (vg 1 z2F)) z02)))))
   (z0b (z0m (qx_v (vg 1 z2F))))))
theorem z7T (F:Fun K "_law_digit" "_law_digit" z1E f fd):Fk P w K mg base 1 f fd ["rest","size"] z0Z:=by
 refine fnN F z4T rfl rfl (fun cdv A outer s H E hr => ?_)
 have hu:=hr.units
 exact(z06 (z0n (ag 2 z4T.nd z3g (z03 z1I lk2 (qx_v (vg 0 z74)) (z03 z1v lk2 (z03 z0k lk2 z02 (qx_v (vg 1 z73))) z02))))
   (z0b (z0m (z03 z0k lk2 (z03 z1s lk2 (z03 z1v lk2 (qx_v (vg 2 z3g)) z02) z02) (z03 z1H lk2 z02 (z03 z0k lk2 z02 (z03 z1I lk2 (qx_v (vg 2 z3g)) z02)))))))
theorem z5V (F:Fun K "_law_measure" "_law_measure" z1a f fd):Fk P w K mg base 1 f fd ["one","other"] z0G:=by
 refine fnN F z1b rfl rfl (fun cdv A outer s H E hr => ?_)
 have hu:=hr.units
 exact(z06 (z0n (ag 0 z1b.nd z1i (z2Z zdJ lkN (glg rfl) T.n_abs zhl (z01 (qx_v (vg 0 z1i)) z04) zgO zha)))
   (z06 (z0n (ag 1 z1b.nd z0W (z2Z zdJ lkN (glg rfl) T.n_abs zhl (z01 (qx_v (vg 1 z0W)) z04) zgO zha)))
   (z06 (z9i PassesOwn.never (z1f (z7U hu) lk2 (qx_v (vg 1 z0W)) z02 (z0I _)) (z06 (z0n (ag 2 z1b.nd z3t (z03 z1I lk2 (qx_v (vg 0 z1i)) (qx_v (vg 1 z0W)))))
   (z06 (z0n (ag 0 z1b.nd z1i (qx_v (vg 1 z0W))))
   (z0b (z0n (ag 1 z1b.nd z0W (qx_v (vg 2 z3t))))))))
   (z0b (z0m (qx_v (vg 0 z1i)))))))
theorem z6S (F:Fun K "_law_lowest" "_law_lowest" z12 f fd)(q0:Cl P w K mg base 1 "_law_measure" ["one","other"] z0G):Fk P w K mg base 2 f fd ["x","y","bottom"] z08:=by
 refine fnN F z4b rfl rfl (fun cdv A outer s H E hr => ?_)
 have hu:=hr.units
 exact(z06 (z0n (ag 3 z4b.nd z24 (z0T q0 (hr.mono (by decide)) z0o (z01 (z0T q0 (hr.mono (by decide)) z0o (z01 (qx_v (vg 0 z3X)) (z01 (qx_v (vg 1 z3W)) z04)) (glg rfl) z3Y) (z01 (qx_v (vg 2 z3V)) z04)) (glg rfl) z3Y)))
   (z0b (z0m (z5j (z01 (z03 z1s lk2 (qx_v (vg 0 z3X)) (qx_v (vg 3 z24))) (z01 (z03 z1s lk2 (qx_v (vg 1 z3W)) (qx_v (vg 3 z24))) (z01 (z03 z1s lk2 (qx_v (vg 2 z3V)) (qx_v (vg 3 z24))) z04)))))))
theorem z4H (F:Fun K "_law_place_free" "_law_place_free" z0j f fd)(q1:Cl P w K mg base 2 "_law_lowest" ["x","y","bottom"] z08)(q2:Cl P w K mg base 1 "_law_size" ["many"] z1z)(q3:Cl P w K mg base 1 "_law_digit" ["rest","size"] z0Z):Fk P w K mg base 3 f fd ["cell","most"] z0H:=by
 refine fnN F z0F rfl rfl (fun cdv A outer s H E hr => ?_)
 have hu:=hr.units
 exact(z06 (z0n (ag 2 z0F.nd z0A (z0T q2 (hr.mono (by decide)) z0o (z01 (z03 z1v lk2 z02 (z03 z1I lk2 (qx_v (vg 0 z2J)) (qx_v (vg 1 z2I)))) z04) (glg rfl) z8X)))
   (z06 (z0n (ag 3 z0F.nd z0z (z03 z1s lk2 (qx_v (vg 0 z2J)) (qx_v (vg 1 z2I)))))
   (z06 (z0n (ag 4 z0F.nd z2H (z0T q3 (hr.mono (by decide)) z0o (z01 (qx_v (vg 3 z0z)) (z01 (qx_v (vg 2 z0A)) z04)) (glg rfl) z51)))
   (z06 (z0n (ag 3 z0F.nd z0z (z03 z1s lk2 (qx_v (vg 3 z0z)) (z03 z1v lk2 (z03 z0k lk2 z02 (qx_v (vg 2 z0A))) z02))))
   (z06 (z0n (ag 5 z0F.nd z2G (z0T q3 (hr.mono (by decide)) z0o (z01 (qx_v (vg 3 z0z)) (z01 (qx_v (vg 2 z0A)) z04)) (glg rfl) z51)))
   (z0b (z0m (z0T q1 (hr.mono (by decide)) z0o (z01 (qx_v (vg 4 z2H)) (z01 (qx_v (vg 5 z2G)) (z01 (z03 z1v lk2 z02 (z03 z1I lk2 (z03 z1s lk2 (qx_v (vg 3 z0z)) (z03 z1v lk2 (z03 z0k lk2 z02 (qx_v (vg 2 z0A))) z02)) (qx_v (vg 2 z0A)))) z04))) (glg rfl) z1R))))))))
theorem z7S (F:Fun K "_law_mixed" "_law_mixed" z1D f fd):Fk P w K mg base 1 f fd ["cell","k"] z0Y:=by
 refine fnN F z4S rfl rfl (fun cdv A outer s H E hr => ?_)
 have hu:=hr.units
 exact(z06 (z0n (ag 2 z4S.nd z3f (z03 z1I lk2 (z03 z1v lk2 (z03 z1v lk2 (z03 z0k lk2 (z03 z1I lk2 (qx_v (vg 0 z72)) z02) z02) (z03 z0k lk2 z02 (qx_v (vg 1 z71)))) z02) z02)))
   (z0b (z0m (z03 z1s lk2 (z03 z1I lk2 (z03 z0k lk2 (qx_v (vg 2 z3f)) (qx_v (vg 2 z3f))) z02) z02))))
theorem z5Y (F:Fun K "_law_between" "_law_between" z0v f fd)(q1:Cl P w K mg base 2 "_law_lowest" ["x","y","bottom"] z08):Fk P w K mg base 3 f fd ["one","other","top","bottom"] z16:=by
 refine fnN F z2O rfl rfl (fun cdv A outer s H E hr => ?_)
 have hu:=hr.units
 exact(z06 (z0n (ag 4 z2O.nd z3y (z03 z1v lk2 (z03 z0k lk2 (z03 z0k lk2 (z0g (qx_v (vg 0 z1k)) z02 (fun _ _=>rfl)) (z0g (qx_v (vg 1 z1j)) z02 (fun _ _=>rfl))) (z03 z1H lk2 (qx_v (vg 3 z2u)) (qx_v (vg 2 z1O)))) (z03 z0k lk2 (z03 z0k lk2 (z0g (qx_v (vg 1 z1j)) z02 (fun _ _=>rfl)) (z0g (qx_v (vg 0 z1k)) z02 (fun _ _=>rfl))) (qx_v (vg 2 z1O))))))
   (z06 (z0n (ag 5 z2O.nd z3x (z03 z1v lk2 (z03 z0k lk2 (z03 z0k lk2 (z0g (qx_v (vg 0 z1k)) z02 (fun _ _=>rfl)) (z0g (qx_v (vg 1 z1j)) z02 (fun _ _=>rfl))) (z03 z1H lk2 (qx_v (vg 3 z2u)) (qx_v (vg 2 z1O)))) (z03 z0k lk2 (z03 z0k lk2 (z0g (qx_v (vg 1 z1j)) z02 (fun _ _=>rfl)) (z0g (qx_v (vg 0 z1k)) z02 (fun _ _=>rfl))) (qx_v (vg 2 z1O))))))
   (z0b (z0m (z0T q1 (hr.mono (by decide)) z0o (z01 (qx_v (vg 4 z3y)) (z01 (qx_v (vg 5 z3x)) (z01 (z03 z0k lk2 (z03 z0k lk2 (z0g (qx_v (vg 0 z1k)) z02 (fun _ _=>rfl)) (z0g (qx_v (vg 1 z1j)) z02 (fun _ _=>rfl))) (qx_v (vg 3 z2u))) z04))) (glg rfl) z1R)))))
theorem z5r (F:Fun K "_law_place_by" "_law_place_by" z0h f fd)(q1:Cl P w K mg base 2 "_law_lowest" ["x","y","bottom"] z08)(q4:Cl P w K mg base 1 "_law_mixed" ["cell","k"] z0Y)(q5:Cl P w K mg base 3 "_law_between" ["one","other","top","bottom"] z16):Fk P w K mg base 4 f fd ["cell","ahead"] z0U:=by
 refine fnN F z0l rfl rfl (fun cdv A outer s H E hr => ?_)
 have hu:=hr.units
 exact(z06 (z0n (ag 2 z0l.nd z0c (z0T q4 (hr.mono (by decide)) z0o (z01 (qx_v (vg 0 z2f)) (z01 z02 z04)) (glg rfl) z50)))
   (z06 (z0n (ag 3 z0l.nd z18 (z03 z1I lk2 (qx_v (vg 2 z0c)) z02)))
   (z06 (z0n (ag 2 z0l.nd z0c (z03 z1s lk2 (qx_v (vg 2 z0c)) z02)))
   (z06 (z0n (ag 4 z0l.nd z2e (z03 z1H lk2 (z03 z1I lk2 (z03 z1s lk2 (qx_v (vg 2 z0c)) z02) z02) z02)))
   (z06 (z0n (ag 5 z0l.nd z17 (z03 z1H lk2 (z03 z1I lk2 (z03 z1s lk2 (qx_v (vg 2 z0c)) z02) z02) z02)))
   (z06 (z2P (QW.pt (z5k (z1f (z5s hu) lk2 (qx_v (vg 3 z18)) z02 (z0I _)) (z4e (z1f (z7U hu) lk2 (z2Z z2i lkN (glg rfl) T.n_len z3O (z01 (qx_v (vg 1 z0u)) z04) z3M z3N) z02 (z0I _))))) (z0b (z0m (z0g (qx_v (vg 1 z0u)) (z03 z1I lk2 (qx_v (vg 2 z0c)) (z2Z z2i lkN (glg rfl) T.n_len z3O (z01 (qx_v (vg 1 z0u)) z04) z3M z3N)) (fun _ _=>rfl)))) z1u)
   (z06 (z2P (QW.pt (z5k (z1f (z5s hu) lk2 (qx_v (vg 3 z18)) z02 (z0I _)) (z4e (z1f (z7U hu) lk2 (z2Z z2i lkN (glg rfl) T.n_len z3O (z01 (qx_v (vg 1 z0u)) z04) z3M z3N) z02 (z0I _))))) (z06 (z0n (ag 6 z0l.nd z2d (z0g (qx_v (vg 1 z0u)) (z03 z1I lk2 (qx_v (vg 2 z0c)) (z2Z z2i lkN (glg rfl) T.n_len z3O (z01 (qx_v (vg 1 z0u)) z04) z3M z3N)) (fun _ _=>rfl))))
   (z06 (z0n (ag 7 z0l.nd z2c (z0g (qx_v (vg 1 z0u)) (z03 z1I lk2 (z03 z1s lk2 (qx_v (vg 2 z0c)) z02) (z2Z z2i lkN (glg rfl) T.n_len z3O (z01 (qx_v (vg 1 z0u)) z04) z3M z3N)) (fun _ _=>rfl))))
   (z0b (z2P (z1f (z8M hu) lk2 (z03 z0k lk2 (z0g (qx_v (vg 6 z2d)) z02 (fun _ _=>rfl)) (z0g (qx_v (vg 7 z2c)) z02 (fun _ _=>rfl))) (z03 z7V lk2 z02 z02) (z0I _)) (z0b (z0m (z0T q5 (hr.mono (by decide)) z0o (z01 (qx_v (vg 6 z2d)) (z01 (qx_v (vg 7 z2c)) (z01 (z03 z1v lk2 z02 (z03 z1I lk2 (qx_v (vg 2 z0c)) z02)) (z01 z02 z04)))) (glg rfl) z67))) z1u)))) z1u)
   (z06 (z2P (z1f (z5s hu) lk2 (qx_v (vg 3 z18)) z02 (z0I _)) (z0b (z0n (ag 5 z0l.nd z17 (z03 z1v lk2 (z03 z0k lk2 z02 (qx_v (vg 4 z2e))) z02)))) z1u)
   (z06 (z2P (z1f (z5s hu) lk2 (qx_v (vg 3 z18)) z02 (z0I _)) (z06 (z0n (ag 5 z0l.nd z17 (z03 z1H lk2 (z0T q4 (hr.mono (by decide)) z0o (z01 (qx_v (vg 0 z2f)) (z01 z02 z04)) (glg rfl) z50) (z03 z7V lk2 z02 z02))))
   (z0b (z0m (z0T q1 (hr.mono (by decide)) z0o (z01 (z03 z1H lk2 (z03 z1I lk2 (qx_v (vg 0 z2f)) (z03 z1v lk2 (z03 z0k lk2 z02 (z03 z7V lk2 z02 z02)) z02)) (z03 z7V lk2 z02 z02)) (z01 (qx_v (vg 5 z17)) (z01 (z03 z1v lk2 z02 (z03 z1I lk2 (qx_v (vg 2 z0c)) (z03 z7V lk2 z02 z02))) z04))) (glg rfl) z1R)))) z1u)
   (z0b (z0m (z0T q1 (hr.mono (by decide)) z0o (z01 (qx_v (vg 4 z2e)) (z01 (qx_v (vg 5 z17)) (z01 (z0g (QF.qx (z9m (z01 z02 (z01 z02 (z01 z02 (z01 z02 (z01 z02 z04))))))) (z03 z1I lk2 (qx_v (vg 2 z0c)) z02) (fun _ _=>rfl)) z04))) (glg rfl) z1R))))))))))))
theorem z6R (F:Fun K "_law_places" "_law_places" z0N f fd)(q6:Cl P w K mg base 4 "_law_place_by" ["cell","ahead"] z0U)(q7:Cl P w K mg base 3 "_law_place_free" ["cell","most"] z0H):Fk P w K mg base 5 f fd ["cells","free"] z0P:=by
 refine fnN F z39 rfl rfl (fun cdv A outer s H E hr => ?_)
 have hu:=hr.units
 exact(z06 (z2P (z1f (z7U hu) lk2 (qx_v (vg 1 z60)) z02 (z0I _)) (z0b (z0m (QF.qx (z5m (tg:=(.nm 0)) (ct:=none) rfl (qi_x (qx_v (vg 0 z3U))) rfl (z7e.ok (N':=["cell","free"]) (xn:=["cells","free","places","cell"]) (nt:=1) (js:=[1]) (osc:=z00 z0N) rfl rfl (by decide +kernel)) rfl (fun C s2 H2 fp=>(z7H (i:=0) (show Nd ["cell","free"] from by decide) rfl rfl)) trivial (fun C s2 H2 fp=>(z0T q7 (hr.mono (by decide)) z0o (z01 (qx_v (qv 0)) (z01 (qx_v (qv 1)) z04)) (by rfl) z4N)))))) z1u)
   (z06 (zdp (ag 2 z39.nd z23 (z9m z04)))
   (z06 (z9j (js:=[]) (g:=(.nm 3)) PassesOwn.never rfl (qi_x (qx_v (vg 0 z3U))) (ng 3 z39.nd z3T) (z0b (zdq (vg 2 z23) (z01 (z0T q6 (hr.mono (by decide)) z0o (z01 (qx_v (vg 3 z3T)) (z01 (qx_v (vg 2 z23)) z04)) (glg rfl) z5J) z04))))
   (z0b (z0m (qx_v (vg 2 z23)))))))
theorem z6P (F:Fun K "turn_among" "turn_among" z0M f fd):Fk P w K mg base 1 f fd ["start","middle","end"] z2L:=by
 refine fnN F z35 rfl rfl (fun cdv A outer s H E hr => ?_)
 have hu:=hr.units
 exact(z06 (z0n (ag 3 z35.nd z3S (z03 z1H lk2 (z03 z0k lk2 (z0g (qx_v (vg 1 z1d)) z02 (fun _ _=>rfl)) (z0g (qx_v (vg 2 z1c)) z02 (fun _ _=>rfl))) (z03 z0k lk2 (z0g (qx_v (vg 2 z1c)) z02 (fun _ _=>rfl)) (z0g (qx_v (vg 1 z1d)) z02 (fun _ _=>rfl))))))
   (z06 (z0n (ag 4 z35.nd z3R (z03 z1H lk2 (z03 z0k lk2 (z0g (qx_v (vg 1 z1d)) z02 (fun _ _=>rfl)) (z0g (qx_v (vg 2 z1c)) z02 (fun _ _=>rfl))) (z03 z0k lk2 (z0g (qx_v (vg 2 z1c)) z02 (fun _ _=>rfl)) (z0g (qx_v (vg 1 z1d)) z02 (fun _ _=>rfl))))))
   (z0b (z0m (z03 z1v lk2 (z03 z1H lk2 (z03 z0k lk2 (z0g (qx_v (vg 0 z2U)) z02 (fun _ _=>rfl)) (qx_v (vg 4 z3R))) (z03 z0k lk2 (z0g (qx_v (vg 0 z2U)) z02 (fun _ _=>rfl)) (qx_v (vg 3 z3S)))) (z03 z0k lk2 (z0g (qx_v (vg 0 z2U)) z02 (fun _ _=>rfl)) (z03 z1H lk2 (z03 z0k lk2 (z0g (qx_v (vg 1 z1d)) z02 (fun _ _=>rfl)) (z0g (qx_v (vg 2 z1c)) z02 (fun _ _=>rfl))) (z03 z0k lk2 (z0g (qx_v (vg 1 z1d)) z02 (fun _ _=>rfl)) (z0g (qx_v (vg 2 z1c)) z02 (fun _ _=>rfl))))))))))
theorem z8K (F:Fun K "chain_of" "chain_of" z1B f fd)(tb:FTab P w K mg base (CXe P w) 1 zeP):Fk P w K mg base 2 f fd ["spots","turn"] z31:=by
 refine fnN F z42 rfl rfl (fun cdv A outer s H E hr => ?_)
 have hu:=hr.units
 exact(z06 (zdp (ag 2 z42.nd z1l (z9m z04)))
   (z06 (z9j (js:=[]) (g:=(.nm 3)) PassesOwn.never rfl (qi_x (qx_v (vg 0 z83))) (ng 3 z42.nd z3z) (z06 (z9i PassesOwn.never (QW.pt (z5k (z1f (z7U hu) lk2 (z2Z z2i lkN (glg rfl) T.n_len z3O (z01 (qx_v (vg 2 z1l)) z04) z3M z3N) z02 (z0I _)) (z4e (z1f (zgn hu) lk2 (zcl tb (hr.mono (by decide)) z0o (vg 1 z82) (z01 (z0g (qx_v (vg 2 z1l)) (zaU z7O lk1 z02) (fun _ _=>rfl)) (z01 (z0g (qx_v (vg 2 z1l)) (zaU z7O lk1 z02) (fun _ _=>rfl)) (z01 (qx_v (vg 3 z3z)) z04)))) z02 (z0I _))))) (z0b (zfA (vg 2 z1l))))
   (z0b (zdq (vg 2 z1l) (z01 (qx_v (vg 3 z3z)) z04)))))
   (z0b (z0m (qx_v (vg 2 z1l))))))
theorem z5U (F:Fun K "least_round" "least_round" z0Q f fd)(q8:Cl P w K mg base 2 "chain_of" ["spots","turn"] z31):Fk P w K mg base 3 f fd ["rising","turn"] z2l:=by
 refine fnN F z2N rfl rfl (fun cdv A outer s H E hr => ?_)
 have hu:=hr.units
 exact(z06 (z2P (z1f (z8M hu) lk2 (z2Z z2i lkN (glg rfl) T.n_len z3O (z01 (qx_v (vg 0 z1N)) z04) z3M z3N) z02 (z0I _)) (z0b (z0m (z9k z5b lkN (glg rfl) T.n_tuple z46 (z01 (qx_v (vg 0 z1N)) z04) z43 z45))) z1u)
   (z06 (z0n (ag 2 z2N.nd z3r (z0T q8 (hr.mono (by decide)) z0o (z01 (qx_v (vg 0 z1N)) (z01 (qx_v (vg 1 z3s)) z04)) (glg rfl) z6q)))
   (z06 (z0n (ag 3 z2N.nd z3q (z0T q8 (hr.mono (by decide)) z0o (z01 (QF.qx (z4E rfl (glg rfl) T.n_list (glg rfl) T.n_reversed (z01 (qx_v (vg 0 z1N)) z04))) (z01 (qx_v (vg 1 z3s)) z04)) (glg rfl) z6q)))
   (z0b (z0m (z9k z5b lkN (glg rfl) T.n_tuple z46 (z01 (z03 z1v lk2 (zck (qx_v (vg 2 z3r)) z5l (z4D (zaU z7O lk1 z02))) (zck (qx_v (vg 3 z3q)) z5l (z4D (zaU z7O lk1 z02)))) z04) z43 z45))))))
theorem z57 (F:Fun K "rising_places" "rising_places" z0p f fd):Fk P w K mg base 1 f fd ["places"] z1P:=by
 exact fnL F z1y T.lam rfl fun cdv A outer s H E hr hu hlam=>(z06 (z0n (ag 1 z1y.nd z1X (QF.qx (za1 hu rfl (glg rfl) T.n_sorted (glg rfl) T.n_set (z01 (qx_v (vg 0 z4K)) z04)))))
   (z06 (z0n (ag 2 z1y.nd z1W (ze2 rfl (glg rfl) T.n_max (QF.qx (z5m (tg:=(.nm 0)) (ct:=none) rfl (qi_x (qx_v (vg 1 z1X))) rfl (z7e.ok (N':=["place"]) (xn:=["places","apart","great","times"]) (nt:=1) (js:=[]) (osc:=z00 z0p) rfl rfl (by decide +kernel)) rfl (fun C s2 H2 fp=>(z7H (i:=0) (show Nd ["place"] from by decide) rfl rfl)) trivial (fun C s2 H2 fp=>(z0g (qx_v (qv 0)) z02 (fun _ _=>rfl))))) z02)))
   (z06 (z0n (ag 3 z1y.nd z4J (z03 z0k lk2 (qx_v (vg 2 z1W)) (qx_v (vg 2 z1W)))))
   (z0b (z0m (QF.qx (zco rfl hr (glg rfl) T.n_sorted hlam (qx_v (vg 1 z1X)) rfl rfl rfl (z7e.ok (N':=["place","times"]) (xn:=["places","apart","great","times"]) (nt:=1) (js:=[3]) (osc:=z00 z0p) rfl rfl (by decide +kernel)) rfl rfl (fun _ _ _ _ _ _ _ _=>rfl) (fun _ _ _ _ _=>(z5j (z01 (z03 z1s lk2 (z03 z0k lk2 (z0g (qx_v (qv 0)) z02 (fun _ _=>rfl)) (qx_v (qv 1))) (z0g (qx_v (qv 0)) z02 (fun _ _=>rfl))) (z01 (z03 z1s lk2 (z03 z0k lk2 (z0g (qx_v (qv 0)) z02 (fun _ _=>rfl)) (qx_v (qv 1))) (z0g (qx_v (qv 0)) z02 (fun _ _=>rfl))) z04)))))))))))
theorem za6 (F:Fun K "area_of" "area_of" z3F f fd)(q9:Cl P w K mg base 3 "least_round" ["rising","turn"] z2l)(qa:Cl P w K mg base 1 "turn_among" ["start","middle","end"] z2L)(qb:Cl P w K mg base 1 "rising_places" ["places"] z1P):Fk P w K mg base 4 f fd ["places"] z10:=by
 refine fnN F z9X rfl rfl (fun cdv A outer s H E hr => ?_)
 have hu:=hr.units
 exact(z0b (z0m (z0T q9 (hr.mono (by decide)) z0o (z01 (z0T qb (hr.mono (by decide)) z0o (z01 (qx_v (vg 0 z8T)) z04) (glg rfl) z5H) (z01 (zfD (n:=1) rfl (glg rfl) qa z88) z04)) (glg rfl) z7a)))
theorem z8I (F:Fun K "_law_step" "_law_step" z2r f fd):Fk P w K mg base 1 f fd ["one","other"] z0f:=by
 refine fnN F z8A rfl rfl (fun cdv A outer s H E hr => ?_)
 have hu:=hr.units
 exact(z0b (z0m (z5j (z01 (z03 z1H lk2 (z03 z0k lk2 (z0g (qx_v (vg 1 z2D)) z02 (fun _ _=>rfl)) (z0g (qx_v (vg 0 z2E)) z02 (fun _ _=>rfl))) (z03 z0k lk2 (z0g (qx_v (vg 0 z2E)) z02 (fun _ _=>rfl)) (z0g (qx_v (vg 1 z2D)) z02 (fun _ _=>rfl)))) (z01 (z03 z1H lk2 (z03 z0k lk2 (z0g (qx_v (vg 1 z2D)) z02 (fun _ _=>rfl)) (z0g (qx_v (vg 0 z2E)) z02 (fun _ _=>rfl))) (z03 z0k lk2 (z0g (qx_v (vg 0 z2E)) z02 (fun _ _=>rfl)) (z0g (qx_v (vg 1 z2D)) z02 (fun _ _=>rfl)))) z04)))))
theorem z6T (F:Fun K "_law_before" "_law_before" z1n f fd)(qc:Cl P w K mg base 1 "_law_step" ["one","other"] z0f):Fk P w K mg base 2 f fd ["one","other"] z1g:=by
 refine fnN F z4c rfl rfl (fun cdv A outer s H E hr => ?_)
 have hu:=hr.units
 exact(z06 (z0n (ag 2 z4c.nd z25 (z0T qc (hr.mono (by decide)) z0o (z01 (qx_v (vg 0 z62)) (z01 (qx_v (vg 1 z61)) z04)) (glg rfl) z1Y)))
   (z0b (z0m (zhG (z4U (z7U hu) lk2 (z0g (qx_v (vg 2 z25)) z02 (fun _ _=>rfl)) z02 (z0I _)) (z7D (z9l (z4U (z5s hu) lk2 (z0g (qx_v (vg 2 z25)) z02 (fun _ _=>rfl)) z02 (z0I _)) (z7D (z4U (z7U hu) lk2 (z0g (qx_v (vg 2 z25)) z02 (fun _ _=>rfl)) z02 (z0I _)))))))))
theorem z8G (F:Fun K "_law_turn" "_law_turn" z2q f fd):Fk P w K mg base 1 f fd ["one","other"] z0L:=by
 refine fnN F z8z rfl rfl (fun cdv A outer s H E hr => ?_)
 have hu:=hr.units
 exact(z0b (z0m (z03 z1H lk2 (z03 z0k lk2 (z0g (qx_v (vg 0 z4W)) z02 (fun _ _=>rfl)) (z0g (qx_v (vg 1 z4V)) z02 (fun _ _=>rfl))) (z03 z0k lk2 (z0g (qx_v (vg 0 z4W)) z02 (fun _ _=>rfl)) (z0g (qx_v (vg 1 z4V)) z02 (fun _ _=>rfl))))))
theorem za5 (F:Fun K "_law_dot" "_law_dot" z2X f fd):Fk P w K mg base 1 f fd ["one","other"] z1Q:=by
 refine fnN F z9W rfl rfl (fun cdv A outer s H E hr => ?_)
 have hu:=hr.units
 exact(z0b (z0m (z03 z1v lk2 (z03 z0k lk2 (z0g (qx_v (vg 0 z5z)) z02 (fun _ _=>rfl)) (z0g (qx_v (vg 1 z5y)) z02 (fun _ _=>rfl))) (z03 z0k lk2 (z0g (qx_v (vg 0 z5z)) z02 (fun _ _=>rfl)) (z0g (qx_v (vg 1 z5y)) z02 (fun _ _=>rfl))))))
theorem z6Q (F:Fun K "_law_within" "_law_within" z11 f fd)(qc:Cl P w K mg base 1 "_law_step" ["one","other"] z0f)(qd:Cl P w K mg base 1 "_law_turn" ["one","other"] z0L)(qe:Cl P w K mg base 1 "_law_dot" ["one","other"] z1Q):Fk P w K mg base 2 f fd ["corners","place"] z0B:=by
 refine fnN F z36 rfl rfl (fun cdv A outer s H E hr => ?_)
 have hu:=hr.units
 exact(z06 (z2P (z1f (z8M hu) lk2 (z2Z z2i lkN (glg rfl) T.n_len z3O (z01 (qx_v (vg 0 z0E)) z04) z3M z3N) z02 (z0I _)) (z0b (z0m (z4U (zi7 hu) lk2 (qx_v (vg 1 z2W)) (qx_v (vg 0 z0E)) (by with_unfolding_all rfl)))) z1u)
   (z06 (z6I (g:=(.nm 2)) PassesOwn.never rfl (glg rfl) T.n_range (z01 (z2Z z2i lkN (glg rfl) T.n_len z3O (z01 (qx_v (vg 0 z0E)) z04) z3M z3N) z04) (ng 2 z36.nd z1w) (z06 (z0n (ag 3 z36.nd z2V (z0T qc (hr.mono (by decide)) z0o (z01 (z0g (qx_v (vg 0 z0E)) (z03 z1H lk2 (qx_v (vg 2 z1w)) z02) (fun _ _=>rfl)) (z01 (z0g (qx_v (vg 0 z0E)) (qx_v (vg 2 z1w)) (fun _ _=>rfl)) z04)) (glg rfl) z1Y)))
   (z06 (z2P (z1f (z8M hu) lk2 (z0T qd (hr.mono (by decide)) z0o (z01 (qx_v (vg 3 z2V)) (z01 (z0T qc (hr.mono (by decide)) z0o (z01 (z0g (qx_v (vg 0 z0E)) (z03 z1H lk2 (qx_v (vg 2 z1w)) z02) (fun _ _=>rfl)) (z01 (qx_v (vg 1 z2W)) z04)) (glg rfl) z1Y) z04)) (glg rfl) z5I) z02 (z0I _)) (z0b (z0m z4C)) z1u)
   (z0b (z2P (QW.pt (z5k (z1f (z5s hu) lk2 (z2Z z2i lkN (glg rfl) T.n_len z3O (z01 (qx_v (vg 0 z0E)) z04) z3M z3N) z02 (z0I _)) (z4e (z1f (z8M hu) lk2 (z0T qe (hr.mono (by decide)) z0o (z01 (qx_v (vg 3 z2V)) (z01 (z0T qc (hr.mono (by decide)) z0o (z01 (z0g (qx_v (vg 0 z0E)) (z03 z1H lk2 (qx_v (vg 2 z1w)) z02) (fun _ _=>rfl)) (z01 (qx_v (vg 1 z2W)) z04)) (glg rfl) z1Y) z04)) (glg rfl) zai) z02 (z0I _))))) (z0b (z0m z4C)) z1u)))))
   (z0b (z0m z4C))))
theorem z7Q (F:Fun K "_law_whole" "_law_whole" z2B f fd):Fk P w K mg base 1 f fd ["found"] z1p:=by
 refine fnN F z7y rfl rfl (fun cdv A outer s H E hr => ?_)
 have hu:=hr.units
 exact(z0b (z0m (z9l (z7E (T:="int") (by decide) (glg rfl) T.n_isinstance (qx_v (vg 0 z4q)) (z5n (v :=.ty "int") (glg rfl) T.n_int ziB rfl zii zix)) (z7D (zfC (z7E (T:="bool") (by decide) (glg rfl) T.n_isinstance (qx_v (vg 0 z4q)) (z5n (v :=.ty "bool") (glg rfl) T.n_bool zhj rfl zgM zh8)))))))
theorem z7R (F:Fun K "_law_place" "_law_place" z27 f fd)(qf:Cl P w K mg base 1 "_law_whole" ["found"] z1p)(q1:Cl P w K mg base 2 "_law_lowest" ["x","y","bottom"] z08):Fk P w K mg base 3 f fd ["found"] z0X:=by
 refine fnN F z7z rfl rfl (fun cdv A outer s H E hr => ?_)
 have hu:=hr.units
 exact(z06 (z2P (QW.pt (z7F (z3a (z3b (z7E (T:="tuple") (by decide) (glg rfl) T.n_isinstance (qx_v (vg 0 z0O)) (z5n (v :=.ty "tuple") (glg rfl) T.n_tuple z46 rfl z43 z45)))) (z7F (z1f (zgm hu) lk2 (z2Z z2i lkN (glg rfl) T.n_len z3O (z01 (qx_v (vg 0 z0O)) z04) z3M z3N) z02 (z0I _)) (z6J (z3a (z3b (z2Z (zdI rfl) lkN (glg rfl) T.n_all zhk (z01 (QF.qx (z5m (tg:=(.nm 0)) (ct:=none) rfl (qi_x (qx_v (vg 0 z0O))) rfl (z7e.ok (N':=["number"]) (xn:=["found"]) (nt:=1) (js:=[]) (osc:=z00 z27) rfl rfl (by decide +kernel)) rfl (fun C s2 H2 fp=>(z7H (i:=0) (show Nd ["number"] from by decide) rfl rfl)) trivial (fun C s2 H2 fp=>(z0T qf (hr.mono (by decide)) z0o (z01 (qx_v (qv 0)) z04) (by rfl) z89)))) z04) zgN zh9))))))) (z0b (z0m z4C)) z1u)
   (z0b (z0m (z9l (z4U (z7U hu) lk2 (z0g (qx_v (vg 0 z0O)) z02 (fun _ _=>rfl)) z02 (z0I _)) (z7D (z4U (z5s hu) lk2 (z0T q1 (hr.mono (by decide)) z0o (z01 (z0g (qx_v (vg 0 z0O)) z02 (fun _ _=>rfl)) (z01 (z0g (qx_v (vg 0 z0O)) z02 (fun _ _=>rfl)) (z01 (z0g (qx_v (vg 0 z0O)) z02 (fun _ _=>rfl)) z04))) (glg rfl) z1R) (qx_v (vg 0 z0O)) (z0I _)))))))
theorem z5W (F:Fun K "_law_corners" "_law_corners" z0R f fd)(qc:Cl P w K mg base 1 "_law_step" ["one","other"] z0f)(qd:Cl P w K mg base 1 "_law_turn" ["one","other"] z0L)(qg:Cl P w K mg base 2 "_law_within" ["corners","place"] z0B)(qh:Cl P w K mg base 3 "_law_place" ["found"] z0X)(qi:Cl P w K mg base 2 "_law_before" ["one","other"] z1g):Fk P w K mg base 4 f fd ["found"] z14:=by
 refine fnN F z20 rfl rfl (fun cdv A outer s H E hr => ?_)
 have hu:=hr.units
 exact(z06 (z2P (QW.pt (z7F (z3a (z3b (z7E (T:="tuple") (by decide) (glg rfl) T.n_isinstance (qx_v (vg 0 z0d)) (z5n (v :=.ty "tuple") (glg rfl) T.n_tuple z46 rfl z43 z45)))) (z6J (z3a (z3b (z2Z (zdI rfl) lkN (glg rfl) T.n_all zhk (z01 (QF.qx (z5m (tg:=(.nm 0)) (ct:=none) rfl (qi_x (qx_v (vg 0 z0d))) rfl (z7e.ok (N':=["place"]) (xn:=["found","k","side"]) (nt:=1) (js:=[]) (osc:=z00 z0R) rfl rfl (by decide +kernel)) rfl (fun C s2 H2 fp=>(z7H (i:=0) (show Nd ["place"] from by decide) rfl rfl)) trivial (fun C s2 H2 fp=>(z0T qh (hr.mono (by decide)) z0o (z01 (qx_v (qv 0)) z04) (by rfl) z8a)))) z04) zgN zh9)))))) (z0b (z0m z4C)) z1u)
   (z06 (zcj (g:=(.nm 1)) PassesOwn.never rfl (glg rfl) T.n_range (z01 z02 (z01 (z2Z z2i lkN (glg rfl) T.n_len z3O (z01 (qx_v (vg 0 z0d)) z04) z3M z3N) z04)) (ng 1 z20.nd z0x) (z0b (z2P (z3a (z3b (z0T qi (hr.mono (by decide)) z0o (z01 (z0g (qx_v (vg 0 z0d)) z02 (fun _ _=>rfl)) (z01 (z0g (qx_v (vg 0 z0d)) (qx_v (vg 1 z0x)) (fun _ _=>rfl)) z04)) (glg rfl) z7c))) (z0b (z0m z4C)) z1u)))
   (z06 (z2P (z1f (z8M hu) lk2 (z2Z z2i lkN (glg rfl) T.n_len z3O (z01 (qx_v (vg 0 z0d)) z04) z3M z3N) z02 (z0I _)) (z0b (z0m z4C)) z1u)
   (z06 (z6I (g:=(.nm 1)) PassesOwn.never rfl (glg rfl) T.n_range (z01 (z2Z z2i lkN (glg rfl) T.n_len z3O (z01 (qx_v (vg 0 z0d)) z04) z3M z3N) z04) (ng 1 z20.nd z0x) (z06 (z0n (ag 2 z20.nd z3u (z0T qc (hr.mono (by decide)) z0o (z01 (z0g (qx_v (vg 0 z0d)) (z03 z1H lk2 (qx_v (vg 1 z0x)) z02) (fun _ _=>rfl)) (z01 (z0g (qx_v (vg 0 z0d)) (z03 z1H lk2 (qx_v (vg 1 z0x)) z02) (fun _ _=>rfl)) z04)) (glg rfl) z1Y)))
   (z0b (z2P (QW.pt (z7F (z1f (zgn hu) lk2 (z0T qd (hr.mono (by decide)) z0o (z01 (qx_v (vg 2 z3u)) (z01 (z0T qc (hr.mono (by decide)) z0o (z01 (z0g (qx_v (vg 0 z0d)) (z03 z1H lk2 (qx_v (vg 1 z0x)) z02) (fun _ _=>rfl)) (z01 (z0g (qx_v (vg 0 z0d)) (qx_v (vg 1 z0x)) (fun _ _=>rfl)) z04)) (glg rfl) z1Y) z04)) (glg rfl) z5I) z02 (z0I _)) (z6J (z3a (z3b (z0T qg (hr.mono (by decide)) z0o (z01 (qx_v (vg 0 z0d)) (z01 (z0g (qx_v (vg 0 z0d)) (qx_v (vg 1 z0x)) (fun _ _=>rfl)) z04)) (glg rfl) z4s)))))) (z0b (z0m z4C)) z1u))))
   (z0b (z0m z4C))))))
theorem z8H (F:Fun K "_law_told" "_law_told" z1A f fd)(qj:Cl P w K mg base 4 "area_of" ["places"] z10)(qg:Cl P w K mg base 2 "_law_within" ["corners","place"] z0B)(qk:Cl P w K mg base 4 "_law_corners" ["found"] z14):Fk P w K mg base 5 f fd ["places"] z19:=by
 refine fnN F z37 rfl rfl (fun cdv A outer s H E hr => ?_)
 have hu:=hr.units
 exact(z06 (z0n (ag 1 z37.nd z28 (z0T qj (hr.mono (by decide)) z0o (z01 (z9k z5b lkN (glg rfl) T.n_tuple z46 (z01 (qx_v (vg 0 z29)) z04) z43 z45) z04) (glg rfl) z3A)))
   (z06 (z2P (z3a (z3b (z0T qk (hr.mono (by decide)) z0o (z01 (qx_v (vg 1 z28)) z04) (glg rfl) z65))) (z0b (z0m z4C)) z1u)
   (z06 (z9j (js:=[]) (g:=(.nm 2)) PassesOwn.never rfl (qi_x (qx_v (vg 1 z28))) (ng 2 z37.nd z4Y) (z0b (z2P (z1f (zcI hu) lk2 (qx_v (vg 2 z4Y)) (qx_v (vg 0 z29)) (by with_unfolding_all rfl)) (z0b (z0m z4C)) z1u)))
   (z06 (z9j (js:=[]) (g:=(.nm 3)) PassesOwn.never rfl (qi_x (qx_v (vg 0 z29))) (ng 3 z37.nd z4X) (z0b (z2P (z3a (z3b (z0T qg (hr.mono (by decide)) z0o (z01 (qx_v (vg 1 z28)) (z01 (qx_v (vg 3 z4X)) z04)) (glg rfl) z4s))) (z0b (z0m z4C)) z1u)))
   (z0b (z0m (z4U (z5s hu) lk2 (z0T qj (hr.mono (by decide)) z0o (z01 (z9k z5b lkN (glg rfl) T.n_tuple z46 (z01 (z03 z1v lk2 (zfB (qx_v (vg 0 z29)) z5l z5l (zaU z7O lk1 z02)) (zck (qx_v (vg 0 z29)) z5l (z4D z02))) z04) z43 z45) z04) (glg rfl) z3A) (qx_v (vg 1 z28)) (z0I _))))))))
theorem zgl (F:Fun K "law" "law" z3P f fd)(qj:Cl P w K mg base 4 "area_of" ["places"] z10)(ql:Cl P w K mg base 1 "_law_cell_at" ["script","k"] z15)(qm:Cl P w K mg base 5 "_law_places" ["cells","free"] z0P)(qn:Cl P w K mg base 5 "_law_told" ["places"] z19):Fk P w K mg base 6 f fd ["script"] z5F:=by
 refine fnN F z5i rfl rfl (fun cdv A outer s H E hr => ?_)
 have hu:=hr.units
 exact(z06 (z0n (ag 1 z5i.nd z76 (z0T ql (hr.mono (by decide)) z0o (z01 (qx_v (vg 0 zbx)) (z01 z02 z04)) (glg rfl) z66)))
   (z06 (z0n (ag 2 z5i.nd z8S (z03 z0k lk2 z02 (z03 z1I lk2 (qx_v (vg 1 z76)) z02))))
   (z06 (z0n (ag 3 z5i.nd z75 (z03 z1v lk2 (QF.qx (z9m (z01 (z03 z1s lk2 (qx_v (vg 1 z76)) z02) z04))) (zck (qx_v (vg 0 zbx)) (z4D z02) (z4D z02)))))
   (z06 (z2P (QW.pt (z5k (z1f (z5s hu) lk2 (z03 z1I lk2 (z03 z1s lk2 (qx_v (vg 1 z76)) z02) z02) z02 (z0I _)) (z4e (z1f (z5s hu) lk2 (qx_v (vg 2 z8S)) z02 (z0I _))))) (z0b (z0n (ag 3 z5i.nd z75 (z03 z1v lk2 (qx_v (vg 3 z75)) (QF.qx (z5m (tg:=(.nm 0)) (ct:=none) rfl (za0 (glg rfl) T.n_range (z01 z02 (z01 z02 z04))) rfl (z7e.ok (N':=["k","first"]) (xn:=["script","first","free","cells","places","one"]) (nt:=1) (js:=[1]) (osc:=z00 z3P) rfl rfl (by decide +kernel)) rfl (fun C s2 H2 fp=>(z7H (i:=0) (show Nd ["k","first"] from by decide) rfl rfl)) trivial (fun C s2 H2 fp=>(z03 z1v lk2 (qx_v (qv 1)) (z03 z0k lk2 z02 (qx_v (qv 0))))))))))) z1u)
   (z06 (z0n (ag 4 z5i.nd z8R (z0T qm (hr.mono (by decide)) z0o (z01 (qx_v (vg 3 z75)) (z01 (qx_v (vg 2 z8S)) z04)) (glg rfl) z7b)))
   (z06 (z2P (QW.pt (z7F (z1f (zgm hu) lk2 (z2Z z2i lkN (glg rfl) T.n_len z3O (z01 (z0T qj (hr.mono (by decide)) z0o (z01 (z5j z04) z04) (glg rfl) z3A) z04) z3M z3N) z02 (z0I _)) (z6J (z3a (z3b (z7E (T:="tuple") (by decide) (glg rfl) T.n_isinstance (z0T qj (hr.mono (by decide)) z0o (z01 (z5j z04) z04) (glg rfl) z3A) (z5n (v :=.ty "tuple") (glg rfl) T.n_tuple z46 rfl z43 z45))))))) (z0b (z0m z4C)) z1u)
   (z06 (z0n (ag 5 z5i.nd z8Q (z0g (qx_v (vg 4 z8R)) z02 (fun _ _=>rfl))))
   (z0b (z0m (z9l (z4U (z5s hu) lk2 (z0T qj (hr.mono (by decide)) z0o (z01 (z5j (z01 (qx_v (vg 5 z8Q)) z04)) z04) (glg rfl) z3A) (z5j (z01 (qx_v (vg 5 z8Q)) z04)) (z0I _)) (z7D (z0T qn (hr.mono (by decide)) z0o (z01 (qx_v (vg 4 z8R)) z04) (glg rfl) z8W))))))))))))
end
def zhq {l:PySem.W.OpenLaw}{w:World}{K:W.Frag}{h:Heap}{mg:Str->Option Value}{fa f0 f1 f2 f3 f4 f5 f6 f7 f8 f9 f10 f11 f12 f13 f14 f15 f16 f17 f18 f19 f20 f21 f22 f23 f24:Addr}(X:K.In h)(G:h.Ns mainGlobals mg)(hfa:mg "law"=some (.ref fa))
  (d0:Std K "_law_cell_at" z1t f0)
  (d1:Std K "_law_size" z1U f1)
  (d2:Std K "_law_digit" z1E f2)
  (d3:Std K "_law_measure" z1a f3)
  (d4:Std K "_law_lowest" z12 f4)
  (d5:Std K "_law_place_free" z0j f5)
  (d6:Std K "_law_mixed" z1D f6)
  (d7:Std K "_law_between" z0v f7)
  (d8:Std K "_law_place_by" z0h f8)
  (d9:Std K "_law_places" z0N f9)
  (d10:Std K "turn_among" z0M f10)
  (d11:Std K "chain_of" z1B f11)
  (d12:Std K "least_round" z0Q f12)
  (d13:Std K "rising_places" z0p f13)
  (d14:Std K "area_of" z3F f14)
  (d15:Std K "_law_step" z2r f15)
  (d16:Std K "_law_before" z1n f16)
  (d17:Std K "_law_turn" z2q f17)
  (d18:Std K "_law_dot" z2X f18)
  (d19:Std K "_law_within" z11 f19)
  (d20:Std K "_law_whole" z2B f20)
  (d21:Std K "_law_place" z27 f21)
  (d22:Std K "_law_corners" z0R f22)
  (d23:Std K "_law_told" z1A f23)
  (d24:Std K "law" z3P f24)
  (z_abs:PySem.W.nsIn K mainGlobals "abs"=some none)
  (z_all:PySem.W.nsIn K mainGlobals "all"=some none)
  (z_bool:PySem.W.nsIn K mainGlobals "bool"=some none)
  (z_int:PySem.W.nsIn K mainGlobals "int"=some none)
  (z_isinstance:PySem.W.nsIn K mainGlobals "isinstance"=some none)
  (z_len:PySem.W.nsIn K mainGlobals "len"=some none)
  (z_list:PySem.W.nsIn K mainGlobals "list"=some none)
  (z_max:PySem.W.nsIn K mainGlobals "max"=some none)
  (z_range:PySem.W.nsIn K mainGlobals "range"=some none)
  (z_reversed:PySem.W.nsIn K mainGlobals "reversed"=some none)
  (z_set:PySem.W.nsIn K mainGlobals "set"=some none)
  (z_sorted:PySem.W.nsIn K mainGlobals "sorted"=some none)
  (z_tuple:PySem.W.nsIn K mainGlobals "tuple"=some none)
  (z_fnturn_by:PySem.W.nsIn K mainGlobals "turn_by"=some none)
  (z_fnstep_of:PySem.W.nsIn K mainGlobals "step_of"=some none)
  (z_fnstep_among:PySem.W.nsIn K mainGlobals "step_among"=some none)
  (z_fn:PySem.W.nsIn K mainGlobals ""=some none)
  (ff_lam:z9C K=true)
  : ∃ fd:FuncData,(∀ (s:Shared) (v:Value),BindsTo s fd ⟨[v],[]⟩ [("script",v)])/\∀ base:Heap,K.In base->base.Ns mainGlobals mg->FnOk l.prog w K mg base (CXe l.prog w) 6 fa fd ["script"] (spL K):=by
 have T:Txt K mg:=⟨trivial,PySem.W.mg_none_of X G z_abs,PySem.W.mg_none_of X G z_all,PySem.W.mg_none_of X G z_bool,PySem.W.mg_none_of X G z_int,PySem.W.mg_none_of X G z_isinstance,PySem.W.mg_none_of X G z_len,PySem.W.mg_none_of X G z_list,PySem.W.mg_none_of X G z_max,PySem.W.mg_none_of X G z_range,PySem.W.mg_none_of X G z_reversed,PySem.W.mg_none_of X G z_set,PySem.W.mg_none_of X G z_sorted,PySem.W.mg_none_of X G z_tuple,ff_lam⟩
 refine zf6 X G d24 hfa (fun _ _ _ _ _ _ s v =>.of_eq rfl) fun base kb nb fd F => ?_
 have qo:Cl l.prog w K mg base _ _ _ _:=z1h X G d0 (by walk_at "c2") fun _ F=>z5X T F
 have qp:Cl l.prog w K mg base _ _ _ _:=z1h X G d1 (by walk_at "c1") fun _ F=>z8J T F
 have qq:Cl l.prog w K mg base _ _ _ _:=z1h X G d2 (by walk_at "c2") fun _ F=>z7T T F
 have qr:Cl l.prog w K mg base _ _ _ _:=z1h X G d3 (by walk_at "c2") fun _ F=>z5V T F
 have qs:Cl l.prog w K mg base _ _ _ _:=z1h X G d4 (by walk_at "c3") fun _ F=>z6S T F qr
 have qt:Cl l.prog w K mg base _ _ _ _:=z1h X G d5 (by walk_at "c2") fun _ F=>z4H T F qs qp qq
 have qu:Cl l.prog w K mg base _ _ _ _:=z1h X G d6 (by walk_at "c2") fun _ F=>z7S T F
 have qw:Cl l.prog w K mg base _ _ _ _:=z1h X G d7 (by walk_at "c4") fun _ F=>z5Y T F qs
 have qy:Cl l.prog w K mg base _ _ _ _:=z1h X G d8 (by walk_at "c2") fun _ F=>z5r T F qs qu qw
 have qz:Cl l.prog w K mg base _ _ _ _:=z1h X G d9 (by walk_at "c2") fun _ F=>z6R T F qy qt
 have q0:Cl l.prog w K mg base _ _ _ _:=z1h X G d10 (by walk_at "c3") fun _ F=>z6P T F
 have FT:FTab l.prog w K mg base (CXe l.prog w) 1 zeP:=FTab.mk (PySem.W.mg_none_of X G z_fn) fun n hn f e=>by
  match n,hn with
  | 0,_=>rw[show z4Z 0="turn_by" from rfl,PySem.W.mg_none_of X G z_fnturn_by] at e; cases e
  | 1,_=>exact q0.tab (by decide) f e
  | 2,_=>rw[show z4Z 2="step_of" from rfl,PySem.W.mg_none_of X G z_fnstep_of] at e; cases e
  | 3,_=>rw[show z4Z 3="step_among" from rfl,PySem.W.mg_none_of X G z_fnstep_among] at e; cases e
 have q1:Cl l.prog w K mg base _ _ _ _:=z1h X G d11 (by walk_at "c2") fun _ F=>z8K T F FT
 have q2:Cl l.prog w K mg base _ _ _ _:=z1h X G d12 (by walk_at "c2") fun _ F=>z5U T F q1
 have q3:Cl l.prog w K mg base _ _ _ _:=z1h X G d13 (by walk_at "c1") fun _ F=>z57 T F
 have q4:Cl l.prog w K mg base _ _ _ _:=z1h X G d14 (by walk_at "c1") fun _ F=>za6 T F q2 q0 q3
 have q5:Cl l.prog w K mg base _ _ _ _:=z1h X G d15 (by walk_at "c2") fun _ F=>z8I T F
 have q6:Cl l.prog w K mg base _ _ _ _:=z1h X G d16 (by walk_at "c2") fun _ F=>z6T T F q5
 have q7:Cl l.prog w K mg base _ _ _ _:=z1h X G d17 (by walk_at "c2") fun _ F=>z8G T F
 have q8:Cl l.prog w K mg base _ _ _ _:=z1h X G d18 (by walk_at "c2") fun _ F=>za5 T F
 have q9:Cl l.prog w K mg base _ _ _ _:=z1h X G d19 (by walk_at "c2") fun _ F=>z6Q T F q5 q7 q8
 have qA:Cl l.prog w K mg base _ _ _ _:=z1h X G d20 (by walk_at "c1") fun _ F=>z7Q T F
 have qB:Cl l.prog w K mg base _ _ _ _:=z1h X G d21 (by walk_at "c1") fun _ F=>z7R T F qA qs
 have qC:Cl l.prog w K mg base _ _ _ _:=z1h X G d22 (by walk_at "c1") fun _ F=>z5W T F q5 q7 q9 qB q6
 have qD:Cl l.prog w K mg base _ _ _ _:=z1h X G d23 (by walk_at "c1") fun _ F=>z8H T F q4 q9 qC
 exact zgR zeE (zgl T F q4 qo qz qD)
def walk {l:PySem.W.OpenLaw}{q:Program}{loose:List Str}{XP:(Str->Option Value)->Heap->Prop}{YP:World->Heap->Prop}{d:DefRec}{K:Params->W.Frag}(hn:l.most=some 63)(hdf:d.params.defaults=[])
  (hY:∀ (w:World) (h:Heap),YP w h->(K w.params).In h) (hT:∀ (w:World) (h:Heap),YP w h->∀ P t,(tsOf (K w.params)).lookup P=some t->h.get? P=some { cls :=.none,data :=.fields #[] })
  (F:∀ (w:World) (mg:Str->Option Value) (fa:Addr) (h:Heap),(K w.params).In h->h.Ns mainGlobals mg->mg d.name=some (.ref fa)->
   ∃ fd:FuncData,(∀ (s:Shared) (u:Value),BindsTo s fd ⟨[u],[]⟩ [("script",u)])/\∀ base:Heap,(K w.params).In base->base.Ns mainGlobals mg->FnOk l.prog w (K w.params) mg base (CXe l.prog w) 6 fa fd ["script"] (spL (K w.params))):
  PySem.W.WalkO q loose XP YP l.row.toRowW d [] (fun f vs=>PySem.call f vs):=
 L2.zdK (n:=63) (k:=6) (x:="script") (CX:=fun w=>(CXe l.prog w)) (sp:=fun w=>spL (K w.params)) hn (by decide) hdf ⟨rfl,by decide,by decide⟩ hY hT F (fun _ _ a ns hl hS=>⟨a,ns,rfl,hS,hl,fun _=>rfl⟩) fun _ _ _ _ _ ⟨_,_,_,_,_,_,_,_,_,z⟩=>z
end My
open PySem PySem.W PyProof.Rows
local macro_rules | `(tactic| walk_at "ks") => `(tactic| (refine' Pu.Std.mk ?a ?l ?c ?k; (case a=>k_is); (case l=>k_is); (case c=>k_is); (case k=>k_is)))
set_option maxRecDepth 100000 in
set_option maxHeartbeats 0 in
theorem PySem.Challenge.cw_closehaul_k35_least_corners_holds : PySem.Challenge.rw_closehaul_k35_least_corners.Holds := by
 w_on; o_law; k_head; (case hw=>w_witness2)
 k_fill
 refine My.walk (l:=PySem.Challenge.rw_closehaul_k35_least_corners) rfl rfl (fun w h Y=>PySem.W.km_in_of Y) (fun w h Y=>Pu.zdQ Y (by kernel_rfl)) ?F
 case F=>
  intro w mg fa h KX G hmg
  refine' My.zhq KX G hmg ?d0 ?d1 ?d2 ?d3 ?d4 ?d5 ?d6 ?d7 ?d8 ?d9 ?d10 ?d11 ?d12 ?d13 ?d14 ?d15 ?d16 ?d17 ?d18 ?d19 ?d20 ?d21 ?d22 ?d23 ?d24 ?z_abs ?z_all ?z_bool ?z_int ?z_isinstance ?z_len ?z_list ?z_max ?z_range ?z_reversed ?z_set ?z_sorted ?z_tuple ?z_fnturn_by ?z_fnstep_of ?z_fnstep_among ?z_fn ?ff_lam
  (case d0=>walk_at "ks")
  (case d1=>walk_at "ks")
  (case d2=>walk_at "ks")
  (case d3=>walk_at "ks")
  (case d4=>walk_at "ks")
  (case d5=>walk_at "ks")
  (case d6=>walk_at "ks")
  (case d7=>walk_at "ks")
  (case d8=>walk_at "ks")
  (case d9=>walk_at "ks")
  (case d10=>walk_at "ks")
  (case d11=>walk_at "ks")
  (case d12=>walk_at "ks")
  (case d13=>walk_at "ks")
  (case d14=>walk_at "ks")
  (case d15=>walk_at "ks")
  (case d16=>walk_at "ks")
  (case d17=>walk_at "ks")
  (case d18=>walk_at "ks")
  (case d19=>walk_at "ks")
  (case d20=>walk_at "ks")
  (case d21=>walk_at "ks")
  (case d22=>walk_at "ks")
  (case d23=>walk_at "ks")
  (case d24=>walk_at "ks")
  (case z_abs=>k_is)
  (case z_all=>k_is)
  (case z_bool=>k_is)
  (case z_int=>k_is)
  (case z_isinstance=>k_is)
  (case z_len=>k_is)
  (case z_list=>k_is)
  (case z_max=>k_is)
  (case z_range=>k_is)
  (case z_reversed=>k_is)
  (case z_set=>k_is)
  (case z_sorted=>k_is)
  (case z_tuple=>k_is)
  (case z_fnturn_by=>k_is)
  (case z_fnstep_of=>k_is)
  (case z_fnstep_among=>k_is)
  (case z_fn=>k_is)
  (case ff_lam=>kernel_rfl)
