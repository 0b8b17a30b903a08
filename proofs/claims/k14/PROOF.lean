import PyProof.Rows.All
import Wide.All
import OpenK.AllK
import Wide.FinOn
import Lean
import PyProof.EqAt
import PyProof.EqKinds
import PyProof.TupleCall
import PyProof.Rows.SortRuns
import KE.KRevIter
import PyProof.SetRoads
import PyProof.ListNew
import PyProof.Rows.ListMulPlace
import PyProof.ZipIter
import PyProof.Rows.ZipGen
import PySem.Challenge.RW_closehaul_k14_whole_joined_in_any_order
namespace PySem.W.Fast
def tw17283207597968498735:=0
def tw2818969739377768712:=0
def tw5501151304482332384:=0
def tw7446984959722976170:=0
def tw3895004363007261708:=0
def tw17213670218309537101:=0
def tw6155070962339916996:=0
def tw14861630096469996526:=0
def tw13978098224835045671:=0
def tw5850899315821901744:=0
def tw9927465006471360761:=0
def tw15968147192454521375:=0
def tw13162830252666632476:=0
def tw2804701566046190344:=0
def tw460819508892613924:=0
def tw8244351348338159873:=0
def tw18043184336689481470:=0
def tw2295971315017505196:=0
def tw6570308043519236161:=0
def tw7649960826139934617:=0
def tw4569726898622020569:=0
def tw2660761979834158850:=0
def tw14014077716437942631:=0
def tw2143956740534473139:=0
def tw5062132893924568420:=0
def tw6571075004795402007:=0
def tw16321259887395590265:=0
def tw9294962736057022141:=0
def tw16322012337771225902:=0
def tw1012939011598147560:=0
def tw5370631460703917579:=0
def tw16820354511174005190:=0
def tw147599306667976363:=0
def tw16284099330050070942:=0
def tw9067304716255824964:=0
def tw8967177439703179427:=0
def tw17667312529785708281:=0
def tw17388664192195893284:=0
def tw6726085415883194850:=0
def tw902656163952772905:=0
def tw4679211797458200684:=0
def tw6560017127909496459:=0
def tw6509343410475638032:=0
def tw1601647037808116699:=0
def tw9561484308325353529:=0
def tw6245147592398036407:=0
def tw14325501297155092399:=0
def tw9770642983654748869:=0
def tw9904949628540430920:=0
def tw610904898054414280:=0
def tw18225823696220445823:=0
def tw8679864172298609631:=0
def tw4322433782103475767:=0
def tw10336275855821470878:=0
def tw3455067418587439904:=0
def tw2763891694889727454:=0
def tw10693639652696656178:=0
def tw12749332581182384826:=0
def tw5767020036446797364:=0
def tw17167038170806957466:=0
def tw3782700220176208044:=0
def tw15396693182894394546:=0
def tw2388192359962530126:=0
def tw14662262626478279757:=0
def tw8886708132733025248:=0
def tw2776287488135892045:=0
def tw10521707421104184049:=0
def tw5604746089576969495:=0
def tw13701106441512349178:=0
def tw10355355124494321138:=0
def tw1390435876930044051:=0
def tw5324988705504375183:=0
def tw9057171700914541091:=0
def tw5631912856536100843:=0
def tw6815679937088105249:=0
def tw4306776413920778267:=0
def tw13840989034433821813:=0
def tw2395511802490036152:=0
def tw6490399759428176966:=0
def tw8646917892169126937:=0
def tw5963088267531691412:=0
def tw14696403901352564508:=0
def tw8880842809342159978:=0
def tw16884881192014521579:=0
def tw15191843661577910875:=0
def tw11399300222514375319:=0
def tw11310393804102738845:=0
def tw6056703521454812514:=0
def tw5011358275062394670:=0
def tw14975361452314064877:=0
def tw1904055111109401330:=0
def tw781030727491606952:=0
def tw13384178193992357912:=0
def tw17084873754848104551:=0
def tw2549547988673381383:=0
def tw8553332184038317097:=0
def tw1919748758303875290:=0
def tw3379973207713676261:=0
def tw871932792493840059:=0
def tw9027051938493430632:=0
def tw14144920896730465704:=0
def tw8537778623719623302:=0
def tw4064097808957141439:=0
def tw16115987725159457929:=0
def tw4981295627488362386:=0
def tw12644843840921135949:=0
def tw9772559584239195020:=0
def tw825408555146954517:=0
def tw7416422019503181738:=0
def tw16955757435174670023:=0
def tw1329140959757263581:=0
def tw18126594569184160163:=0
def tw1992072684184867993:=0
def tw3965628728186984452:=0
def tw11743091258229476611:=0
def tw17030077736450977841:=0
def tw5481137931616949807:=0
def tw13008183693583292709:=0
def tw6106161857203975937:=0
def tw407744986712989812:=0
def tw5374194420838269537:=0
def tw9916093868549204252:=0
def tw9627079939982180413:=0
def tw9507449812833184244:=0
def tw8734892985197712420:=0
def tw7858087272862837526:=0
def tw745978667107803593:=0
def tw7201666862766159683:=0
def tw7025625906672692671:=0
def tw6287458692921425349:=0
def tw6161076734370509876:=0
def tw5680558313846360391:=0
def tw5481286201257816500:=0
def tw5459833378464814836:=0
def tw5003243980376029458:=0
def tw4804325721520576327:=0
def tw4376696355866383118:=0
def tw3864256187050721378:=0
def tw340579690072823321:=0
def tw3058315226065910963:=0
def tw2381402503206339694:=0
def tw17576780357837254482:=0
def tw17024042134883517620:=0
def tw16826598606852555223:=0
def tw16651774967775007799:=0
def tw1647904883464678762:=0
def tw16376218283294030098:=0
def tw16363111959711404417:=0
def tw15898025996090106336:=0
def tw15834780933271142519:=0
def tw15814829851846887588:=0
def tw15122052787953806973:=0
def tw15056120181729822470:=0
def tw14879086520339317626:=0
def tw1486509032706248511:=0
def tw14824254197449041071:=0
def tw14117954849026440748:=0
def tw13752682435535309759:=0
def tw13740736023636098495:=0
def tw13694038245950351855:=0
def tw13248577054451623480:=0
def tw13006459102551766396:=0
def tw12971467693613835201:=0
def tw12700840860971560568:=0
def tw12465188548048881570:=0
def tw120282928507002382:=0
def tw11970313681096284084:=0
def tw11816023239933510589:=0
def tw11138694858592803471:=0
def tw10200396728602671907:=0
end PySem.W.Fast
set_option Elab.async false
set_option linter.all false
set_option maxRecDepth 100000
namespace L2
open PySem PySem.Spec PyProof.Rows
noncomputable abbrev Key:=Sum Int Str
noncomputable def ziR:Key->Value->Bool
 | .inl k,v=>Value.isInt k v
 | .inr x,v=>Value.isStrOf x v
noncomputable def keyH (w:World):Key->Int
 | .inl k=>hashInt k
 | .inr x=>hashStr w x
theorem z15:∀{k:Key}{v:Value},ziR k v=true->(∃i t,k=Sum.inl i/\v=Value.int i t)\/(∃x t,k=Sum.inr x/\v=Value.str x t)
 | .inl i,v,h=>by
  obtain⟨t,e⟩:=Value.isInt_shape (k:=i) (v:=v) h;exact .inl ⟨i,t,rfl,e⟩
 | .inr x,v,h=>by
  obtain⟨t,e⟩:=Value.isStrOf_shape (x:=x) (v:=v) h;exact .inr ⟨x,t,rfl,e⟩
theorem ziQ (a b:Int):decide ((Sum.inl a:Key)=Sum.inl b)=(a == b):=by
 by_cases e:a=b
 ·subst e; simp
 ·have h:¬ (Sum.inl a:Key)=Sum.inl b:=λq=>e (Sum.inl.inj q);rw[decide_eq_false h];exact(beq_eq_false_iff_ne.mpr e).symm
theorem ziN (a b:Str):decide ((Sum.inr a:Key)=Sum.inr b)=decide (a=b):=by
 by_cases e:a=b
 ·subst e; simp
 ·have h:¬ (Sum.inr a:Key)=Sum.inr b:=λq=>e (Sum.inr.inj q);rw[decide_eq_false h,decide_eq_false e]
theorem ziP (a:Int)(b:Str):decide ((Sum.inl a:Key)=Sum.inr b)=false:=decide_eq_false (λq=>nomatch q)
theorem ziO (a:Str)(b:Int):decide ((Sum.inr a:Key)=Sum.inl b)=false:=decide_eq_false (λq=>nomatch q)
noncomputable def zcH (prog:Program)(w:World):PySem.KeyKind prog w Key where
 is:=ziR
 hash:=keyH w
 inj:=λv a b ha hb=>by
  rcases z15 ha with ⟨i,t,rfl,rfl⟩ | ⟨x,t,rfl,rfl⟩
  ·rcases z15 hb with ⟨j,u,rfl,e⟩ | ⟨y,u,rfl,e⟩
   ·injection e with e1 _; rw[e1]
   ·exact nomatch e
  ·rcases z15 hb with ⟨j,u,rfl,e⟩ | ⟨y,u,rfl,e⟩
   ·exact nomatch e
   ·injection e with e1 _; rw[e1]
 byValue:=λk v h=>by
  rcases z15 h with ⟨i,t,rfl,rfl⟩ | ⟨x,t,rfl,rfl⟩ <;> rfl
 pyHash:=λhv h=>by
  rcases z15 hv with ⟨i,t,rfl,rfl⟩ | ⟨x,t,rfl,rfl⟩
  ·exact wpAny_pyHash_int h
  ·exact wpAny_pyHash_str h
 eqBool:=λhu hv h=>by
  rcases z15 hu with ⟨i,t,rfl,rfl⟩ | ⟨x,t,rfl,rfl⟩
  ·rcases z15 hv with ⟨j,u,rfl,rfl⟩ | ⟨y,u,rfl,rfl⟩
   ·rw[ziQ] at h; exact wpAny_eqBool_int h
   ·rw[ziP] at h; exact SeqAt.EqAt.int_str i t y u _ _ _ _ h
  ·rcases z15 hv with ⟨j,u,rfl,rfl⟩ | ⟨y,u,rfl,rfl⟩
   ·rw[ziO] at h; exact SeqAt.EqAt.str_int x t j u _ _ _ _ h
   ·rw[ziN] at h; exact wpAny_eqBool_str h
 «strs»:=λk x t v h=>by
  rcases z15 h with ⟨i,u,rfl,e⟩ | ⟨y,u,rfl,e⟩
  ·exact nomatch e
  ·injection e with e1 _
   subst e1
   cases v <;> rfl
end L2
namespace L2
open PySem PySem.Spec PyProof.Rows
inductive V where
 | non | bl (b:Bool) | int (i:Int) | str (x:Str) | byt (b:Array UInt8) | flt (b:UInt64) | ref (a:Addr) | ty (n:String)
 deriving DecidableEq
noncomputable def RelV:V->Value->Prop
 | .non,u=>u=Value.none
 | .bl b,u=>u=Value.bool b
 | .int i,u=>∃t,u=Value.int i t
 | .str x,u=>∃t,u=Value.str x t
 | .byt b,u=>∃t,u=Value.bytes b t
 | .flt b,u=>∃t,u=Value.float b t
 | .ref a,u=>u=Value.ref a
 | .ty n,u=>u=Value.type n
noncomputable abbrev Vals:List V->List Value->Prop:=Paired RelV
theorem Vals.length {xs:List V}{us:List Value}(r:Vals xs us):xs.length=us.length:=Paired.length r
theorem Vals.get:∀{xs:List V}{us:List Value}{i:Nat}{x:V},Vals xs us->xs[i]? = some x->∃u,us[i]? = some u/\RelV x u
 | _,_,_,_,.nil,e=>by simp at e
 | _,_,0,_,.cons r _,e=>by simp at e; subst e; exact⟨_,rfl,r⟩
 | _,_,i+1,x,.cons _ t,e=>by
  obtain⟨u,h1,h2⟩:=Vals.get (i:=i) (x:=x) t (by simpa using e);exact⟨u,by simpa using h1,h2⟩
theorem Vals.append:∀{xs ys:List V}{us ws:List Value},Vals xs us->Vals ys ws->Vals (xs++ys) (us++ws)
 | _,_,_,_,.nil,s=>s
 | _,_,_,_,.cons r t,s =>.cons r (Vals.append t s)
theorem Vals.take:∀{xs:List V}{us:List Value}(n:Nat),Vals xs us->Vals (xs.take n) (us.take n)
 | _,_,0,_ =>.nil
 | _,_,_+1,.nil =>.nil
 | _,_,n+1,.cons r t =>.cons r (Vals.take n t)
theorem Vals.drop:∀{xs:List V}{us:List Value}(n:Nat),Vals xs us->Vals (xs.drop n) (us.drop n)
 | _,_,0,r=>r
 | _,_,_+1,.nil =>.nil
 | _,_,n+1,.cons _ t=>Vals.drop n t
theorem Vals.none_of:∀{xs:List V}{us:List Value}{i:Nat},Vals xs us->xs[i]? = none->us[i]? = none:=λ{xs us i} r e=>by
 have h1:=r.length;have h2:xs.length<=i:=List.getElem?_eq_none_iff.mp e;exact List.getElem?_eq_none_iff.mpr (by omega)
noncomputable def RelO:Option V->Option Value->Prop
 | some v,some u=>RelV v u
 | none,none=>True
 | _,_=>False
noncomputable def KV {κ:Type}:List (κ × V)->List (κ × Value)->Prop:=Paired λ(p:κ × V) (q:κ × Value)=>p.1=q.1/\RelV p.2 q.2
noncomputable def kV:Key->V
 | .inl i =>.int i
 | .inr x =>.str x
inductive HO where
 | lst (xs:List V)
 | tup (xs:List V)
 | dK (kvs:List (Key × V)) | dT (kvs:List (List Key × V))
 | set (S:Int->Bool) (n:Nat)
 | ins (C dx:Addr) (fs:List (Str × V))
 | own (x:Addr)
 | xd (fs:List (Str × V))
 | met (f x:Addr)
 | rng (lo hi:Int)
 | frz (o:Obj) (u:HO)
 | tbl (ps:Array Value)
 | ext (φ:Heap->Prop)
noncomputable abbrev Hp:=Addr->Option HO
noncomputable def upd (H:Hp)(a:Addr)(o:HO):Hp:=λb=>if b=a then some o else H b
theorem z0t {H:Hp}{a:Addr}{o:HO}:upd H a o a=some o:=by unfold upd; rw[if_pos rfl]
theorem z0f {H:Hp}{a b:Addr}{o:HO}(h:b≠a):upd H a o b=H b:=by unfold upd; rw[if_neg h]
theorem z0D {H:Hp}{a b:Addr}{o:HO}(h:H a=some o)(h':H b=none):a≠b:=by
 intro e; subst e; rw[h] at h'; cases h'
section
variable (P:Program)(w:World)
noncomputable def z1W (H:Hp)(h:Heap)(a:Addr):HO->Prop
 | .lst xs=>xs.length<=sizeLine/\∃(its:List Value) (n:Nat),Vals xs its/\h.get? a=some { cls :=.type "list",data :=.seq its.toArray n }
 | .tup xs=>xs.length<=sizeLine/\∃its:List Value,Vals xs its/\IsTup h a its.toArray
 | .dK kvs=>kvs.length<=sizeLine/\(a == sysModules)=false/\∃vs,KV kvs vs/\h.DictOf (zcH P w) a vs
 | .dT kvs=>kvs.length<=sizeLine/\(a == sysModules)=false/\∃xs:List (List Key × Addr × Value),
   Paired (λ(p:List Key × V) (q:List Key × Addr × Value)=>p.1=q.1/\H q.2.1=some (.tup (p.1.map kV))/\RelV p.2 q.2.2) kvs xs/\
   ∃o es ep,h.get? a=some o/\o.ExactDict/\o.data = .dict es ep/\es.toList=xs.map (entryOfKey (tupleKind (zcH P w)))/\(xs.map (·.1)).Nodup
 | .set S n=>h.SetOf (intKind P w) a S n
 | .ins C dx fs=>H dx=some (.own a)/\fs.length<=1000/\dx≠a/\h.get? a=some (PySem.W.instObj C dx)/\
   ∃mA,h.Ns1 dx mA/\(∀f,RelO (fs.lookup f) (mA f))/\PySem.Within mA (fs.map (·.1))
 | .own _=>∃o,h.get? a=some o
 | .xd fs=>∃mA,h.Ns1 a mA/\∀f,RelO (fs.lookup f) (mA f)
 | .rng lo hi=>∃t u v,h.get? a=some { cls :=.type "range",data :=.fields #[.int lo t,.int hi u,.int 1 v] }
 | .frz o u=>h.get? a=some o/\z1W H h a u
 | .tbl ps=>h.get? a=some { cls :=.none,data :=.fields ps }
 | .met f x=>h.get? a=some (PySem.W.methodObj (.ref f) (.ref x))
 | .ext φ=>φ h/\(∃o,h.get? a=some o)/\∀h1 h2:Heap,φ h1->(∀o,h1.get? a=some o->h2.get? a=some o)->φ h2
noncomputable def HOk (H:Hp)(h:Heap):Prop:=∀a o,H a=some o->z1W P w H h a o
end
section
variable {P:Program}{w:World}{H H':Hp}{h h':Heap}{a:Addr}{o:HO}
theorem z1W.lt (x:z1W P w H h a o):a<h.objs.size:=by
 cases o with
 | lst xs=>obtain⟨_,_,_,_,e⟩:=x; exact Heap.lt_size e
 | tup xs=>obtain⟨_,_,_,p⟩:=x; exact p.lt
 | dK kvs=>obtain⟨_,_,_,_,o,_,_,e,_⟩:=x; exact Heap.lt_size e
 | dT kvs=>obtain⟨_,_,_,_,o,_,_,e,_⟩:=x; exact Heap.lt_size e
 | set S n=>obtain⟨o,_,_,_,e,_⟩:=x; exact Heap.lt_size e
 | ins C dx fs=>obtain⟨_,_,_,e,_⟩:=x; exact Heap.lt_size e
 | own y=>obtain⟨_,e⟩:=x; exact Heap.lt_size e
 | xd fs=>obtain⟨_,⟨_,_,_,e,_⟩,_⟩:=x; exact Heap.lt_size e
 | rng lo hi=>obtain⟨_,_,_,e⟩:=x; exact Heap.lt_size e
 | frz ob u=>obtain⟨e,_⟩:=x; exact Heap.lt_size e
 | tbl ps=>exact Heap.lt_size (show h.get? a=some _ from x)
 | met f y=>exact Heap.lt_size (show h.get? a=some _ from x)
 | ext φ=>obtain⟨_,⟨_,e⟩,_⟩:=x; exact Heap.lt_size e
theorem Paired.mapP {α β:Type}{F G:α->β->Prop}:∀{l₁:List α} {l₂:List β},Paired F l₁ l₂->(∀a b,F a b->G a b)->Paired G l₁ l₂
 | _,_,.nil,_ =>.nil
 | _,_,.cons r t,f =>.cons (f _ _ r) (Paired.mapP t f)
theorem z1W.stay (x:z1W P w H h a o)(k:∀b u,(b=a\/H b=some (.own a))->h.get? b=some u->h'.get? b=some u)
  (ho:∀b,H b=some (.own a)->H' b=some (.own a)) (ht:∀b xs,H b=some (.tup xs)->H' b=some (.tup xs)):z1W P w H' h' a o:=by
 induction o with
 | lst xs=>obtain⟨z,its,n,r,e⟩:=x; exact⟨z,its,n,r,k _ _ (.inl rfl) e⟩
 | tup xs=>obtain⟨z,its,r,ob,e,c⟩:=x; exact⟨z,its,r,ob,k _ _ (.inl rfl) e,c⟩
 | dK kvs=>obtain⟨z,y,vs,r,ob,es,ep,e,c⟩:=x; exact⟨z,y,vs,r,ob,es,ep,k _ _ (.inl rfl) e,c⟩
 | dT kvs=>
  obtain⟨z,y,xs,r,ob,es,ep,e,c⟩:=x;exact⟨z,y,xs,Paired.mapP r λp q z=>⟨z.1,ht _ _ z.2.1,z.2.2⟩,ob,es,ep,k _ _ (.inl rfl) e,c⟩
 | set S n=>obtain⟨ob,es,ep,t,e,c⟩:=x; exact⟨ob,es,ep,t,k _ _ (.inl rfl) e,c⟩
 | ins C dx fs=>
  obtain⟨d,z,ne,e,mA,⟨od,es,ep,e2,c⟩,r⟩:=x;exact⟨ho _ d,z,ne,k _ _ (.inl rfl) e,mA,⟨od,es,ep,k _ _ (.inr d) e2,c⟩,r⟩
 | own y=>obtain⟨ob,e⟩:=x; exact⟨ob,k _ _ (.inl rfl) e⟩
 | xd fs=>obtain⟨mA,⟨od,es,ep,e,c⟩,r⟩:=x; exact⟨mA,⟨od,es,ep,k _ _ (.inl rfl) e,c⟩,r⟩
 | rng lo hi=>obtain⟨t,u,v,e⟩:=x; exact⟨t,u,v,k _ _ (.inl rfl) e⟩
 | frz ob u ih=>obtain⟨e,q⟩:=x; exact⟨k _ _ (.inl rfl) e,ih q⟩
 | tbl ps=>
  have e:h.get? a=some { cls :=.none,data :=.fields ps }:=x;show h'.get? a=some { cls :=.none,data :=.fields ps };exact k a _ (.inl rfl) e
 | met f y=>
  have e:h.get? a=some (PySem.W.methodObj (.ref f) (.ref y)):=x;show h'.get? a=some (PySem.W.methodObj (.ref f) (.ref y));exact k a _ (.inl rfl) e
 | ext φ=>obtain⟨p,⟨o,e⟩,st⟩:=x; exact⟨st _ _ p λo q=>k _ _ (.inl rfl) q,⟨o,k _ _ (.inl rfl) e⟩,st⟩
theorem HOk.lt (x:HOk P w H h)(e:H a=some o):a<h.objs.size:=(x a o e).lt
theorem HOk.fresh (x:HOk P w H h)(e:h.objs.size<=a):H a=none:=by
 cases q:H a with
 | none=>rfl
 | some u=>exact absurd (Nat.lt_of_lt_of_le (x.lt q) e) (Nat.lt_irrefl _)
theorem HOk.kept (x:HOk P w H h)(k:∀b u,h.get? b=some u->h'.get? b=some u):HOk P w H h':=λa o e=>
 (x a o e).stay (λb u _ q=>k b u q) (λ_ q=>q) λ_ _ q=>q
theorem HOk.laid (x:HOk P w H h)(k:∀b u,h.get? b=some u->h'.get? b=some u)(hp:h.objs.size<=a)(new:z1W P w (upd H a o) h' a o):HOk P w (upd H a o) h':=λb u e=>by
 have hn:=x.fresh hp
 by_cases hb:b=a
 ·subst hb; rw[z0t] at e; cases e; exact new
 ·rw[z0f hb] at e;exact(x b u e).stay (λc v _ q=>k c v q) (λc q=>by rw[z0f (z0D q hn)]; exact q) λc xs q=>by rw[z0f (z0D q hn)]; exact q
end
noncomputable def Rd (H:Hp)(a:Addr)(u:HO):Prop:=H a=some u\/∃o,H a=some (.frz o u)
theorem Rd.ok {P:Program}{w:World}{H:Hp}{h:Heap}{a:Addr}{u:HO}(r:Rd H a u)(x:HOk P w H h):z1W P w H h a u:=by
 rcases r with r | ⟨o,r⟩
 ·exact x a u r
 ·obtain⟨_,q⟩:=x a _ r;exact q
noncomputable def Mut:Option HO->Prop
 | some (.lst _)=>True
 | some (.dK _)=>True
 | some (.dT _)=>True
 | some (.set _ _)=>True
 | some (.ins _ _ _)=>True
 | some (.ext _)=>True
 | _=>False
section
variable {P:Program}{w:World}{H:Hp}{h h':Heap}{x e:Addr}{o':HO}
theorem HOk.write (ok:HOk P w H h)(mu:Mut (H x))(he:e=x\/H e=some (.own x))(k:∀b u,b≠e->h.get? b=some u->h'.get? b=some u)(heo:∃u,h'.get? e=some u)
  (new:z1W P w (upd H x o') h' x o'):HOk P w (upd H x o') h':=λb u q=>by
 have nown:∀c y,H c=some (.own y)->c≠x:=λc y r z=>by subst z; rw[r] at mu; exact mu
 have ntup:∀c xs,H c=some (.tup xs)->c≠x:=λc xs r z=>by subst z; rw[r] at mu; exact mu
 by_cases hb:b=x
 ·subst hb; rw[z0t] at q; cases q; exact new
 ·rw[z0f hb] at q
  by_cases hbe:b=e
  ·have q':H b=some (.own x):=by
    rcases he with z | z
    ·exact absurd (hbe.trans z) hb
    ·rw[hbe]; exact z
   rw[q] at q'; cases q';obtain⟨v,hv⟩:=heo;exact⟨v,by rw[hbe]; exact hv⟩
  ·refine(ok b u q).stay (λc v hc r=>k c v ?_ r) (λc r=>by rw[z0f (nown c b r)]; exact r) λc xs r=>by rw[z0f (ntup c xs r)]; exact r
   rcases hc with rfl | hc
   ·exact hbe
   ·rintro rfl
    rcases he with z | z
    ·exact nown c b hc z
    ·rw[hc] at z; cases z; exact hb rfl
end
structure Un (fs ex:List Addr)(H H':Hp)(h h':Heap):Prop where
 keep:∀b o,h.get? b=some o->H b=none->b ∉ fs->b ∉ ex->h'.get? b=some o
 slot:∀b o,h.get? b=some o->H b=none->b∈fs->b ∉ ex->∃sl,h'.get? b=some { o with slots:=sl }
 free:∀b o,h.get? b=some o->H b=none->b ∉ ex->H' b=none
 there:∀b o,h.get? b=some o->b ∉ ex->∃o',h'.get? b=some o'
 tups:∀b xs,H b=some (.tup xs)->H' b=some (.tup xs)
 frzs:∀b o u,H b=some (.frz o u)->H' b=some (.frz o u)
 tbls:∀b ps,H b=some (.tbl ps)->∃more,H' b=some (.tbl (ps++more))
section
variable {fs fs' ex ex':List Addr}{H H1 H2:Hp}{h h1 h2 h':Heap}{a x e:Addr}{o:HO}
theorem Un.any (u:Un fs ex H H1 h h1){b:Addr}{ob:Obj}(q:h.get? b=some ob)(n:H b=none)(hx:b ∉ ex):∃sl,h1.get? b=some { ob with slots:=sl }:=by
 by_cases hb:b∈fs
 ·exact u.slot b ob q n hb hx
 ·exact⟨ob.slots,u.keep b ob q n hb hx⟩
theorem Un.kept (k:∀b u,h.get? b=some u->h'.get? b=some u):Un fs ex H H h h':=
 ⟨λb ob q _ _ _=>k b ob q,λb ob q _ _ _=>⟨ob.slots,k b ob q⟩,λ_ _ _ n _=>n,λb ob q _=>⟨ob,k b ob q⟩,λ_ _ q=>q,λ_ _ _ q=>q,λ_ ps q=>⟨#[],by rw[q]; simp⟩⟩
theorem Un.refl:Un fs ex H H h h:=Un.kept λ_ _ q=>q
theorem Un.laid (k:∀b u,h.get? b=some u->h'.get? b=some u)(hp:h.objs.size<=a)(hn:H a=none):Un fs ex H (upd H a o) h h' where
 keep:=λb u q _ _ _=>k b u q
 slot:=λb u q _ _ _=>⟨u.slots,k b u q⟩
 free:=λb u q n _=>by rw[z0f (Nat.ne_of_lt (Nat.lt_of_lt_of_le (Heap.lt_size q) hp))]; exact n
 there:=λb u q _=>⟨u,k b u q⟩
 tups:=λb xs q=>by rw[z0f (z0D q hn)]; exact q
 frzs:=λb u xs q=>by rw[z0f (z0D q hn)]; exact q
 tbls:=λb ps q=>⟨#[],by rw[z0f (z0D q hn),q]; simp⟩
theorem Un.write (mu:Mut (H x))(he:e=x\/H e=some (.own x))(k:∀b u,b≠e->h.get? b=some u->h'.get? b=some u)(heo:∃u,h'.get? e=some u):Un fs ex H (upd H x o) h h':=by
 have hx:∀b,H b=none->b≠x:=λb n z=>by subst z; rw[n] at mu; exact mu
 have hb:∀b,H b=none->b≠e:=λb n z=>by
  subst z
  rcases he with r | r
  ·exact hx b n r
  ·rw[n] at r; cases r
 have hm:∀b u,H b=some u->¬ Mut (some u)->b≠x:=λb u q nm z=>by subst z; rw[q] at mu; exact nm mu
 refine⟨λb u q n _ _=>k b u (hb b n) q,λb u q n _ _=>⟨u.slots,k b u (hb b n) q⟩,λb u q n _=>by rw[z0f (hx b n)]; exact n,λb u q _ =>?_,
  λb xs q=>by rw[z0f (hm b _ q λz=>z)]; exact q,λb u xs q=>by rw[z0f (hm b _ q λz=>z)]; exact q,λb ps q=>⟨#[],by rw[z0f (hm b _ q λz=>z),q]; simp⟩⟩
 by_cases hbe:b=e
 ·subst hbe; exact heo
 ·exact⟨u,k b u hbe q⟩
end
noncomputable def trk (h:Heap)(H:Hp):List Addr:=(List.range h.objs.size).filter λa=>(H a).isSome
noncomputable def hidT (h:Heap)(H:Hp):Heap:=PySem.W.hideAll h (trk h H)
theorem zcT (h:Heap)(H:Hp):(hidT h H).objs.size=h.objs.size:=PySem.W.hideAll_size _ _
theorem zep {h:Heap}{H:Hp}{b:Addr}{o:Obj}(e:h.get? b=some o)(n:H b=none):(hidT h H).get? b=some o:=
 PySem.W.hideAll_get _ e λhm=>by
  have q:(H b).isSome=true:=(List.mem_filter.mp hm).2;rw[n] at q; simp at q
theorem zgi {h:Heap}{H:Hp}{b:Addr}{o:Obj}(e:(hidT h H).get? b=some o):h.get? b=some o/\H b=none:=by
 have e':h.get? b=some o:=PySem.W.of_hideAll (trk h H) e;refine⟨e',?_⟩
 cases q:H b with
 | none=>rfl
 | some x=>
  have hm:b∈trk h H:=List.mem_filter.mpr ⟨List.mem_range.mpr (Heap.lt_size e'),by simp[q]⟩;have z:(hidT h H).get? b=none:=PySem.W.hideAll_none (trk h H) hm;rw[z] at e; cases e
noncomputable def zgM (g h:Heap)(L:Addr):List (Addr × Obj):=(List.range h.objs.size).filterMap λa=>if a=L\/(g.get? a).isSome=true then none else (h.get? a).map λo=>(a,o)
noncomputable def rest (g h:Heap)(L d:Addr):List (Addr × Obj):=(zgM g h L).filter λp=>decide (p.1≠d)
end L2
namespace L2
open PySem PySem.Spec PyProof.Rows
structure Mod (K:W.Frag)(mg:Str->Option Value)(base:Heap):Prop where
 kin:K.In base
 glob:base.Ns mainGlobals mg
 blt:∃mb,base.Ns builtinsNs mb/\∀x:Str,x≠"__name__"->mb x=bootBuiltins x
 nolimit:base.NoLimit
structure Cx where
 prog:Program
 w:World
 K:W.Frag
 mg:Str->Option Value
 base:Heap
 A:Around
 N:List Str
 s₀:Shared
 H₀:Hp
 env:Env
 outer:List Env
 stack:List Env
 ex:List Addr
 fn:Str->Bool
 calm:Bool
 pn:List (Addr × Obj)
 xe:Value->Shared->Prop
noncomputable def frs (l:List Env):List Addr:=l.filterMap (·.frame)
noncomputable abbrev Cx.fs (X:Cx):List Addr:=frs X.outer
noncomputable def Vis (sc:Scope)(x:Str):Prop:=sc.names.lookup x=some .local\/sc.names.lookup x=some .cell\/sc.names.lookup x=some .free
noncomputable def Loc (sc:Scope)(x:Str):Prop:=sc.names.lookup x=some .local\/sc.names.lookup x=some .cell
noncomputable def Look (env:Env)(h:Heap)(m:Str->Option Value)(x:Str)(u:Value):Prop:=
 (env.kindOf x=some .local/\m x=some u)\/((env.kindOf x=some .cell\/env.kindOf x=some .free)/\∃c,env.cells.lookup x=some c/\h.IsCell c (some u))
structure Cx.Ok (X:Cx):Prop where
 mod:Mod X.K X.mg X.base
 kind:X.env.scope.kind = .function
 glob:X.env.globals=mainGlobals
 blt:X.env.builtins=builtinsNs
 above:X.s₀.heap.objs.size<=X.env.locals
 inj:∀x y c,X.env.cells.lookup x=some c->X.env.cells.lookup y=some c->x=y
 has:∀x,(X.env.kindOf x=some .cell\/X.env.kindOf x=some .free)->∃c,X.env.cells.lookup x=some c
 cab:∀x c,X.fn x=true->X.env.cells.lookup x=some c->X.s₀.heap.objs.size<=c
 hd:X.calm=true->X.A.handled=none
 frames:X.A.frames=some X.stack
 stk:X.stack=X.outer\/(X.stack=X.env::X.outer/\X.env.frame=some X.env.locals)
 exf:∀b∈X.ex,b≠X.env.locals/\∀x c,X.env.cells.lookup x=some c->c≠b
 bs:∀b o,X.base.get? b=some o->X.s₀.heap.get? b=some o/\X.H₀ b=none
 bsz:X.base.objs.size<=X.s₀.heap.objs.size
 noex:∀b o,X.base.get? b=some o->b ∉ X.ex
 exfs:∀b∈X.ex,b ∉ X.fs
 funs:X.s₀.heap.FunFrames X.base X.outer
 frf:∀b∈X.fs,X.H₀ b=none
structure Inv (X:Cx)(pins:List (Addr × Obj))(σ:List (Option V))(H:Hp)(s:Shared):Prop where
 ok:X.Ok
 os:s.os=X.s₀.os
 bare:AllBare s.gens
 base:Un X.fs X.ex X.H₀ H X.s₀.heap s.heap
 loc:∃m,s.heap.Ns X.env.locals m/\∀(i:Nat) (x:Str) (v:V),X.N[i]? = some x->σ[i]? = some (some v)->Vis X.env.scope x->∃u,RelV v u/\Look X.env s.heap m x u
 cell:∀x c,X.env.cells.lookup x=some c->∃v,s.heap.IsCell c v
 free:H X.env.locals=none
 freeC:∀x c,X.env.cells.lookup x=some c->H c=none
 pin:∀p∈X.pn++pins,s.heap.get? p.1=some p.2/\H p.1=none/\p.1≠X.env.locals/\p.1 ∉ X.fs/\∀v,p.2.data ≠ .cell v
 hok:HOk X.prog X.w H s.heap
 len:σ.length=X.N.length
section
variable {X:Cx}{pins:List (Addr × Obj)}{σ:List (Option V)}{H H':Hp}{s:Shared}{h':Heap}
theorem Cx.Ok.nofr (ok:X.Ok){b:Addr}{o:Obj}(e:X.base.get? b=some o):b ∉ X.fs:=λhb=>by
 have:=(ok.funs.mem hb).1;rw[e] at this; cases this
theorem Inv.bs (I:Inv X pins σ H s):∀b o,X.base.get? b=some o->s.heap.get? b=some o/\H b=none:=λb o e=>
 ⟨I.base.keep b o (I.ok.bs b o e).1 (I.ok.bs b o e).2 (I.ok.nofr e) (I.ok.noex b o e),I.base.free b o (I.ok.bs b o e).1 (I.ok.bs b o e).2 (I.ok.noex b o e)⟩
theorem Inv.bk (I:Inv X pins σ H s):∀b o,X.base.get? b=some o->s.heap.get? b=some o:=λb o e=>(I.bs b o e).1
theorem Inv.mod (I:Inv X pins σ H s):Mod X.K X.mg X.base:=I.ok.mod
theorem Inv.kIn (I:Inv X pins σ H s):X.K.In s.heap:=I.ok.mod.kin.keeps I.bk
theorem Inv.lt (I:Inv X pins σ H s):X.env.locals<s.heap.objs.size:=let ⟨_,hn,_⟩:=I.loc; hn.lt
theorem Inv.sz (I:Inv X pins σ H s):X.s₀.heap.objs.size<=s.heap.objs.size:=Nat.le_trans I.ok.above (Nat.le_of_lt I.lt)
theorem Inv.nofs (I:Inv X pins σ H s){a:Addr}(h:s.heap.objs.size<=a):a ∉ X.fs:=λhb=>by
 obtain⟨_,o,ho,_⟩:=I.ok.funs.mem hb;exact absurd (Nat.lt_of_lt_of_le (Heap.lt_size ho) (Nat.le_trans I.sz h)) (Nat.lt_irrefl _)
theorem Inv.cne (I:Inv X pins σ H s):∀x c,X.env.cells.lookup x=some c->c≠X.env.locals:=λx c e z=>by
 obtain⟨v,o,ho,hd⟩:=I.cell x c e;obtain⟨m,⟨o',es,ep,ho',hd',_⟩,_⟩:=I.loc;rw[z,ho'] at ho; cases ho; rw[hd'] at hd; cases hd
theorem Inv.funs (I:Inv X pins σ H s):s.heap.FunFrames X.base X.outer:=by
 have all:∀(l:List Env),(∀b∈frs l,b∈X.fs)->X.s₀.heap.FunFrames X.base l->s.heap.FunFrames X.base l:=by
  intro l
  induction l with
  | nil=>intro _ _; trivial
  | cons env r ih=>
   intro hs hl;obtain⟨hk,⟨L,o,hf,hn,ho,hd⟩,hr⟩:=hl;have hL:L∈X.fs:=hs L (by unfold frs; rw[List.filterMap_cons,hf]; exact List.mem_cons_self);obtain⟨sl,e⟩:=I.base.slot L o ho (I.ok.frf L hL) hL λz=>I.ok.exfs L z hL;exact⟨hk,⟨L,_,hf,hn,e,hd⟩,ih (λb hb=>hs b (by unfold frs; rw[List.filterMap_cons,hf]; exact List.mem_cons_of_mem _ hb)) hr⟩
 exact all X.outer (λ_ hb=>hb) I.ok.funs
theorem Inv.stack (I:Inv X pins σ H s):s.heap.FunFrames X.base X.stack:=by
 rcases I.ok.stk with e | ⟨e,hf⟩
 ·rw[e]; exact I.funs
 ·rw[e];obtain⟨m,hn,_⟩:=I.loc;refine .cons (by rw[I.ok.kind]; decide) hf hn ?_ I.funs;exact Heap.get?_none_of_le (Nat.le_trans I.ok.bsz I.ok.above)
theorem Inv.stkSub (I:Inv X pins σ H s):∀b∈frs X.stack,b∈X.env.locals::X.fs:=λb hb=>by
 rcases I.ok.stk with e | ⟨e,hf⟩
 ·rw[e] at hb; exact List.mem_cons_of_mem _ hb
 ·rw[e] at hb;unfold frs at hb;rw[List.filterMap_cons,hf] at hb;exact hb
theorem Inv.stkFree (I:Inv X pins σ H s):∀b∈frs X.stack,H b=none:=λb hb=>by
 rcases List.mem_cons.mp (I.stkSub b hb) with e | hb
 ·rw[e]; exact I.free
 ·obtain⟨_,o,ho,_⟩:=I.ok.funs.mem hb;exact I.base.free b o ho (I.ok.frf b hb) λz=>I.ok.exfs b z hb
theorem Inv.step {g':Array GenState}{t':Nat}{d':Drawn}{ch:List Addr}(I:Inv X pins σ H s)
  (hch:∀b∈ch,(b∈X.ex\/X.s₀.heap.objs.size<=b)/\b≠X.env.locals/\(∀x c,X.env.cells.lookup x=some c->c≠b)/\∀p∈X.pn++pins,p.1≠b)
  (keep:∀b o,b≠X.env.locals->b ∉ X.fs->b ∉ ch->s.heap.get? b=some o->H b=none->h'.get? b=some o)
  (slot:∀b o,b≠X.env.locals->b∈X.fs->b ∉ ch->s.heap.get? b=some o->H b=none->∃sl,h'.get? b=some { o with slots:=sl }) (free:∀b o,b ∉ ch->s.heap.get? b=some o->H b=none->H' b=none)
  (there:∀b o,b ∉ ch->s.heap.get? b=some o->∃o',h'.get? b=some o')
  (tups:∀b xs,H b=some (.tup xs)->H' b=some (.tup xs)) (frzs:∀b o u,H b=some (.frz o u)->H' b=some (.frz o u)) (tbls:∀b ps,H b=some (.tbl ps)->∃more,H' b=some (.tbl (ps++more)))
  (ns:∀m,s.heap.Ns X.env.locals m->h'.Ns X.env.locals m) (hok:HOk X.prog X.w H' h') (hg:AllBare g'):
  Inv X pins σ H' { s with heap:=h',gens:=g',drawn:=d',toks:=t' }:=by
 have neL:∀b o,X.s₀.heap.get? b=some o->b≠X.env.locals:=λb o e=>Nat.ne_of_lt (Nat.lt_of_lt_of_le (Heap.lt_size e) I.ok.above);have neC:∀b o,X.s₀.heap.get? b=some o->b ∉ X.ex->b ∉ ch:=λb o e hx hb=>by
  rcases(hch b hb).1 with z | z
  ·exact hx z
  ·exact absurd (Nat.lt_of_lt_of_le (Heap.lt_size e) z) (Nat.lt_irrefl _)
 have cellK:∀x c,X.env.cells.lookup x=some c->∀v,s.heap.IsCell c v->h'.IsCell c v:=λx c e v ⟨o,ho,hd⟩=>by
  have nch:c ∉ ch:=λz=>(hch c z).2.2.1 x c e rfl
  by_cases hc:c∈X.fs
  ·obtain⟨sl,q⟩:=slot c o (I.cne x c e) hc nch ho (I.freeC x c e);exact⟨_,q,hd⟩
  ·exact⟨o,keep c o (I.cne x c e) hc nch ho (I.freeC x c e),hd⟩
 refine⟨I.ok,I.os,hg,⟨λb o e n hb hx =>?_,λb o e n hb hx =>?_,λb o e n hx =>?_,λb o e hx =>?_,λb xs e=>tups b xs (I.base.tups b xs e),λb o xs e=>frzs b o xs (I.base.frzs b o xs e),λb ps e =>?_⟩,?_,λx c e =>?_,?_,λx c e =>?_,λp hp =>?_,hok,I.len⟩
 ·exact keep b o (neL b o e) hb (neC b o e hx) (I.base.keep b o e n hb hx) (I.base.free b o e n hx)
 ·obtain⟨sl,e1⟩:=I.base.slot b o e n hb hx;obtain⟨sl',e2⟩:=slot b _ (neL b o e) hb (neC b o e hx) e1 (I.base.free b o e n hx);exact⟨sl',e2⟩
 ·obtain⟨o',e1⟩:=I.base.there b o e hx;exact free b o' (neC b o e hx) e1 (I.base.free b o e n hx)
 ·obtain⟨o',e1⟩:=I.base.there b o e hx;exact there b o' (neC b o e hx) e1
 ·obtain⟨m1,e1⟩:=I.base.tbls b ps e;obtain⟨m2,e2⟩:=tbls b _ e1;exact⟨m1++m2,by rw[e2,Array.append_assoc]⟩
 ·obtain⟨m,hn,hl⟩:=I.loc;refine⟨m,ns m hn,λi x v e1 e2 e3 =>?_⟩;obtain⟨u,r,l⟩:=hl i x v e1 e2 e3;refine⟨u,r,?_⟩
  rcases l with l | ⟨k,c,e,z⟩
  ·exact .inl l
  ·exact .inr ⟨k,c,e,cellK x c e _ z⟩
 ·obtain⟨v,z⟩:=I.cell x c e;exact⟨v,cellK x c e v z⟩
 ·obtain⟨m,⟨o,_,_,ho,_⟩,_⟩:=I.loc;exact free _ o (λz=>(hch _ z).2.1 rfl) ho I.free
 ·obtain⟨v,o,ho,hd⟩:=I.cell x c e;exact free c o (λz=>(hch c z).2.2.1 x c e rfl) ho (I.freeC x c e)
 ·obtain⟨e,n,ne,nf,d⟩:=I.pin p hp;have nch:p.1 ∉ ch:=λz=>(hch p.1 z).2.2.2 p hp rfl;exact⟨keep p.1 p.2 ne nf nch e n,free p.1 p.2 nch e n,ne,nf,d⟩
theorem Inv.un {t':Nat}(I:Inv X pins σ H s)(u:Un X.fs [] H H' s.heap h')(hok:HOk X.prog X.w H' h'):Inv X pins σ H' { s with heap:=h',toks:=t' }:=by
 obtain⟨m,⟨o,es,ep,ho,r⟩,_⟩:=id I.loc;obtain⟨sl,hL⟩:=u.any ho I.free (by simp);exact I.step (g':=s.gens) (d':=s.drawn) (ch:=[]) (λ_ z=>nomatch z) (λb o _ hb _ e n=>u.keep b o e n hb (by simp)) (λb o _ hb _ e n=>u.slot b o e n hb (by simp)) (λb o _ e n=>u.free b o e n (by simp)) (λb o _ e=>u.there b o e (by simp)) u.tups u.frzs u.tbls (λm' hm=>by
  obtain⟨o',es',ep',ho',r'⟩:=hm;rw[ho] at ho'; cases ho';exact⟨_,es',ep',hL,r'⟩) hok I.bare
theorem Inv.call {g':Array GenState}{t':Nat}{d':Drawn}{ch:List Addr}(I:Inv X pins σ H s)(u:Un (frs X.stack) ch H H' s.heap h')(hok:HOk X.prog X.w H' h')(hg:AllBare g')
  (hch:∀b∈ch,(b∈X.ex\/X.s₀.heap.objs.size<=b)/\b≠X.env.locals/\(∀x c,X.env.cells.lookup x=some c->c≠b)/\∀p∈X.pn++pins,p.1≠b):
  Inv X pins σ H' { s with heap:=h',gens:=g',drawn:=d',toks:=t' }:=by
 obtain⟨m,⟨o,es,ep,ho,r⟩,_⟩:=id I.loc;obtain⟨sl,hL⟩:=u.any ho I.free λz=>(hch _ z).2.1 rfl;exact I.step (ch:=ch) hch (λb o hL hb hc e n=>u.keep b o e n (λz=>(List.mem_cons.mp (I.stkSub b z)).elim hL hb) hc) (λb o _ _ hc e n=>u.any e n hc) (λb o hc e n=>u.free b o e n hc) (λb o hc e=>u.there b o e hc) u.tups u.frzs u.tbls (λm' hm=>by
  obtain⟨o',es',ep',ho',r'⟩:=hm;rw[ho] at ho'; cases ho';exact⟨_,es',ep',hL,r'⟩) hok hg
theorem Inv.turned {t':Nat}{it:Addr}(I:Inv X pins σ H s)(k:∀b o,b≠it->s.heap.get? b=some o->h'.get? b=some o)(hn:H it=none)(hL:it≠X.env.locals)
  (h1:it∈X.ex\/X.s₀.heap.objs.size<=it) (h2:∀x c,X.env.cells.lookup x=some c->c≠it) (h3:∀p∈X.pn++pins,p.1≠it):Inv X pins σ H { s with heap:=h',toks:=t' }:=by
 have nit:∀b u,H b=some u->b≠it:=λb u e z=>by rw[z,hn] at e; cases e
 refine I.step (g':=s.gens) (d':=s.drawn) (ch:=[it]) (λb hb =>?_) (λb o _ _ hc e _=>k b o (λz=>hc (by simp[z])) e) (λb o _ _ hc e _=>⟨o.slots,k b o (λz=>hc (by simp[z])) e⟩) (λ_ _ _ _ n=>n)
  (λb o hc e=>⟨o,k b o (λz=>hc (by simp[z])) e⟩) (λ_ _ e=>e) (λ_ _ _ e=>e) (λb ps e=>⟨#[],by rw[e]; simp⟩) (λm hm =>?_) (λb u e =>?_) I.bare
 ·have e:b=it:=by simpa using hb
  subst e;exact⟨h1,hL,h2,h3⟩
 ·obtain⟨o,es,ep,ho,r⟩:=hm;exact⟨o,es,ep,k _ o (Ne.symm hL) ho,r⟩
 ·refine(I.hok b u e).stay (λc v hc q=>k c v ?_ q) (λ_ q=>q) λ_ _ q=>q
  rcases hc with z | z
  ·rw[z]; exact nit b u e
  ·exact nit c _ z
theorem Inv.tok (I:Inv X pins σ H s)(t:Nat):Inv X pins σ H { s with toks:=t }:=I.un (h':=s.heap) (t':=t) Un.refl I.hok
theorem Inv.kept {t':Nat}(I:Inv X pins σ H s)(k:∀b u,s.heap.get? b=some u->h'.get? b=some u):Inv X pins σ H { s with heap:=h',toks:=t' }:=I.un (Un.kept k) (I.hok.kept k)
theorem Inv.laid {a:Addr}{o:HO}{t':Nat}(I:Inv X pins σ H s)(k:∀b u,s.heap.get? b=some u->h'.get? b=some u)(hp:s.heap.objs.size<=a)(new:z1W X.prog X.w (upd H a o) h' a o):
  Inv X pins σ (upd H a o) { s with heap:=h',toks:=t' }:=I.un (Un.laid k hp (I.hok.fresh hp)) (I.hok.laid k hp new)
theorem Inv.write {x e:Addr}{o:HO}{t':Nat}(I:Inv X pins σ H s)(mu:Mut (H x))(he:e=x\/H e=some (.own x))(k:∀b u,b≠e->s.heap.get? b=some u->h'.get? b=some u)(heo:∃u,h'.get? e=some u)
  (new:z1W X.prog X.w (upd H x o) h' x o):Inv X pins σ (upd H x o) { s with heap:=h',toks:=t' }:=I.un (Un.write mu he k heo) (I.hok.write mu he k heo new)
theorem Inv.pins_of {pins':List (Addr × Obj)}(I:Inv X pins σ H s)(h:∀p∈pins',s.heap.get? p.1=some p.2/\H p.1=none/\p.1≠X.env.locals/\p.1 ∉ X.fs/\∀v,p.2.data ≠ .cell v):Inv X pins' σ H s:=
 ⟨I.ok,I.os,I.bare,I.base,I.loc,I.cell,I.free,I.freeC,λp hp=>(List.mem_append.mp hp).elim (λz=>I.pin p (List.mem_append_left _ z)) (h p),I.hok,I.len⟩
theorem zaN {N:List Str}(hN:N.Nodup){i j:Nat}{x:Str}(a:N[i]? = some x)(b:N[j]? = some x):i=j:=by
 obtain⟨h1,e1⟩:=List.getElem?_eq_some_iff.mp a;obtain⟨h2,e2⟩:=List.getElem?_eq_some_iff.mp b;exact(List.getElem_inj hN).mp (e1.trans e2.symm)
theorem z8V {M:Model}{A:Around}{E:Value->Shared->Prop}{i:Nat}{x:Str}{v:V}{u:Value}{Q:Unit->Shared->Prop}(I:Inv X pins σ H s)(hN:X.N.Nodup)(hi:X.N[i]? = some x)(hx:Loc X.env.scope x)(r:RelV v u)
  (h:∀s',Inv X pins (σ.set i (some v)) H s'->(∃a,Heap.SameBut a s.heap s'.heap/\(a=X.env.locals\/X.env.cells.lookup x=some a))->Q () s') (hf:X.fn x=true\/X.env.scope.names.lookup x=some .local:=by first | exact .inl rfl | exact .inr rfl | assumption):wpAny M A (storeName X.env x u) Q E s:=by
 obtain⟨m,hn,hl⟩:=id I.loc;have hcls:(X.env.scope.kind == .class || (X.env.scope.kind == .module && X.env.locals != X.env.globals))=false:=by rw[I.ok.kind]; rfl
 have hiσ:i < σ.length:=by rw[I.len]; exact(List.getElem?_eq_some_iff.mp hi).1
 have cne:=I.cne;have tracked:∀{a:Addr}{h':Heap},(∃o,s.heap.get? a=some o/\H a=none)->Heap.SameBut a s.heap h'->HOk X.prog X.w H h':=λ{a h'} ha hs b ob e=>by
  obtain⟨_,_,hfree⟩:=ha;refine(I.hok b ob e).stay (λc w' hc q=>(hs.2 c ?_).trans q) (λ_ q=>q) λ_ _ q=>q;rintro rfl
  rcases hc with rfl | hc
  ·rw[hfree] at e; cases e
  ·rw[hfree] at hc; cases hc
 rcases hx with hk | hk
 ·refine wpAny_storeName_local hk hn (λh' hn' hs =>?_) hcls;obtain⟨oL,_,_,hoL,_⟩:=id hn;refine h _ ⟨I.ok,I.os,I.bare,⟨λb o e n hb hx =>?_,λb o e n hb hx =>?_,I.base.free,λb o e hx =>?_,I.base.tups,I.base.frzs,I.base.tbls⟩,⟨_,hn',λj y v' e1 e2 e3 =>?_⟩,λy c e =>?_,I.free,I.freeC,λp hp =>?_,tracked ⟨oL,hoL,I.free⟩ hs,by simpa using I.len⟩ ⟨_,hs,.inl rfl⟩
  ·exact(hs.2 b (Nat.ne_of_lt (Nat.lt_of_lt_of_le (Heap.lt_size e) I.ok.above))).trans (I.base.keep b o e n hb hx)
  ·obtain⟨sl,e1⟩:=I.base.slot b o e n hb hx;exact⟨sl,(hs.2 b (Nat.ne_of_lt (Nat.lt_of_lt_of_le (Heap.lt_size e) I.ok.above))).trans e1⟩
  ·obtain⟨o',e1⟩:=I.base.there b o e hx;exact⟨o',(hs.2 b (Nat.ne_of_lt (Nat.lt_of_lt_of_le (Heap.lt_size e) I.ok.above))).trans e1⟩
  ·by_cases hj:j=i
   ·subst hj;rw[hi] at e1; cases e1;rw[List.getElem?_set_self hiσ] at e2
    cases e2
    exact⟨u,r,.inl ⟨hk,by simp⟩⟩
   ·rw[List.getElem?_set_ne (Ne.symm hj)] at e2;obtain⟨u',r',q⟩:=hl j y v' e1 e2 e3;refine⟨u',r',?_⟩
    rcases q with ⟨k,e⟩ | ⟨k,c,e,z⟩
    ·refine .inl ⟨k,?_⟩;have:y≠x:=λe=>hj (zaN hN e1 (e ▸ hi));simp[this,e]
    ·exact .inr ⟨k,c,e,z.sameBut hs (cne y c e)⟩
  ·obtain⟨w',z⟩:=I.cell y c e;exact⟨w',z.sameBut hs (cne y c e)⟩
  ·obtain⟨e,n,ne,nf,d⟩:=I.pin p hp;exact⟨(hs.2 p.1 ne).trans e,n,ne,nf,d⟩
 ·have hfn:X.fn x=true:=by
   rcases hf with z | z
   ·exact z
   ·rw[z] at hk; cases hk
  obtain⟨c,hc⟩:=I.ok.has x (.inl hk);obtain⟨w',z⟩:=I.cell x c hc;refine wpAny_storeName_cell I.ok.kind hk hc z (λh' hc' hs =>?_);obtain⟨oc,hoc,hocd⟩:=id z;refine h { s with heap:=h' } ⟨I.ok,I.os,I.bare,⟨λb o e n hb hx =>?_,λb o e n hb hx =>?_,I.base.free,λb o e hx =>?_,I.base.tups,I.base.frzs,I.base.tbls⟩,⟨m,hn.sameBut hs (Ne.symm (cne x c hc)),λj y v' e1 e2 e3 =>?_⟩,λy c' e =>?_,I.free,I.freeC,λp hp =>?_,tracked ⟨oc,hoc,I.freeC x c hc⟩ hs,by simpa using I.len⟩ ⟨c,hs,.inr hc⟩
  ·exact(hs.2 b (Nat.ne_of_lt (Nat.lt_of_lt_of_le (Heap.lt_size e) (I.ok.cab x c hfn hc)))).trans (I.base.keep b o e n hb hx)
  ·obtain⟨sl,e1⟩:=I.base.slot b o e n hb hx;exact⟨sl,(hs.2 b (Nat.ne_of_lt (Nat.lt_of_lt_of_le (Heap.lt_size e) (I.ok.cab x c hfn hc)))).trans e1⟩
  ·obtain⟨o',e1⟩:=I.base.there b o e hx;exact⟨o',(hs.2 b (Nat.ne_of_lt (Nat.lt_of_lt_of_le (Heap.lt_size e) (I.ok.cab x c hfn hc)))).trans e1⟩
  ·by_cases hj:j=i
   ·subst hj;rw[hi] at e1; cases e1;rw[List.getElem?_set_self hiσ] at e2
    cases e2
    exact⟨u,r,.inr ⟨.inl hk,c,hc,hc'⟩⟩
   ·rw[List.getElem?_set_ne (Ne.symm hj)] at e2;obtain⟨u',r',q⟩:=hl j y v' e1 e2 e3;refine⟨u',r',?_⟩
    rcases q with q | ⟨k,c',e,z'⟩
    ·exact .inl q
    ·refine .inr ⟨k,c',e,z'.sameBut hs ?_⟩;rintro rfl;exact hj (zaN hN e1 (I.ok.inj _ _ _ e hc ▸ hi))
  ·by_cases hcc:c'=c
   ·subst hcc; exact⟨_,hc'⟩
   ·obtain⟨w2,z2⟩:=I.cell y c' e;exact⟨w2,z2.sameBut hs hcc⟩
  ·obtain⟨e,n,ne,nf,d⟩:=I.pin p hp;refine⟨(hs.2 p.1 ?_).trans e,n,ne,nf,d⟩;intro q;rw[q,hoc] at e;have q':oc=p.2:=Option.some.inj e;exact d w' (by rw[<- q']; exact hocd)
theorem zat {M:Model}{A:Around}{E:Value->Shared->Prop}{i:Nat}{x:Str}{v:V}{u:Value}{Q:Unit->Shared->Prop}(I:Inv X pins σ H s)(hN:X.N.Nodup)(hi:X.N[i]? = some x)(hx:Loc X.env.scope x)(r:RelV v u)
  (h:∀s',Inv X pins (σ.set i (some v)) H s'->Q () s') (hf:X.fn x=true\/X.env.scope.names.lookup x=some .local:=by first | exact .inl rfl | exact .inr rfl | assumption):wpAny M A (storeName X.env x u) Q E s:=
 z8V I hN hi hx r (λs' I' _=>h s' I') hf
theorem Inv.call' {s':Shared}{ch:List Addr}(I:Inv X pins σ H s)(ho:s'.os=s.os)(u:Un (frs X.stack) ch H H' s.heap s'.heap)(hok:HOk X.prog X.w H' s'.heap)(hg:AllBare s'.gens)
  (hch:∀b∈ch,(b∈X.ex\/X.s₀.heap.objs.size<=b)/\b≠X.env.locals/\(∀x c,X.env.cells.lookup x=some c->c≠b)/\∀p∈X.pn++pins,p.1≠b):Inv X pins σ H' s':=by
 obtain⟨h',g',d',t',o'⟩:=s';have e:o'=s.os:=ho;subst e;exact I.call (g':=g') (t':=t') (d':=d') u hok hg hch
end
noncomputable abbrev XK:=Value->Option Addr->Hp->Prop
noncomputable abbrev St:=List (Option V)
noncomputable abbrev VK:=V->Hp->Prop
noncomputable abbrev TE:=St->Hp->VK->Prop
noncomputable abbrev TT:=St->Hp->(Bool->Hp->Prop)->Prop
noncomputable abbrev TA:=St->Hp->(List V->Hp->Prop)->Prop
structure Ends where
 nx:St->Hp->Prop
 rt:VK
 bk:St->Hp->Prop:=λ_ _=>False
 ct:St->Hp->Prop:=λ_ _=>False
noncomputable abbrev TS:=Ends->St->Hp->Prop
noncomputable def EP (X:Cx)(pins:List (Addr × Obj))(σ:St)(Q:VK)(u:Value)(s':Shared):Prop:=∃v H',Inv X pins σ H' s'/\RelV v u/\Q v H'
noncomputable def TP (X:Cx)(pins:List (Addr × Obj))(σ:St)(Q:Bool->Hp->Prop)(b:Bool)(s':Shared):Prop:=∃H',Inv X pins σ H' s'/\Q b H'
noncomputable def AP (X:Cx)(pins:List (Addr × Obj))(σ:St)(Q:List V->Hp->Prop)(us:List Value)(s':Shared):Prop:=∃vs H',Inv X pins σ H' s'/\Vals vs us/\Q vs H'
noncomputable def SP (X:Cx)(pins:List (Addr × Obj))(D:Ends)(f:Flow)(s':Shared):Prop:=
 match f with
 | .next=>∃σ' H',Inv X pins σ' H' s'/\D.nx σ' H'
 | .brk=>∃σ' H',Inv X pins σ' H' s'/\D.bk σ' H'
 | .cont=>∃σ' H',Inv X pins σ' H' s'/\D.ct σ' H'
 | .ret u=>∃v σ' H',Inv X pins σ' H' s'/\RelV v u/\D.rt v H'
noncomputable def PE (X:Cx)(e:Expr)(t:TE):Prop:=
 ∀(pins:List (Addr × Obj)) (s:Shared) (σ:St) (H:Hp) (Q:VK),Inv X pins σ H s->t σ H Q->wpAny (model X.prog X.w) X.A (eval e X.env) (EP X pins σ Q) X.xe s
noncomputable def PT (X:Cx)(e:Expr)(t:TT):Prop:=
 ∀(pins:List (Addr × Obj)) (s:Shared) (σ:St) (H:Hp) (Q:Bool->Hp->Prop),Inv X pins σ H s->t σ H Q->wpAny (model X.prog X.w) X.A (isTrue e X.env (eval e X.env)) (TP X pins σ Q) X.xe s
noncomputable def PW (X:Cx)(e:Expr)(t:TT):Prop:=
 ∀(whole:Sem Value) (pins:List (Addr × Obj)) (s:Shared) (σ:St) (H:Hp) (Q:Bool->Hp->Prop),Inv X pins σ H s->t σ H Q->wpAny (model X.prog X.w) X.A (isTrue e X.env whole) (TP X pins σ Q) X.xe s
theorem PW.pt {X:Cx}{e:Expr}{t:TT}(h:PW X e t):PT X e t:=h _
noncomputable def PA (X:Cx)(es:List Expr)(t:TA):Prop:=
 ∀(pos:Pos) (pins:List (Addr × Obj)) (s:Shared) (σ:St) (H:Hp) (Q:List V->Hp->Prop),Inv X pins σ H s->t σ H Q->wpAny (model X.prog X.w) X.A (spliced (backTo pos (starEach es X.env))) (AP X pins σ Q) X.xe s
noncomputable def PS (X:Cx)(st:Stmt)(t:TS):Prop:=
 ∀(pins:List (Addr × Obj)) (s:Shared) (σ:St) (H:Hp) (D:Ends),Inv X pins σ H s->t D σ H->wpAny (model X.prog X.w) X.A (exec st X.env) (SP X pins D) X.xe s
noncomputable def PSs (X:Cx)(st:List Stmt)(t:TS):Prop:=
 ∀(pins:List (Addr × Obj)) (s:Shared) (σ:St) (H:Hp) (D:Ends),Inv X pins σ H s->t D σ H->wpAny (model X.prog X.w) X.A (execs st X.env) (SP X pins D) X.xe s
theorem thn {α:Type}{t:Sem α}{Q Q':α->Shared->Prop}{M:Model}{A:Around}{E:Value->Shared->Prop}{s:Shared}(h:wpAny M A t Q E s)(hQ:∀a s,Q a s->Q' a s):wpAny M A t Q' E s:=wpAny_mono h hQ λ_ _ x=>x
end L2
namespace L2
open PySem PySem.Spec PyProof.Rows
section
variable {X:Cx}
theorem bin {a b:Expr}{ta tb:TE}(ha:PE X a ta)(hb:PE X b tb){pins:List (Addr × Obj)}{s:Shared}{σ:St}{H:Hp}{R:V->V->Hp->Prop}(I:Inv X pins σ H s)(h:ta σ H λx H1=>tb σ H1 λy H2=>R x y H2)
  {α:Type}{Q:α->Shared->Prop}{f:Value->Value->Sem α}
  (hf:∀v u s2 x y H2,Inv X pins σ H2 s2->RelV x v->RelV y u->R x y H2->wpAny (model X.prog X.w) X.A (f v u) Q X.xe s2):
  wpAny (model X.prog X.w) X.A (eval a X.env) (λv s₁=>wpAny (model X.prog X.w) X.A (eval b X.env) (λu s₂=>wpAny (model X.prog X.w) X.A (f v u) Q X.xe s₂) X.xe s₁) X.xe s:=by
 refine thn (ha pins s σ H _ I h) λv s1 ⟨x,H1,I1,r1,q1⟩ =>?_;refine thn (hb pins s1 σ H1 _ I1 q1) λu s2 ⟨y,H2,I2,r2,q2⟩ =>?_;exact hf v u s2 x y H2 I2 r1 r2 q2
noncomputable def tVar (i:Nat):TE:=λσ H Q=>∃v,σ[i]? = some (some v)/\Q v H
noncomputable def tC (v:V):TE:=λ_ H Q=>Q v H
theorem zeV {i:Nat}{x:Str}{pos:Pos}(hN:X.N[i]? = some x)(hv:Vis X.env.scope x)(hd:(x == ("__debug__":Str))=false:=by decide)(hcd:(x == ("__classdict__":Str))=false:=by decide):PE X (.Name x pos) (tVar i):=by
 intro pins s σ H Q I h;obtain⟨v,e,h⟩:=h;obtain⟨m,hn,hl⟩:=I.loc;obtain⟨u,r,l⟩:=hl i x v hN e hv;have fin:EP X pins σ Q u s:=⟨v,H,I,r,h⟩
 rcases l with ⟨hk,hm⟩ | ⟨hk,c,hc,hcell⟩
 ·exact wpAny_Name (wpAny_loadName_local I.ok.kind hk hn hm fin) hd
 ·rcases hk with hk | hk
  ·exact wpAny_Name (wpAny_loadName_cell I.ok.kind hk hc hcell fin) hd
  ·exact wpAny_Name (wpAny_loadName_free I.ok.kind hk hc hcell fin hcd) hd
theorem zhZ {i j pos}:PE X (.Constant (.int i) j pos) (tC (.int i)):=λ_ _ _ H _ I h=>wpAny_Constant_int ⟨.int i,H,I.tok _,⟨_,rfl⟩,h⟩
theorem zjB {b j pos}:PE X (.Constant (.bool b) j pos) (tC (.bl b)):=λ_ _ _ H _ I h=>Constant_bool ⟨.bl b,H,I,rfl,h⟩
theorem zhW {j pos}:PE X (.Constant .none j pos) (tC .non):=λ_ _ _ H _ I h=>Constant_none ⟨.non,H,I,rfl,h⟩
noncomputable def Gl (X:Cx)(x:Str):Prop:=X.env.kindOf x=some .globalImplicit
theorem zcP {E:Value->Shared->Prop}{pins:List (Addr × Obj)}{s:Shared}{σ:St}{H:Hp}{x:Str}{u:Value}{pos:Pos}{Q:Value->Shared->Prop}(I:Inv X pins σ H s)(hg:Gl X x)(hm:X.mg x=some u)(h:Q u s)
  (hd:(x == ("__debug__":Str))=false:=by decide):wpAny (model X.prog X.w) X.A (eval (.Name x pos) X.env) Q E s:=
 Calls.Name_function_global I.ok.kind hg (Calls.loadGlobal_global (by rw[I.ok.glob]; exact I.mod.glob.keeps I.bk) hm h) hd
theorem z9g {E:Value->Shared->Prop}{pins:List (Addr × Obj)}{s:Shared}{σ:St}{H:Hp}{x:Str}{u:Value}{pos:Pos}{Q:Value->Shared->Prop}(I:Inv X pins σ H s)(hg:Gl X x)(hm:X.mg x=none)(hv:bootBuiltins x=some u)(h:Q u s)
  (hn:x≠"__name__":=by decide) (hd:(x == ("__debug__":Str))=false:=by decide):wpAny (model X.prog X.w) X.A (eval (.Name x pos) X.env) Q E s:=by
 obtain⟨mb,h1,h2⟩:=I.mod.blt;exact Calls.Name_function_global I.ok.kind hg (Calls.loadGlobal_builtin (by rw[I.ok.glob]; exact I.mod.glob.keeps I.bk) hm (by rw[I.ok.blt]; exact h1.keeps I.bk) ((h2 x hn).trans hv) h) hd
theorem zg5 {x:Str}{v:V}{u:Value}{pos:Pos}(hg:Gl X x)(hm:X.mg x=some u)(r:RelV v u)(hd:(x == ("__debug__":Str))=false:=by decide):PE X (.Name x pos) (tC v):=
 λ_ _ _ H _ I h=>zcP I hg hm ⟨v,H,I,r,h⟩ hd
theorem zg8 {x:Str}{v:V}{u:Value}{pos:Pos}(hg:Gl X x)(hm:X.mg x=none)(hv:bootBuiltins x=some u)(r:RelV v u)(hn:x≠"__name__":=by decide)(hd:(x == ("__debug__":Str))=false:=by decide):PE X (.Name x pos) (tC v):=
 λ_ _ _ H _ I h=>z9g I hg hm hv ⟨v,H,I,r,h⟩ hn hd
variable {a b:Expr}{ta tb:TE}{pos:Pos}
noncomputable def PC (X:Cx)(op:CmpOp)(a b:Expr)(t:TE):Prop:=
 ∀(pins:List (Addr × Obj)) (s:Shared) (σ:St) (H:Hp) (Q:VK),Inv X pins σ H s->t σ H Q->
  wpAny (model X.prog X.w) X.A (eval a X.env) (λv s₁=>wpAny (model X.prog X.w) X.A (eval b X.env) (λu s₂=>wpAny (model X.prog X.w) X.A (compareOp op v u) (EP X pins σ Q) X.xe s₂) X.xe s₁) X.xe s
theorem zeb (b:Expr){op:CmpOp}(h:op ≠ .In)(h2:op ≠ .NotIn):behindInMarks op b=false:=by
 have e1:(op == CmpOp.In)=false:=by cases op <;> first | rfl | exact absurd rfl h
 have e2:(op == CmpOp.NotIn)=false:=by cases op <;> first | rfl | exact absurd rfl h2
 cases b <;> simp[behindInMarks,e1,e2]
noncomputable def tB (t:TE):TT:=λσ H Q=>t σ H λx H1=>∃c,x = .bl c/\Q c H1
theorem zkg {op:CmpOp}{t:TE}(h:PC X op a b t)(h1:behindInMarks op b=false:=by first | exact zeb _ (by decide) (by decide) | rfl):PT X (.Compare a [op] [b] pos) (tB t):=by
 intro pins s σ H Q I hw;refine wpAny_isTrue_Compare1 (thn (h pins s σ H _ I hw) λv s1 h1=>thn h1 λu s2 h2=>thn h2 λc s3 ⟨x,H1,I1,r1,q1⟩ =>?_) h1;obtain⟨d,rfl,q⟩:=q1
 cases r1
 exact wpAny_truthy_bool ⟨H1,I1,q⟩
theorem zhM {e:Expr}{t:TE}(h:PE X e t)(he:∀whole,isTrue e X.env whole=(do let v <- whole; standAt e.pos; holding [v] (truthy v)):=by intro _; rfl):PT X e (tB t):=by
 intro pins s σ H Q I hw;refine isTrue_plain (thn (h pins s σ H _ I hw) λv s1 ⟨x,H1,I1,r1,q1⟩ =>?_) (he _);obtain⟨d,rfl,q⟩:=q1
 cases r1
 exact wpAny_truthy_bool ⟨H1,I1,q⟩
variable {tA tB':TT}{rest:List Expr}
noncomputable def tAnd (t u:TT):TT:=λσ H Q=>t σ H λc H1=>if c=true then u σ H1 Q else Q false H1
noncomputable def tOr (t u:TT):TT:=λσ H Q=>t σ H λc H1=>if c=true then Q true H1 else u σ H1 Q
noncomputable def tNot (t:TT):TT:=λσ H Q=>t σ H λc H1=>Q (!c) H1
theorem zfT (ha:PT X a tA):PW X (.BoolOp .And [a] pos) tA:=by
 intro wh pins s σ H Q I h;refine isTrue_and (thn (ha pins s σ H Q I h) λc s1 e =>?_)
 cases c with
 | true=>exact isTrue_and_nil e
 | false=>exact e
theorem zhK (ha:PT X a tA):PW X (.BoolOp .Or [a] pos) tA:=by
 intro wh pins s σ H Q I h;refine isTrue_or (thn (ha pins s σ H Q I h) λc s1 e =>?_)
 cases c with
 | false=>exact isTrue_or_nil e
 | true=>exact e
theorem zhL (ha:PT X a tA)(hb:PW X (.BoolOp .And (b::rest) pos) tB'):PW X (.BoolOp .And (a::b::rest) pos) (tAnd tA tB'):=by
 intro wh pins s σ H Q I h;refine isTrue_and (thn (ha pins s σ H _ I h) λc s1 ⟨H1,I1,q1⟩ =>?_)
 cases c with
 | true=>exact hb wh pins s1 σ H1 Q I1 q1
 | false=>exact⟨H1,I1,q1⟩
theorem zju (ha:PT X a tA)(hb:PW X (.BoolOp .Or (b::rest) pos) tB'):PW X (.BoolOp .Or (a::b::rest) pos) (tOr tA tB'):=by
 intro wh pins s σ H Q I h;refine isTrue_or (thn (ha pins s σ H _ I h) λc s1 ⟨H1,I1,q1⟩ =>?_)
 cases c with
 | true=>exact⟨H1,I1,q1⟩
 | false=>exact hb wh pins s1 σ H1 Q I1 q1
theorem zhN (ha:PT X a tA):PT X (.UnaryOp .Not a pos) (tNot tA):=by
 intro pins s σ H Q I h;exact isTrue_not (ha pins s σ H (λc H1=>Q (!c) H1) I h)
noncomputable def zh2 (ta tb:TE):TE:=λσ H Q=>ta σ H λx H1=>∃c,x = .bl c/\if c=true then tb σ H1 Q else Q (.bl false) H1
theorem zhV {op}{t:TE}(h:PE X a t):PE X (.BoolOp op [a] pos) t:=λpins s σ H Q I hw=>BoolOp_one (h pins s σ H Q I hw)
theorem zi1 (ha:PE X a ta)(hb:PE X (.BoolOp .And (b::rest) pos) tb):PE X (.BoolOp .And (a::b::rest) pos) (zh2 ta tb):=by
 intro pins s σ H Q I h;refine BoolOp_and (thn (ha pins s σ H _ I h) λv s1 ⟨x,H1,I1,r1,q1⟩ =>?_);obtain⟨c,rfl,q1⟩:=q1
 cases r1
 refine wpAny_truthy_bool ?_
 cases c with
 | true=>exact hb pins s1 σ H1 Q I1 q1
 | false=>exact⟨.bl false,H1,I1,rfl,q1⟩
end
end L2
namespace L2
open PySem PySem.Spec PyProof.Rows
noncomputable def SqL (K:W.Frag)(H:Hp)(a:Addr)(xs:List V):Prop:=
 Rd H a (.lst xs)\/
  ∃(o:Obj) (its:Array Value) (n:Nat),K.lookup a=some o/\o.cls = .type "list"/\o.dict=none/\o.data = .seq its n/\its.size<=sizeLine/\Vals xs its.toList
noncomputable def SqT (K:W.Frag)(H:Hp)(a:Addr)(xs:List V):Prop:=
 Rd H a (.tup xs)\/
  ∃(o:Obj) (its:Array Value) (n:Nat),K.lookup a=some o/\o.cls = .type "tuple"/\o.data = .seq its n/\its.size<=sizeLine/\Vals xs its.toList
noncomputable def absV:Value->Option V
 | .none=>some .non
 | .bool b=>some (.bl b)
 | .int i _=>some (.int i)
 | .str x _=>some (.str x)
 | .bytes b _=>some (.byt b)
 | .float b _=>some (.flt b)
 | .ref a=>some (.ref a)
 | .type n=>some (.ty n)
 | _=>none
theorem RelV.abs {x:V}{u:Value}(r:RelV x u):absV u=some x:=by
 cases x with
 | non=>cases r; rfl
 | bl _=>cases r; rfl
 | int _=>obtain⟨t,rfl⟩:=r; rfl
 | str _=>obtain⟨t,rfl⟩:=r; rfl
 | byt _=>obtain⟨t,rfl⟩:=r; rfl
 | flt _=>obtain⟨t,rfl⟩:=r; rfl
 | ref _=>cases r; rfl
 | ty _=>cases r; rfl
theorem RelV.inj {x y:V}{u:Value}(r:RelV x u)(q:RelV y u):x=y:=Option.some.inj (r.abs.symm.trans q.abs)
theorem Vals.inj:∀{xs ys:List V}{us:List Value},Vals xs us->Vals ys us->xs=ys
 | _,_,_,.nil,.nil=>rfl
 | _,_,_,.cons r t,.cons r' t'=>by rw[r.inj r',Vals.inj t t']
section
variable {X:Cx}{pins:List (Addr × Obj)}{σ:St}{H:Hp}{s:Shared}{a:Addr}{xs ys:List V}
theorem SqL.of {K:W.Frag}(h:H a=some (.lst xs)):SqL K H a xs :=.inl (.inl h)
theorem SqT.of {K:W.Frag}(h:H a=some (.tup xs)):SqT K H a xs :=.inl (.inl h)
theorem Inv.list (I:Inv X pins σ H s)(h:SqL X.K H a xs):∃its:List Value,Vals xs its/\PlainL s.heap a its.toArray/\xs.length<=sizeLine:=by
 rcases h with h | ⟨o,its,n,hk,hc,hd,hs,hz,r⟩
 ·obtain⟨z,its,n,r,e⟩:=h.ok I.hok;exact⟨its,r,⟨_,n,e,rfl,rfl,rfl⟩,z⟩
 ·refine⟨its.toList,r,⟨o,n,I.kIn a o hk,hc,hd,by simpa using hs⟩,?_⟩;have e:=r.length;simp only[Array.length_toList] at e;omega
theorem Inv.tuple (I:Inv X pins σ H s)(h:SqT X.K H a xs):∃its:List Value,Vals xs its/\IsTup s.heap a its.toArray/\xs.length<=sizeLine:=by
 rcases h with h | ⟨o,its,n,hk,hc,hs,hz,r⟩
 ·obtain⟨z,its,r,p⟩:=h.ok I.hok;exact⟨its,r,p,z⟩
 ·refine⟨its.toList,r,⟨o,I.kIn a o hk,hc,n,by simpa using hs⟩,?_⟩;have e:=r.length;simp only[Array.length_toList] at e;omega
theorem Inv.list_inj (I:Inv X pins σ H s)(h:SqL X.K H a xs)(h':SqL X.K H a ys):xs=ys:=by
 obtain⟨its,r,⟨o,n,e,_,_,d⟩,_⟩:=I.list h;obtain⟨its',r',⟨o',n',e',_,_,d'⟩,_⟩:=I.list h';rw[e] at e'; cases e';rw[d] at d'
 injection d' with d1 _
 have:its=its':=by simpa using congrArg Array.toList d1
 subst this;exact r.inj r'
theorem Inv.tuple_inj (I:Inv X pins σ H s)(h:SqT X.K H a xs)(h':SqT X.K H a ys):xs=ys:=by
 obtain⟨its,r,⟨o,e,_,n,d⟩,_⟩:=I.tuple h;obtain⟨its',r',⟨o',e',_,n',d'⟩,_⟩:=I.tuple h';rw[e] at e'; cases e';rw[d] at d'
 injection d' with d1 _
 have:its=its':=by simpa using congrArg Array.toList d1
 subst this;exact r.inj r'
end
noncomputable abbrev Cx.wish (X:Cx)(E:Value->Shared->Prop):Cx:={ X with xe:=E }
noncomputable abbrev Cx.nox (X:Cx):Cx:=X.wish λ_ _=>False
theorem Cx.Ok.wish {X:Cx}(ok:X.Ok)(E:Value->Shared->Prop):(X.wish E).Ok:=
 ⟨ok.mod,ok.kind,ok.glob,ok.blt,ok.above,ok.inj,ok.has,ok.cab,ok.hd,ok.frames,ok.stk,ok.exf,ok.bs,ok.bsz,ok.noex,ok.exfs,ok.funs,ok.frf⟩
theorem Cx.Ok.unwish {X:Cx}{E:Value->Shared->Prop}(ok:(X.wish E).Ok):X.Ok:=
 ⟨ok.mod,ok.kind,ok.glob,ok.blt,ok.above,ok.inj,ok.has,ok.cab,ok.hd,ok.frames,ok.stk,ok.exf,ok.bs,ok.bsz,ok.noex,ok.exfs,ok.funs,ok.frf⟩
section
variable {X:Cx}{pins:List (Addr × Obj)}{σ:St}{H:Hp}{s:Shared}{E:Value->Shared->Prop}
theorem Inv.wish (I:Inv X pins σ H s)(E:Value->Shared->Prop):Inv (X.wish E) pins σ H s:=⟨I.ok.wish E,I.os,I.bare,I.base,I.loc,I.cell,I.free,I.freeC,I.pin,I.hok,I.len⟩
theorem Inv.unwish (I:Inv (X.wish E) pins σ H s):Inv X pins σ H s:=⟨I.ok.unwish,I.os,I.bare,I.base,I.loc,I.cell,I.free,I.freeC,I.pin,I.hok,I.len⟩
theorem SP.unwish {D:Ends}{f:Flow}{s':Shared}(h:SP (X.wish E) pins D f s'):SP X pins D f s':=by
 cases f with
 | next=>obtain⟨σ',H',I,q⟩:=h; exact⟨σ',H',I.unwish,q⟩
 | brk=>obtain⟨σ',H',I,q⟩:=h; exact⟨σ',H',I.unwish,q⟩
 | cont=>obtain⟨σ',H',I,q⟩:=h; exact⟨σ',H',I.unwish,q⟩
 | ret u=>obtain⟨v,σ',H',I,r,q⟩:=h; exact⟨v,σ',H',I.unwish,r,q⟩
theorem PSs.nox {st:List Stmt}{t:TS}(h:PSs X.nox st t):PSs X st t:=λpins s σ H D I hw=>
 wpAny_mono (h pins s σ H D (I.wish _) hw) (λ_ _ q=>q.unwish) λ_ _ z=>False.elim z
end
section
variable {X:Cx}{st:Stmt}{rest:List Stmt}{t u:TS}{e:Expr}{te:TE}{pos:Pos}
noncomputable def zgY:TS:=λD σ H=>D.nx σ H
noncomputable def tSeq (t u:TS):TS:=λD σ H=>t { D with nx:=u D } σ H
theorem zfW:PSs X [] zgY:=λ_ _ σ H _ I h=>wpAny_execs_nil ⟨σ,H,I,h⟩
theorem zdR (h1:PS X st t)(h2:PSs X rest u):PSs X (st::rest) (tSeq t u):=by
 intro pins s σ H D I h;refine wpAny_execs_cons (thn (h1 pins s σ H { D with nx:=u D } I h) λf s1 q =>?_)
 cases f with
 | next=>
  obtain⟨σ',H',I',q⟩:=q;exact h2 pins s1 σ' H' D I' q
 | ret v=>exact q
 | brk=>exact q
 | cont=>exact q
theorem zfV (h1:PS X st t):PSs X [st] t:=by
 intro pins s σ H D I h;refine wpAny_execs_cons (thn (h1 pins s σ H D I h) λf s1 q =>?_)
 cases f with
 | next=>exact wpAny_execs_nil q
 | ret v=>exact q
 | brk=>exact q
 | cont=>exact q
theorem Inv.quiet {pins:List (Addr × Obj)}{σ:St}{H:Hp}{s:Shared}(I:Inv X pins σ H s):interactive X.env=false:=by simp[interactive,I.ok.kind]
noncomputable def zgZ (te:TE):TS:=λD σ H=>te σ H λ_ H1=>D.nx σ H1
theorem zfX (he:PE X e te)(hs:swapsWith e none pos.line X.env=pure false:=by rfl):PS X (.Expr e pos) (zgZ te):=by
 intro pins s σ H D I h;exact wpAny_Expr_any (thn (he pins s σ H _ I h) λv s1 ⟨x,H1,I1,r1,q1⟩=>⟨σ,H1,I1,q1⟩) I.quiet hs
noncomputable def tRet (te:TE):TS:=λD σ H=>te σ H D.rt
theorem zhP (he:PE X e te):PS X (.Return (some e) pos) (tRet te):=by
 intro pins s σ H D I h;exact wpAny_Return_some (thn (he pins s σ H _ I h) λv s1 ⟨x,H1,I1,r1,q1⟩=>⟨x,σ,H1,I1,r1,q1⟩)
noncomputable def tIfS (c:TT)(t u:TS):TS:=λD σ H=>c σ H λb H1=>if b=true then t D σ H1 else u D σ H1
theorem zjv {c:Expr}{a b:List Stmt}{tc:TT}(hc:PT X c tc)(ha:PSs X a t)(hb:PSs X b u):PS X (.If c a b pos) (tIfS tc t u):=by
 intro pins s σ H D I h;refine wpAny_If (thn (hc pins s σ H _ I h) λd s1 ⟨H1,I1,q1⟩ =>?_)
 cases d with
 | true=>exact ha pins s1 σ H1 D I1 q1
 | false=>exact hb pins s1 σ H1 D I1 q1
end
noncomputable abbrev TG:=V->St->Hp->(St->Hp->Prop)->Prop
noncomputable abbrev TGs:=List V->St->Hp->(St->Hp->Prop)->Prop
noncomputable def PG (X:Cx)(target:Expr)(t:TG):Prop:=
 ∀(pins:List (Addr × Obj)) (s:Shared) (σ:St) (H:Hp) (v:V) (u:Value) (Q:St->Hp->Prop),Inv X pins σ H s->RelV v u->t v σ H Q->
  wpAny (model X.prog X.w) X.A (assign target X.env u) (λ_ s'=>∃σ' H',Inv X pins σ' H' s'/\Q σ' H') X.xe s
noncomputable def PGs (X:Cx)(ts:List Expr)(t:TGs):Prop:=
 ∀(pins:List (Addr × Obj)) (s:Shared) (σ:St) (H:Hp) (vs:List V) (us:List Value) (Q:St->Hp->Prop),Inv X pins σ H s->Vals vs us->t vs σ H Q->
  wpAny (model X.prog X.w) X.A (assignInOrder ((assignEach ts X.env).map (·.2)) us) (λ_ s'=>∃σ' H',Inv X pins σ' H' s'/\Q σ' H') X.xe s
section
variable {X:Cx}{pos:Pos}
noncomputable def z5Y (i:Nat):TG:=λv σ H Q=>Q (σ.set i (some v)) H
theorem zcq {i:Nat}{x:Str}(hN:X.N.Nodup)(hi:X.N[i]? = some x)(hx:Loc X.env.scope x)(hf:X.fn x=true\/X.env.scope.names.lookup x=some .local:=by first | exact .inl rfl | exact .inr rfl | assumption):PG X (.Name x pos) (z5Y i):=by
 intro pins s σ H v u Q I r h;exact wpAny_assign_Name (zat I hN hi hx r (λs' I'=>⟨_,H,I',h⟩) hf)
noncomputable def gNil:TGs:=λvs σ H Q=>vs=[]/\Q σ H
noncomputable def zeu (t:TG)(u:TGs):TGs:=λvs σ H Q=>∃v r,vs=v::r/\t v σ H λσ' H'=>u r σ' H' Q
theorem zg4:PGs X [] gNil:=by
 intro pins s σ H vs us Q I r h;obtain⟨e,h⟩:=h;subst e
 cases r
 exact assignInOrder_nil ⟨σ,H,I,h⟩
theorem zdV {e:Expr}{es:List Expr}{t:TG}{u:TGs}(h1:PG X e t)(h2:PGs X es u)
  (hs:(assignEach (e::es) X.env).map (·.2)=assign e X.env::(assignEach es X.env).map (·.2):=by rfl):PGs X (e::es) (zeu t u):=by
 intro pins s σ H vs us Q I r h;obtain⟨v,vr,e1,h⟩:=h;subst e1
 cases r with
 | cons r rr=>
  rw[hs];refine assignInOrder_cons (thn (h1 pins s σ H _ _ _ I r h) λ_ s1 ⟨σ1,H1,I1,q1⟩ =>?_);exact h2 pins s1 σ1 H1 _ _ Q I1 rr q1
noncomputable def gTup (K:W.Frag)(n:Nat)(t:TGs):TG:=λv σ H Q=>∃a xs,v = .ref a/\SqT K H a xs/\xs.length=n/\t xs σ H Q
theorem zhT {es:List Expr}{k:Nat}{t:TGs}{n:Nat}(hc:X.calm=true)(h:PGs X es t)
  (hn:(assignEach es X.env).length=n:=by rfl) (hst:(assignEach es X.env).findIdx? (·.1)=none:=by rfl):PG X (.Tuple es k pos) (gTup X.K n t):=by
 intro pins s σ H v u Q I r hw;obtain⟨a,xs,e1,hq,hl,hw⟩:=hw;subst e1
 cases r
 obtain⟨its,rv,ht,hz⟩:=I.tuple hq;refine assign_Tuple_tuple (I.ok.hd hc) ht (by simp[hn, <- hl,rv.length]) hst λh' hx =>?_;have I1:Inv X pins σ H { s with heap:=h' }:=I.kept (t':=s.toks) λb o e=>hx b o (Nat.ne_of_lt (Heap.lt_size e)) e;exact h pins _ σ H xs _ Q I1 (by simpa using rv) hw
noncomputable def tAsg (te:TE)(g:TG):TS:=λD σ H=>te σ H λx H1=>g x σ H1 D.nx
theorem zhO {i:Nat}{x:Str}{e:Expr}{te:TE}{pos':Pos}(hN:X.N.Nodup)(hi:X.N[i]? = some x)(hx:Loc X.env.scope x)(he:PE X e te)(hs:swapsWith e (some (.Name x pos')) pos.line X.env=pure false:=by rfl)(hf:X.fn x=true\/X.env.scope.names.lookup x=some .local:=by first | exact .inl rfl | exact .inr rfl | assumption):
  PS X (.Assign [.Name x pos'] e pos) (tAsg te (z5Y i)):=by
 intro pins s σ H D I h;refine wpAny_Assign_Name (thn (he pins s σ H _ I h) λv s1 ⟨y,H1,I1,r1,q1⟩ =>?_) hs;exact zat I1 hN hi hx r1 (λs2 I2=>⟨_,H1,I2,q1⟩) hf
end
section
variable {X:Cx}{pos:Pos}
noncomputable def zeJ (c:TT)(tb:TS):TS:=λD σ H=>∃W:Nat->St->Hp->Prop,(∃m,W m σ H)/\∀m σ H,W m σ H->
 c σ H λb H1=>if b=true then ∃N:St->Hp->Prop,(∀σ' H',N σ' H'->∃m',m'<m/\W m' σ' H')/\tb { D with nx:=N,ct:=N,bk:=D.nx } σ H1 else D.nx σ H1
theorem zdS {c:Expr}{body:List Stmt}{tc:TT}{tb:TS}(hp:PassesOwn (model X.prog X.w) X.A X.env X.xe)(hc:PT X c tc)(hb:PSs X body tb):PS X (.While c body [] pos) (zeJ tc tb):=by
 intro pins s σ H D I h;obtain⟨W,⟨m0,w0⟩,turn⟩:=h;refine wpAny_While (codeAny_whileLoop (λn s'=>∃σ' H',Inv X pins σ' H' s'/\W n σ' H') ?_ m0 ⟨σ,H,I,w0⟩);rintro n s1 ⟨σ1,H1,I1,w1⟩;refine wpAny_passesOwn hp (thn (hc pins s1 σ1 H1 _ I1 (turn n σ1 H1 w1)) λb s2 ⟨H2,I2,q2⟩ =>?_)
 cases b with
 | true=>
  obtain⟨N,hN,q2⟩:=q2;rw[if_pos rfl];refine wpAny_passesOwn hp (thn (hb pins s2 σ1 H2 _ I2 q2) λf s3 q3 =>?_)
  cases f with
  | next=>
   obtain⟨σ3,H3,I3,n3⟩:=q3;obtain⟨m',hm,w3⟩:=hN σ3 H3 n3;exact⟨m',hm,σ3,H3,I3,w3⟩
  | cont=>
   obtain⟨σ3,H3,I3,n3⟩:=q3;obtain⟨m',hm,w3⟩:=hN σ3 H3 n3;exact⟨m',hm,σ3,H3,I3,w3⟩
  | brk=>exact q3
  | ret v=>exact q3
 | false=>
  rw[if_neg Bool.false_ne_true];exact wpAny_execs_nil ⟨σ1,H2,I2,q2⟩
end
structure It where
 go:Nat->Hp->Prop
 yld:Nat->Hp->V->Hp->Prop
 stop:Nat->Hp->Prop
noncomputable def FpOk (X:Cx)(pins:List (Addr × Obj))(H:Hp)(b:Addr):Prop:=
 H b=none/\b≠X.env.locals/\b ∉ X.fs/\(b∈X.ex\/X.s₀.heap.objs.size<=b)/\(∀x c,X.env.cells.lookup x=some c->c≠b)/\∀p∈X.pn++pins,p.1≠b
theorem Inv.fpOk {X:Cx}{pins:List (Addr × Obj)}{σ:St}{H H':Hp}{s:Shared}{b:Addr}(I:Inv X pins σ H s)(hb:s.heap.objs.size<=b)(hn:H' b=none):FpOk X pins H' b:=by
 refine⟨hn,Nat.ne_of_gt (Nat.lt_of_lt_of_le I.lt hb),I.nofs hb,.inr (Nat.le_trans I.sz hb),λx c e z =>?_,λp hp z =>?_⟩
 ·obtain⟨v,q⟩:=I.cell x c e;exact absurd (Nat.lt_of_lt_of_le q.lt (by rw[z]; exact hb)) (Nat.lt_irrefl _)
 ·exact absurd (Nat.lt_of_lt_of_le (Heap.lt_size (I.pin p hp).1) (by rw[z]; exact hb)) (Nat.lt_irrefl _)
structure Turn (P:Program)(w:World)(K:W.Frag)(tg:Expr)(J:It)(fp:List Addr)(it:Addr)(tn:Nat->Heap->Prop):Prop where
 mem:it∈fp
 obj:∀i h,tn i h->∀b∈fp,∃o,h.get? b=some o/\∀v,o.data ≠ .cell v
 keep:∀i h h',tn i h->(∀b∈fp,∀o,h.get? b=some o->h'.get? b=some o)->tn i h'
 item:∀(X:Cx),X.prog=P->X.w=w->X.K=K->X.calm=true->∀(i:Nat) (pins:List (Addr × Obj)) (s:Shared) (σ:St) (H:Hp) (E:Value->Shared->Prop),Inv X pins σ H s->(∀b∈fp,FpOk X pins H b)->tn i s.heap->J.go i H->
  wpAny (model P w) X.A (pyNext (.ref it)) (λr s1=>∃u,r=some u/\
   wpAny (model P w) X.A (letOwnedTupleGo tg (.ref it) u) (λ_ s2=>∃x H',Inv X pins σ H' s2/\RelV x u/\J.yld i H x H'/\tn (i+1) s2.heap/\∀b∈fp,H' b=none) E s1) E s
 done:∀(X:Cx),X.prog=P->X.w=w->X.K=K->X.calm=true->∀(i:Nat) (pins:List (Addr × Obj)) (s:Shared) (σ:St) (H:Hp) (E:Value->Shared->Prop),Inv X pins σ H s->(∀b∈fp,FpOk X pins H b)->tn i s.heap->J.stop i H->
  wpAny (model P w) X.A (pyNext (.ref it)) (λr s1=>r=none/\Inv X pins σ H s1) E s
 self:∀(A:Around) (i:Nat) (s:Shared) (Q:Value->Shared->Prop) (E:Value->Shared->Prop),tn i s.heap->Q (.ref it) s->wpAny (model P w) A (pyIter (.ref it)) Q E s
noncomputable abbrev TI:=St->Hp->(It->Hp->Prop)->Prop
noncomputable def PIE (X:Cx)(pins:List (Addr × Obj))(σ:St)(tg:Expr)(R:It->Hp->Prop)(itv:Value)(s2:Shared):Prop:=
 ∃(it:Addr) (fp:List Addr) (tn:Nat->Heap->Prop) (J:It) (H':Hp),itv = .ref it/\Inv X pins σ H' s2/\Turn X.prog X.w X.K tg J fp it tn/\tn 0 s2.heap/\(∀b∈fp,FpOk X pins H' b)/\R J H'
noncomputable def PI (X:Cx)(tg iter:Expr)(wi:TI):Prop:=
 ∀(pins:List (Addr × Obj)) (s:Shared) (σ:St) (H:Hp) (R:It->Hp->Prop),Inv X pins σ H s->wi σ H R->
  wpAny (model X.prog X.w) X.A (eval iter X.env) (λv s1=>wpAny (model X.prog X.w) X.A (pyIter v) (PIE X pins σ tg R) X.xe s1) X.xe s
theorem zeq {M:Model}{A:Around}{E:Value->Shared->Prop}{s:Shared}{tg:Expr}{it:Addr}{u:Value}{o:Obj}{n:String}{vs:Array Value}{Q:Unit->Shared->Prop}(ho:s.heap.get? it=some o)(hc:o.cls = .type n)(hd:o.data = .fields vs)
  (hn:["enumerate","zip","dict_itemiterator","dict_reverseitemiterator","odict_iterator","itertools.zip_longest","itertools.pairwise"].contains n=false) (hQ:Q () s):wpAny M A (letOwnedTupleGo tg (.ref it) u) Q E s:=by
 unfold letOwnedTupleGo
 cases tg <;> first
  | exact wpAny_pure hQ
  | (cases u <;> first
    | exact wpAny_pure hQ
    | (refine wpAny_bind (wpAny_load ho ?_)
       rw[hc,hd];show wpAny M A (if (["enumerate","zip","dict_itemiterator","dict_reverseitemiterator","odict_iterator","itertools.zip_longest","itertools.pairwise"].contains n && vs[0]? == some (rawInt _))=true then _ else _) Q E s;rw[if_neg (by intro h; rw[hn,Bool.false_and] at h; cases h)];exact wpAny_pure hQ))
noncomputable def Itl (K:W.Frag)(a:Addr):It:=
 ⟨λi H=>∃xs x,SqL K H a xs/\xs[i]? = some x,λi H x H'=>H'=H/\∀xs,SqL K H a xs->xs[i]? = some x,λi H=>∃xs,SqL K H a xs/\xs.length<=i⟩
noncomputable def Itt (K:W.Frag)(a:Addr):It:=
 ⟨λi H=>∃xs x,SqT K H a xs/\xs[i]? = some x,λi H x H'=>H'=H/\∀xs,SqT K H a xs->xs[i]? = some x,λi H=>∃xs,SqT K H a xs/\xs.length<=i⟩
noncomputable def Itr (lo:Int)(n:Nat):It:=⟨λi _=>i<n,λi H x H'=>H'=H/\x = .int (lo+i),λi _=>n<=i⟩
theorem zbT {P:Program}{w:World}{K:W.Frag}{tg:Expr}(a it:Addr):Turn P w K tg (Itl K a) [it] it (λi h=>h.IsListIter it a i) where
 mem:=by simp
 obj:=λi h st b hb=>by
  have e:b=it:=by simpa using hb
  subst e;obtain⟨o,e,c,d⟩:=st;exact⟨o,e,λv z=>by rw[d] at z; cases z⟩
 keep:=λi h h' st k=>st.at λo e=>k it (by simp) o e
 item:=by
  intro X hP hw hK hc i pins s σ H E I hf st hg;subst hP hw hK;obtain⟨xs,x,hq,hx⟩:=hg;obtain⟨its,rv,p,hz⟩:=I.list hq;obtain⟨u,hu,ru⟩:=rv.get hx;obtain⟨f0,f1,f2,f3,f4,f5⟩:=hf it (by simp);refine wpAny_pyNext_list_item st p.isList (x:=u) (by simpa using hu) λh' st' sb =>?_;have I1:Inv X pins σ H { s with heap:=h' }:=I.turned (t':=s.toks) (λb o hb e=>(sb.2 b hb).trans e) f0 f1 f3 f4 f5;obtain⟨o,e,c,d⟩:=id st';exact⟨u,rfl,zeq (s:={ s with heap:=h' }) e c d (by decide) ⟨x,H,I1,ru,⟨rfl,λys hy=>by rw[I.list_inj hy hq]; exact hx⟩,st',λb hb=>(hf b hb).1⟩⟩
 done:=by
  intro X hP hw hK hc i pins s σ H E I hf st hg;subst hP hw hK;obtain⟨xs,hq,hx⟩:=hg;obtain⟨its,rv,p,hz⟩:=I.list hq;obtain⟨f0,f1,f2,f3,f4,f5⟩:=hf it (by simp);have hl:=rv.length;exact wpAny_pyNext_list_end (I.ok.hd hc) st p.isList (by simp; omega) λh' eb=>⟨rfl,I.turned (t':=s.toks) (λb o hb e=>eb b o hb e) f0 f1 f3 f4 f5⟩
 self:=λ_ _ _ _ _ st h=>wpAny_pyIter_listiter st h
theorem zb4 {P:Program}{w:World}{K:W.Frag}{tg:Expr}(a it:Addr):Turn P w K tg (Itt K a) [it] it (λi h=>h.IsTupleIter it a i) where
 mem:=by simp
 obj:=λi h st b hb=>by
  have e:b=it:=by simpa using hb
  subst e;obtain⟨o,e,c,d⟩:=st;exact⟨o,e,λv z=>by rw[d] at z; cases z⟩
 keep:=λi h h' st k=>st.at λo e=>k it (by simp) o e
 item:=by
  intro X hP hw hK hc i pins s σ H E I hf st hg;subst hP hw hK;obtain⟨xs,x,hq,hx⟩:=hg;obtain⟨its,rv,p,hz⟩:=I.tuple hq;obtain⟨u,hu,ru⟩:=rv.get hx;obtain⟨f0,f1,f2,f3,f4,f5⟩:=hf it (by simp);refine wpAny_pyNext_tuple_item st (show s.heap.IsTuple a its.toArray from p) (x:=u) (by simpa using hu) λh' st' sb =>?_;have I1:Inv X pins σ H { s with heap:=h' }:=I.turned (t':=s.toks) (λb o hb e=>(sb.2 b hb).trans e) f0 f1 f3 f4 f5;obtain⟨o,e,c,d⟩:=id st';exact⟨u,rfl,zeq (s:={ s with heap:=h' }) e c d (by decide) ⟨x,H,I1,ru,⟨rfl,λys hy=>by rw[I.tuple_inj hy hq]; exact hx⟩,st',λb hb=>(hf b hb).1⟩⟩
 done:=by
  intro X hP hw hK hc i pins s σ H E I hf st hg;subst hP hw hK;obtain⟨xs,hq,hx⟩:=hg;obtain⟨its,rv,p,hz⟩:=I.tuple hq;obtain⟨f0,f1,f2,f3,f4,f5⟩:=hf it (by simp);have hl:=rv.length;exact wpAny_pyNext_tuple_end (I.ok.hd hc) st (show s.heap.IsTuple a its.toArray from p) (by simp; omega) λh' eb=>⟨rfl,I.turned (t':=s.toks) (λb o hb e=>eb b o hb e) f0 f1 f3 f4 f5⟩
 self:=λ_ _ _ _ _ st h=>wpAny_pyIter_tupleiter st h
theorem zb5 {P:Program}{w:World}{K:W.Frag}{tg:Expr}(it:Addr)(lo:Int)(n:Nat):Turn P w K tg (Itr lo n) [it] it (λi h=>IsRangeIter h it (lo+(i:Nat)*1) ((n:Int) - (i:Nat)) 1) where
 mem:=by simp
 obj:=λi h st b hb=>by
  have e:b=it:=by simpa using hb
  subst e;exact⟨_,st,λv z=>by
   have z':Data.fields _=Data.cell v:=z
   cases z'⟩
 keep:=λi h h' st k=>k it (by simp) _ st
 item:=by
  intro X hP hw hK hc i pins s σ H E I hf st hg;subst hP hw hK;obtain⟨f0,f1,f2,f3,f4,f5⟩:=hf it (by simp);have W:=Walks.range (prog:=X.prog) (w:=X.w) (I.ok.hd hc) it lo 1 n;refine W.item i s _ _ hg st λv h' tk hv st' kk =>?_;obtain⟨t,rfl⟩:=hv;have I1:Inv X pins σ H { s with heap:=h',toks:=tk }:=I.turned (λb o hb e=>kk b o (by simpa using hb) e) f0 f1 f3 f4 f5;refine⟨_,rfl,zeq (s:={ s with heap:=h',toks:=tk }) (n:="range_iterator") st' rfl rfl (by decide) ⟨.int (lo+i),H,I1,⟨t,?_⟩,⟨rfl,rfl⟩,st',λb hb=>(hf b hb).1⟩⟩;rw[Int.mul_one]
 done:=by
  intro X hP hw hK hc i pins s σ H E I hf st hg;subst hP hw hK;obtain⟨f0,f1,f2,f3,f4,f5⟩:=hf it (by simp);exact wpAny_pyNext_range_end (I.ok.hd hc) st (by have:n<=i:=hg; omega) λh' eb=>⟨rfl,I.turned (t':=s.toks) (λb o hb e=>eb b o hb e) f0 f1 f3 f4 f5⟩
 self:=λ_ _ _ _ _ st h=>wpAny_pyIter_rangeiter st h
end L2
namespace L2
open PySem PySem.Spec PyProof.Rows
section
variable {X:Cx}{tg:Expr}
theorem zdJ {pins:List (Addr × Obj)}{σ:St}{H:Hp}{s:Shared}{R:It->Hp->Prop}{E:Value->Shared->Prop}{lo hi:Int}{t u v:Tok}{tk:Nat}(I:Inv X pins σ H s)(h1 : -(2 ^ 62)<=lo)(h2:lo<2 ^ 62)(h3 : -(2 ^ 62)<=hi)(h4:hi<2 ^ 62)
  (q:R (Itr lo (hi - lo).toNat) H):wpAny (model X.prog X.w) X.A (pyIter (.ref s.heap.objs.size)) (PIE X pins σ tg R) E { s with heap:=s.heap.push { cls :=.type "range",data :=.fields #[.int lo t,.int hi u,.int 1 v] },toks:=tk }:=by
 refine wpAny_pyIter_range (IsRange.new ..) (small_one h1 h2 h3 h4) ?_;have I1:Inv X pins σ H { s with heap:=s.heap.push { cls :=.type "range",data :=.fields #[.int lo t,.int hi u,.int 1 v] },toks:=tk }:=I.kept λb o e=>Heap.get?_push_of_some _ e;refine⟨(s.heap.push { cls :=.type "range",data :=.fields #[.int lo t,.int hi u,.int 1 v] }).objs.size,[(s.heap.push { cls :=.type "range",data :=.fields #[.int lo t,.int hi u,.int 1 v] }).objs.size],_,_,H,rfl,
  I1.kept (t':=tk) λb o e=>Heap.get?_push_of_some _ e,zb5 _ lo (hi - lo).toNat,?_,λb hb =>?_,q⟩
 ·have e1:lo+((0:Nat):Int)*1=lo:=by simp
  have e2:(((hi - lo).toNat:Nat):Int) - ((0:Nat):Int)=Builtin.Range.rangeSize lo hi 1:=by rw[rangeSize_one]; split <;> omega
  show IsRangeIter _ _ (lo+((0:Nat):Int)*1) ((((hi - lo).toNat:Nat):Int) - ((0:Nat):Int)) 1;rw[e1,e2];exact Heap.get?_push_size _ rfl
 ·have e:b=(s.heap.push { cls :=.type "range",data :=.fields #[.int lo t,.int hi u,.int 1 v] }).objs.size:=by simpa using hb
  subst e;exact I1.fpOk (Nat.le_refl _) (I1.hok.fresh (Nat.le_refl _))
noncomputable def ziW (ta:TA):TI:=λσ H R=>ta σ H λvs H1=>∃j:Int,vs=[.int j] /\ -(2 ^ 62)<=j/\j<2 ^ 62/\R (Itr 0 j.toNat) H1
theorem zcp {a:Expr}{ta:TA}{p pos:Pos}(hg:Gl X "range")(hm:X.mg "range"=none)(ha:PA X [a] ta)(hs:starEach [a] X.env=[(false,eval a X.env)]:=by rfl):PI X tg (.Call (.Name "range" p) [a] [] pos) (ziW ta):=by
 intro pins s σ H R I h;refine Call_ (z9g I hg hm boot_range (PyProof.Rows.callWith_type1 (thn (ha pos pins s σ H _ I h) λus s1 ⟨vs,H1,I1,r1,q1⟩ =>?_) hs rfl));obtain⟨j,e,q1,q2,q⟩:=q1;subst e
 cases r1 with
 | cons r rr=>
  cases rr
  obtain⟨t,rfl⟩:=r;exact call_range_1 (zdJ I1 (by omega) (by omega) q1 q2 (by simpa using q))
noncomputable def tFor (wi:TI)(g:TG)(tb:TS):TS:=λD σ H=>wi σ H λJ H1=>∃W:Nat->Nat->St->Hp->Prop,(∃m,W 0 m σ H1)/\∀i m σ H,W i m σ H->
 (J.stop i H/\D.nx σ H)\/(J.go i H/\∃N:St->Hp->Prop,(∀σ' H',N σ' H'->∃m',m'<m/\W (i+1) m' σ' H')/\∀x H',J.yld i H x H'->g x σ H' λσ2 H2=>tb { D with nx:=N,ct:=N,bk:=D.nx } σ2 H2)
noncomputable def z68 (fp:List Addr)(h:Heap):List (Addr × Obj):=fp.filterMap λb=>(h.get? b).map λo=>(b,o)
theorem z2y {fp:List Addr}{h:Heap}{b:Addr}{o:Obj}(hb:b∈fp)(e:h.get? b=some o):(b,o)∈z68 fp h:=List.mem_filterMap.mpr ⟨b,hb,by rw[e]; rfl⟩
theorem zcx {fp:List Addr}{h:Heap}{p:Addr × Obj}(hp:p∈z68 fp h):p.1∈fp/\h.get? p.1=some p.2:=by
 obtain⟨b,hb,e⟩:=List.mem_filterMap.mp hp
 cases q:h.get? b with
 | none=>rw[q] at e; cases e
 | some o=>
  rw[q] at e;have e':(b,o)=p:=Option.some.inj e;subst e';exact⟨hb,q⟩
theorem Inv.pinned {pins:List (Addr × Obj)}{σ:St}{H:Hp}{s:Shared}{fp:List Addr}(I:Inv X pins σ H s)(hf:∀b∈fp,FpOk X pins H b)(ho:∀b∈fp,∃o,s.heap.get? b=some o/\∀v,o.data ≠ .cell v):Inv X (pins++z68 fp s.heap) σ H s:=
 I.pins_of λp hp=>(List.mem_append.mp hp).elim (λz=>I.pin p (List.mem_append_right _ z)) λz=>by
  obtain⟨hb,e⟩:=zcx z;obtain⟨f0,f1,f2,_⟩:=hf p.1 hb;obtain⟨o,e',d⟩:=ho p.1 hb;rw[e] at e'; cases e';exact⟨e,f0,f1,f2,d⟩
theorem Inv.unpinned {pins pl:List (Addr × Obj)}{σ:St}{H:Hp}{s:Shared}(I:Inv X (pins++pl) σ H s):Inv X pins σ H s:=I.pins_of λp hp=>I.pin p (List.mem_append_right _ (List.mem_append_left _ hp))
theorem zhR {iter:Expr}{body:List Stmt}{wi:TI}{g:TG}{tb:TS}{pos:Pos}(hp:PassesOwn (model X.prog X.w) X.A X.env X.xe)(hc:X.calm=true)(hi:PI X tg iter wi)(hg:PG X tg g)(hb:PSs X body tb)
  (hs:∀x,foldedSetIterable iter X.env x=pure x:=by intro _; rfl):PS X (.For tg iter body [] pos) (tFor wi g tb):=by
 intro pins s σ H D I h;refine wpAny_For (thn (hi pins s σ H _ I h) λv s1 h1=>thn h1 λitv s2 h2 =>?_) hs;obtain⟨it,fp,tn,J,H2,e,I2,T,st2,f2,W,⟨m0,w0⟩,turn⟩:=h2;subst e;have stat:∀{H':Hp},(∀b∈fp,H' b=none)->∀b∈fp,FpOk X pins H' b:=λhn b hb=>⟨hn b hb,(f2 b hb).2⟩
 refine codeAny_forLoop_any (λn s'=>∃i σ' H',Inv X pins σ' H' s'/\tn i s'.heap/\(∀b∈fp,H' b=none)/\W i n σ' H') ?_ m0 ⟨0,σ,H2,I2,st2,λb hb=>(f2 b hb).1,w0⟩;rintro n s3 ⟨i,σ3,H3,I3,st3,fr3,w3⟩
 rcases turn i n σ3 H3 w3 with ⟨stop,qn⟩ | ⟨go,N,hN,step⟩
 ·refine wpAny_passesOwn hp (thn (T.done X rfl rfl rfl hc i pins s3 σ3 H3 X.xe I3 (stat fr3) st3 stop) λr s4 ⟨hr,I4⟩ =>?_);subst hr;exact wpAny_execs_nil ⟨σ3,H3,I4,qn⟩
 ·refine wpAny_passesOwn hp (thn (T.item X rfl rfl rfl hc i pins s3 σ3 H3 X.xe I3 (stat fr3) st3 go) λr s4 ⟨u,hr,h4⟩ =>?_);subst hr;refine wpAny_passesOwn hp (thn h4 λ_ s5 ⟨x,H5,I5,r5,y5,st5,fr5⟩ =>?_);have I5':=I5.pinned (stat fr5) (T.obj _ _ st5);refine wpAny_passesOwn hp (thn (hg _ s5 σ3 H5 x u _ I5' r5 (step x H5 y5)) λ_ s6 ⟨σ6,H6,I6,q6⟩ =>?_);refine wpAny_passesOwn hp (thn (hb _ s6 σ6 H6 _ I6 q6) λf s7 q7 =>?_);have again:∀{σ7:St}{H7:Hp},Inv X (pins++z68 fp s5.heap) σ7 H7 s7->N σ7 H7->∃m,m<n/\∃i σ' H',Inv X pins σ' H' s7/\tn i s7.heap/\(∀b∈fp,H' b=none)/\W i m σ' H':=λ{σ7 H7} I7 n7=>by
   obtain⟨m',hm,w7⟩:=hN σ7 H7 n7;refine⟨m',hm,i+1,σ7,H7,I7.unpinned,T.keep _ _ _ st5 λb hb o e=>(I7.pin (b,o) (List.mem_append_right _ (List.mem_append_right _ (z2y hb e)))).1,λb hb =>?_,w7⟩;obtain⟨o,e,d⟩:=T.obj _ _ st5 b hb;exact(I7.pin (b,o) (List.mem_append_right _ (List.mem_append_right _ (z2y hb e)))).2.1
  cases f with
  | next=>obtain⟨σ7,H7,I7,n7⟩:=q7; exact again I7 n7
  | cont=>obtain⟨σ7,H7,I7,n7⟩:=q7; exact again I7 n7
  | brk=>obtain⟨σ7,H7,I7,q7⟩:=q7; exact⟨σ7,H7,I7.unpinned,q7⟩
  | ret v=>obtain⟨x7,σ7,H7,I7,r7,q7⟩:=q7; exact⟨x7,σ7,H7,I7.unpinned,r7,q7⟩
end
end L2
namespace L2
open PySem PySem.Spec PyProof.Rows
noncomputable abbrev R2:=V->V->Hp->VK->Prop
noncomputable def OpR (X:Cx)(f:Value->Value->Sem Value)(r:R2):Prop:=
 ∀(pins:List (Addr × Obj)) (s:Shared) (σ:St) (H:Hp) (x y:V) (v u:Value) (Q:VK),Inv X pins σ H s->RelV x v->RelV y u->r x y H Q->
  wpAny (model X.prog X.w) X.A (f v u) (EP X pins σ Q) X.xe s
noncomputable def UnR (X:Cx)(f:Value->Sem Value)(r:V->Hp->VK->Prop):Prop:=
 ∀(pins:List (Addr × Obj)) (s:Shared) (σ:St) (H:Hp) (x:V) (v:Value) (Q:VK),Inv X pins σ H s->RelV x v->r x H Q->
  wpAny (model X.prog X.w) X.A (f v) (EP X pins σ Q) X.xe s
noncomputable def z1l (X:Cx)(f:Value)(r:List V->Hp->VK->Prop):Prop:=
 ∀(pins:List (Addr × Obj)) (s:Shared) (σ:St) (H:Hp) (xs:List V) (us:List Value) (Q:VK),Inv X pins σ H s->Vals xs us->r xs H Q->
  wpAny (model X.prog X.w) X.A (call f us) (EP X pins σ Q) X.xe s
noncomputable def tOp (r:R2)(ta tb:TE):TE:=λσ H Q=>ta σ H λx H1=>tb σ H1 λy H2=>r x y H2 Q
noncomputable def tUn (r:V->Hp->VK->Prop)(ta:TE):TE:=λσ H Q=>ta σ H λx H1=>r x H1 Q
noncomputable def rI (C:Int->Int->Prop)(g:Int->Int->V):R2:=λx y H Q=>∃i j,x = .int i/\y = .int j/\C i j/\Q (g i j) H
noncomputable def rI0 (g:Int->Int->V):R2:=λx y H Q=>∃i j,x = .int i/\y = .int j/\Q (g i j) H
noncomputable def rU (g:Int->V):V->Hp->VK->Prop:=λx H Q=>∃i,x = .int i/\Q (g i) H
section
variable {X:Cx}{a b c:Expr}{ta tb tc:TE}{pos:Pos}
theorem binT (ha:PE X a ta)(hb:PE X b tb){pins:List (Addr × Obj)}{s:Shared}{σ:St}{H:Hp}{R:V->V->Hp->Prop}(I:Inv X pins σ H s)
  (h:ta σ H λx H1=>tb σ H1 λy H2=>R x y H2) {Q:Value->Shared->Prop}{f:Value->Value->Sem Value}
  (hf:∀v u s2 x y H2,Inv X pins σ H2 s2->RelV x v->RelV y u->R x y H2->wpAny (model X.prog X.w) X.A (f v u) Q X.xe s2):
  wpAny (model X.prog X.w) X.A (eval a X.env) (λv s₁=>wpAny (model X.prog X.w) X.A (eval b X.env) (λu s₂=>wpAny (model X.prog X.w) X.A (f v u) Q X.xe s₂) X.xe s₁) X.xe s:=by
 refine thn (ha pins s σ H _ I h) λv s1 ⟨x,H1,I1,r1,q1⟩ =>?_;refine thn (hb pins s1 σ H1 _ I1 q1) λu s2 ⟨y,H2,I2,r2,q2⟩ =>?_;exact hf v u s2 x y H2 I2 r1 r2 q2
theorem zjx {op:Operator}{r:R2}(ho:OpR X (binaryOp op) r)(ha:PE X a ta)(hb:PE X b tb):PE X (.BinOp a op b pos) (tOp r ta tb):=by
 intro pins s σ H Q I h;exact wpAny_BinOp (binT ha hb I h λv u s2 x y H2 I2 rx ry q=>ho pins s2 σ H2 x y v u Q I2 rx ry q)
theorem zjw {op:UnaryOp}{r:V->Hp->VK->Prop}(ho:UnR X (unaryOp op) r)(ha:PE X a ta):PE X (.UnaryOp op a pos) (tUn r ta):=by
 intro pins s σ H Q I h;exact UnaryOp_ (thn (ha pins s σ H _ I h) λv s1 ⟨x,H1,I1,r1,q1⟩=>ho pins s1 σ H1 x v Q I1 r1 q1)
theorem opI {f:Value->Value->Sem Value}{C:Int->Int->Prop}{g:Int->Int->Int}
  (rule:∀(i j:Int) (t u:Tok) (s:Shared) (Q:Value->Shared->Prop) (E:Value->Shared->Prop),C i j->Q (.int (g i j) s.toks) { s with toks:=s.toks+1 }->wpAny (model X.prog X.w) X.A (f (.int i t) (.int j u)) Q E s):
  OpR X f (rI C λi j =>.int (g i j)):=by
 intro pins s σ H x y v u Q I rx ry h;obtain⟨i,j,rfl,rfl,hc,q⟩:=h;obtain⟨t,rfl⟩:=rx;obtain⟨t',rfl⟩:=ry;exact rule i j t t' s _ _ hc ⟨.int (g i j),H,I.tok _,⟨_,rfl⟩,q⟩
theorem opI0 {f:Value->Value->Sem Value}{g:Int->Int->Int}
  (rule:∀(i j:Int) (t u:Tok) (s:Shared) (Q:Value->Shared->Prop) (E:Value->Shared->Prop),Q (.int (g i j) s.toks) { s with toks:=s.toks+1 }->wpAny (model X.prog X.w) X.A (f (.int i t) (.int j u)) Q E s):
  OpR X f (rI0 λi j =>.int (g i j)):=by
 intro pins s σ H x y v u Q I rx ry h;obtain⟨i,j,rfl,rfl,q⟩:=h;obtain⟨t,rfl⟩:=rx;obtain⟨t',rfl⟩:=ry;exact rule i j t t' s _ _ ⟨.int (g i j),H,I.tok _,⟨_,rfl⟩,q⟩
theorem opB0 {f:Value->Value->Sem Value}{g:Int->Int->Bool}
  (rule:∀(i j:Int) (t u:Tok) (s:Shared) (Q:Value->Shared->Prop) (E:Value->Shared->Prop),Q (.bool (g i j)) s->wpAny (model X.prog X.w) X.A (f (.int i t) (.int j u)) Q E s):
  OpR X f (rI0 λi j =>.bl (g i j)):=by
 intro pins s σ H x y v u Q I rx ry h;obtain⟨i,j,rfl,rfl,q⟩:=h;obtain⟨t,rfl⟩:=rx;obtain⟨t',rfl⟩:=ry;exact rule i j t t' s _ _ ⟨.bl (g i j),H,I,rfl,q⟩
noncomputable def CPow (i j:Int):Prop:=0<=j/\j<=1000000/\i.natAbs<2 ^ 64
theorem zif:OpR X (binaryOp .Add) (rI0 λi j =>.int (i+j)):=opI0 λ_ _ _ _ _ _ _ q=>add_int q
theorem zi7:OpR X (binaryOp .Sub) (rI0 λi j =>.int (i - j)):=opI0 λ_ _ _ _ _ _ _ q=>sub_int q
theorem zgg:OpR X (binaryOp .Mod) (rI (λ_ j=>j≠0) λi j =>.int (i.fmod j)):=opI λ_ _ _ _ _ _ _ hc q=>mod_int' hc q
theorem zi8:OpR X (binaryOp .Pow) (rI CPow λi j =>.int (i ^ j.toNat)):=opI λ_ _ _ _ _ _ _ hc q=>pow_int_small hc.1 hc.2.1 hc.2.2 q
theorem unI {f:Value->Sem Value}{g:Int->Int}
  (rule:∀(i:Int) (t:Tok) (s:Shared) (Q:Value->Shared->Prop) (E:Value->Shared->Prop),Q (.int (g i) s.toks) { s with toks:=s.toks+1 }->wpAny (model X.prog X.w) X.A (f (.int i t)) Q E s):
  UnR X f (rU λi =>.int (g i)):=by
 intro pins s σ H x v Q I rx h;obtain⟨i,rfl,q⟩:=h;obtain⟨t,rfl⟩:=rx;exact rule i t s _ _ ⟨.int (g i),H,I.tok _,⟨_,rfl⟩,q⟩
theorem zgQ:UnR X (unaryOp .USub) (rU λi =>.int (-i)):=unI λ_ _ _ _ _ q=>neg_int q
end
noncomputable def scal:V->V->Bool
 | .non,.non=>true | .non,.int _=>true | .int _,.non=>true | .non,.bl _=>true | .bl _,.non=>true | .non,.str _=>true | .str _,.non=>true
 | .int _,.int _=>true | .bl _,.bl _=>true | .str _,.str _=>true | .byt _,.byt _=>true
 | .int _,.str _=>true | .str _,.int _=>true | .bl _,.str _=>true | .str _,.bl _=>true
 | _,_=>false
noncomputable def rEq:R2:=λx y H Q=>scal x y=true/\Q (.bl (decide (x=y))) H
noncomputable def rNe:R2:=λx y H Q=>scal x y=true/\Q (.bl (!decide (x=y))) H
theorem zd8 {i j:Int}:decide (V.int i=V.int j)=(i == j):=by
 rw[Bool.eq_iff_iff];simp
theorem zfe {i j:Bool}:decide (V.bl i=V.bl j)=(i == j):=by
 rw[Bool.eq_iff_iff];simp
theorem zd7 {i j:Str}:decide (V.str i=V.str j)=(i == j):=by
 rw[Bool.eq_iff_iff];simp
theorem zd9 {i j:Array UInt8}:decide (V.byt i=V.byt j)=(i.toList == j.toList):=by
 rw[Bool.eq_iff_iff]
 cases i
 cases j
 simp
section
variable {X:Cx}{a b c:Expr}{ta tb tc:TE}{pos:Pos}
theorem z0N {pins:List (Addr × Obj)}{σ:St}{H:Hp}{s:Shared}{Q:VK}{k k':Bool}(I:Inv X pins σ H s)(q:Q (.bl k) H)(e:k=k'):EP X pins σ Q (.bool k') s:=by
 subst e;exact⟨.bl k,H,I,rfl,q⟩
theorem zjG:OpR X (compareOp .Eq) rEq:=by
 intro pins s σ H x y v u Q I rx ry h;obtain⟨hs,q⟩:=h
 cases x with
 | non=>
  cases rx
  cases y with
  | non=>cases ry; exact PySem.EqNone.eq_none_none (z0N I q (by simp))
  | bl j=>cases ry; exact PySem.EqNone.eq_none_bool (z0N I q (by simp))
  | int j=>obtain⟨t',rfl⟩:=ry; exact PySem.EqNone.eq_none_int (z0N I q (by simp))
  | str j=>obtain⟨t',rfl⟩:=ry; exact PySem.EqNone.eq_none_str (z0N I q (by simp))
  | _=>exact absurd (show false=true from hs) Bool.false_ne_true
 | bl i=>
  cases rx
  cases y with
  | non=>cases ry; exact PySem.EqNone.eq_bool_none (z0N I q (by simp))
  | bl j=>cases ry; exact eq_bool (z0N I q zfe)
  | str j=>obtain⟨t',rfl⟩:=ry; exact PySem.EqMixed.eq_bool_str (z0N I q (by simp))
  | _=>exact absurd (show false=true from hs) Bool.false_ne_true
 | int i=>
  obtain⟨t,rfl⟩:=rx
  cases y with
  | non=>cases ry; exact PySem.EqNone.eq_int_none (z0N I q (by simp))
  | int j=>obtain⟨t',rfl⟩:=ry; exact eq_int (z0N I q zd8)
  | str j=>obtain⟨t',rfl⟩:=ry; exact PySem.EqMixed.eq_int_str (z0N I q (by simp))
  | _=>exact absurd (show false=true from hs) Bool.false_ne_true
 | str i=>
  obtain⟨t,rfl⟩:=rx
  cases y with
  | non=>cases ry; exact PySem.EqNone.eq_str_none (z0N I q (by simp))
  | bl j=>cases ry; exact PySem.EqMixed.eq_str_bool (z0N I q (by simp))
  | int j=>obtain⟨t',rfl⟩:=ry; exact PySem.EqMixed.eq_str_int (z0N I q (by simp))
  | str j=>obtain⟨t',rfl⟩:=ry; exact eq_str (z0N I q zd7)
  | _=>exact absurd (show false=true from hs) Bool.false_ne_true
 | byt i=>
  obtain⟨t,rfl⟩:=rx
  cases y with
  | byt j=>obtain⟨t',rfl⟩:=ry; exact PySem.W.eq_bytes (z0N I q zd9)
  | _=>exact absurd (show false=true from hs) Bool.false_ne_true
 | _=>cases y <;> exact absurd (show false=true from hs) Bool.false_ne_true
theorem zjC:OpR X (compareOp .NotEq) rNe:=by
 intro pins s σ H x y v u Q I rx ry h;obtain⟨hs,q⟩:=h
 cases x with
 | non=>
  cases rx
  cases y with
  | non=>cases ry; exact PySem.EqNone.ne_none_none (z0N I q (by simp))
  | bl j=>cases ry; exact PySem.EqNone.ne_none_bool (z0N I q (by simp))
  | int j=>obtain⟨t',rfl⟩:=ry; exact PySem.EqNone.ne_none_int (z0N I q (by simp))
  | str j=>obtain⟨t',rfl⟩:=ry; exact PySem.EqNone.ne_none_str (z0N I q (by simp))
  | _=>exact absurd (show false=true from hs) Bool.false_ne_true
 | bl i=>
  cases rx
  cases y with
  | non=>cases ry; exact PySem.EqNone.ne_bool_none (z0N I q (by simp))
  | bl j=>cases ry; exact ne_bool (z0N I q (congrArg not zfe))
  | str j=>obtain⟨t',rfl⟩:=ry; exact PySem.EqMixed.ne_bool_str (z0N I q (by simp))
  | _=>exact absurd (show false=true from hs) Bool.false_ne_true
 | int i=>
  obtain⟨t,rfl⟩:=rx
  cases y with
  | non=>cases ry; exact PySem.EqNone.ne_int_none (z0N I q (by simp))
  | int j=>obtain⟨t',rfl⟩:=ry; exact ne_int (z0N I q (congrArg not zd8))
  | str j=>obtain⟨t',rfl⟩:=ry; exact PySem.EqMixed.ne_int_str (z0N I q (by simp))
  | _=>exact absurd (show false=true from hs) Bool.false_ne_true
 | str i=>
  obtain⟨t,rfl⟩:=rx
  cases y with
  | non=>cases ry; exact PySem.EqNone.ne_str_none (z0N I q (by simp))
  | bl j=>cases ry; exact PySem.EqMixed.ne_str_bool (z0N I q (by simp))
  | int j=>obtain⟨t',rfl⟩:=ry; exact PySem.EqMixed.ne_str_int (z0N I q (by simp))
  | str j=>obtain⟨t',rfl⟩:=ry; exact ne_str (z0N I q (congrArg not zd7))
  | _=>exact absurd (show false=true from hs) Bool.false_ne_true
 | byt i=>
  obtain⟨t,rfl⟩:=rx
  cases y with
  | byt j=>obtain⟨t',rfl⟩:=ry; exact PySem.W.ne_bytes (z0N I q (congrArg not zd9))
  | _=>exact absurd (show false=true from hs) Bool.false_ne_true
 | _=>cases y <;> exact absurd (show false=true from hs) Bool.false_ne_true
theorem zjD:OpR X (compareOp .Lt) (rI0 λi j =>.bl (decide (i<j))):=opB0 λ_ _ _ _ _ _ _ q=>lt_int q
theorem zjE:OpR X (compareOp .LtE) (rI0 λi j =>.bl (decide (i<=j))):=opB0 λ_ _ _ _ _ _ _ q=>le_int q
theorem zjF:OpR X (compareOp .Gt) (rI0 λi j =>.bl (decide (j<i))):=opB0 λ_ _ _ _ _ _ _ q=>gt_int q
theorem zic:OpR X (compareOp .Is) (λx y H Q=>y = .non/\Q (.bl (decide (x = .non))) H):=by
 intro pins s σ H x y v u Q I rx ry h;obtain⟨rfl,q⟩:=h
 cases ry
 refine is_none_gen (z0N I q ?_)
 cases x <;> first
  | (cases rx; rfl)
  | (obtain⟨t,rfl⟩:=rx; rfl)
theorem z0T (b:Expr){op:CmpOp}(h:op ≠ .In:=by decide)(h2:op ≠ .NotIn:=by decide):behindInMarks op b=false:=by
 have e1:(op == CmpOp.In)=false:=by cases op <;> first | rfl | exact absurd rfl h
 have e2:(op == CmpOp.NotIn)=false:=by cases op <;> first | rfl | exact absurd rfl h2
 cases b <;> simp[behindInMarks,e1,e2]
theorem zg6 {op:CmpOp}{r:R2}(ho:OpR X (compareOp op) r)(ha:PE X a ta)(hb:PE X b tb)(hm:behindInMarks op b=false):PE X (.Compare a [op] [b] pos) (tOp r ta tb):=by
 intro pins s σ H Q I h;exact wpAny_Compare1 (binT ha hb I h λv u s2 x y H2 I2 rx ry q=>ho pins s2 σ H2 x y v u Q I2 rx ry q) hm
noncomputable def zfv (t:TE):TT:=λσ H Q=>t σ H λx H'=>∃k,x = .bl k/\Q k H'
theorem zfU {op:CmpOp}{r:R2}(ho:OpR X (compareOp op) r)(ha:PE X a ta)(hb:PE X b tb)(hm:behindInMarks op b=false):PT X (.Compare a [op] [b] pos) (zfv (tOp r ta tb)):=by
 intro pins s σ H Q I h;refine wpAny_isTrue_Compare1 (thn (ha pins s σ H _ I h) λv s1 ⟨x,H1,I1,r1,q1⟩=>thn (hb pins s1 σ H1 _ I1 q1) λu s2 ⟨y,H2,I2,r2,q2⟩=>
  thn (ho pins s2 σ H2 x y v u _ I2 r1 r2 q2) λc s3 ⟨z,H3,I3,r3,k,e,q3⟩ =>?_) hm
 subst e
 cases r3
 exact wpAny_truthy_bool ⟨H3,I3,q3⟩
theorem z7T:(sizeLine:Nat)<2 ^ 63:=by rw[sizeLine_eq]; decide
theorem zbj:OpR X (binaryOp .Add) (λx y H Q=>∃i j,x = .str i/\y = .str j/\i.length+j.length<=sizeLine/\Q (.str (i++j)) H):=by
 intro pins s σ H x y v u Q I rx ry h;obtain⟨i,j,rfl,rfl,hz,q⟩:=h;obtain⟨t,rfl⟩:=rx;obtain⟨t',rfl⟩:=ry;exact add_str (λt' tk=>⟨.str (i++j),H,I.tok _,⟨_,rfl⟩,q⟩) hz
theorem z6y {x:V}{us:List Value}(r:Vals [x] us):∃u,us=[u]/\RelV x u:=by
 cases r with
 | cons r1 r2=>cases r2; exact⟨_,rfl,r1⟩
theorem zfm {x y:V}{us:List Value}(r:Vals [x,y] us):∃u w',us=[u,w']/\RelV x u/\RelV y w':=by
 cases r with
 | cons r1 r2=>
  cases r2 with
  | cons r3 r4=>cases r4; exact⟨_,_,rfl,r1,r3⟩
theorem zdi (hc:X.calm=true):z1l X (.builtin "max") (λxs H Q=>∃i j,xs=[.int i,.int j]/\Q (.int (if j > i then j else i)) H):=by
 intro pins s σ H xs us Q I r h;obtain⟨i,j,rfl,q⟩:=h;obtain⟨u,w',rfl,⟨t,rfl⟩,⟨t',rfl⟩⟩:=zfm r;refine max_two_ints (I.ok.hd hc) λh' tk k=>⟨_,H,I.kept k,?_,q⟩
 by_cases hj:j > i
 ·rw[if_pos hj,if_pos hj]; exact⟨_,rfl⟩
 ·rw[if_neg hj,if_neg hj]; exact⟨_,rfl⟩
theorem zdh (hc:X.calm=true):z1l X (.builtin "min") (λxs H Q=>∃i j,xs=[.int i,.int j]/\Q (.int (if j<i then j else i)) H):=by
 intro pins s σ H xs us Q I r h;obtain⟨i,j,rfl,q⟩:=h;obtain⟨u,w',rfl,⟨t,rfl⟩,⟨t',rfl⟩⟩:=zfm r;refine min_two_ints (I.ok.hd hc) λh' tk k=>⟨_,H,I.kept k,?_,q⟩
 by_cases hj:j<i
 ·rw[if_pos hj,if_pos hj]; exact⟨_,rfl⟩
 ·rw[if_neg hj,if_neg hj]; exact⟨_,rfl⟩
theorem zdk:z1l X (.type "int") (λxs H Q=>(∃i,xs=[.int i]/\Q (.int i) H)\/∃k,xs=[.bl k]/\Q (.int (if k then 1 else 0)) H):=by
 intro pins s σ H xs us Q I r h
 rcases h with ⟨i,rfl,q⟩ | ⟨k,rfl,q⟩
 ·obtain⟨u,rfl,t,rfl⟩:=z6y r;exact call_int_int ⟨.int i,H,I,⟨_,rfl⟩,q⟩
 ·obtain⟨u,rfl,r1⟩:=z6y r
  cases r1
  exact call_int_bool ⟨.int (if k then 1 else 0),H,I.tok _,⟨_,rfl⟩,q⟩
end
end L2
namespace L2
open PySem PySem.Spec PyProof.Rows
structure ObjM (h:Heap)(x dx C:Addr)(mA:Str->Option Value):Prop where
 obj:h.get? x=some (PySem.W.instObj C dx)
 ns:h.Ns1 dx mA
 ne:dx≠x
theorem zcL {h:Heap}{dx:Addr}{mA:Str->Option Value}(n:h.Ns1 dx mA):∃od,h.get? dx=some od/\∀name,PySem.W.lookIn name od=some (mA name):=by
 obtain⟨o,es,ep,ho,hd,hk,_,hm⟩:=n;refine⟨o,ho,λname =>?_⟩;have e:=hm name;unfold nsFind findBy at e;rw[<- Array.find?_toList] at e;unfold PySem.W.lookIn;rw[hd];dsimp only
 split
 ·rename_i y q
  rw[q] at e;exact congrArg some e
 ·rename_i q
  rw[q] at e;have a:es.toList.any (·.refKey)=false:=by
   rw[List.any_eq_false];intro y hy;obtain⟨z,t,hkey⟩:=hk y (Array.mem_toList_iff.mp hy);simp[DictEntry.refKey,hkey]
  have a':¬ es.toList.any (·.refKey)=true:=by rw[a]; exact Bool.false_ne_true
  rw[if_neg a'];exact congrArg some e
theorem ObjM.look {h:Heap}{x dx C:Addr}{mA:Str->Option Value}(I:ObjM h x dx C mA):∃od,PySem.W.InstAt h x (PySem.W.instObj C dx) C (some od)/\∀name,PySem.W.lookIn name od=some (mA name):=
 let ⟨od,ho,hl⟩:=zcL I.ns
 ⟨od,⟨I.obj,rfl,rfl,ho⟩,hl⟩
section
variable {P:Program}{w:World}{H H':Hp}{h h':Heap}{a C dx:Addr}{fs fs':List (Str × V)}
theorem zgy (hok:HOk P w H h)(e:H a=some (.ins C dx fs)):∃mA,ObjM h a dx C mA/\(∀f,RelO (fs.lookup f) (mA f))/\PySem.Within mA (fs.map (·.1))/\fs.length<=1000/\H dx=some (.own a):=by
 obtain⟨d,z,ne,ob,mA,n,r,q⟩:=(show z1W P w H h a (.ins C dx fs) from hok a _ e)
 exact⟨mA,⟨ob,n,ne⟩,r,q,z,d⟩
end
structure Cls (K:W.Frag)(C:Addr):Prop where
 pg:PySem.W.plainGet K C Str.empty=true
 hd:PySem.W.hasDictIn K C=true
 po:PySem.W.plainOver K C=true
 sa:PySem.W.findIn K (.ref C) "__setattr__"=some (some (.builtin "object.__setattr__"))
theorem Cls.get {K:W.Frag}{C:Addr}(c:Cls K C)(f:Str):PySem.W.plainGet K C f=true:=c.pg
section
variable {X:Cx}{pins:List (Addr × Obj)}{σ:St}{H:Hp}{s:Shared}{A:Around}{E:Value->Shared->Prop}{Q:Value->Shared->Prop}{c:Value}{b:Bool}
inductive TyOf (K:W.Frag) (H:Hp):V->Value->Prop where
 | non:TyOf K H .non (.type "NoneType")
 | bl (x:Bool):TyOf K H (.bl x) (.type "bool")
 | int (i:Int):TyOf K H (.int i) (.type "int")
 | str (x:Str):TyOf K H (.str x) (.type "str")
 | flt (x:UInt64):TyOf K H (.flt x) (.type "float")
 | lst {a:Addr}{xs:List V}(e:H a=some (.lst xs)):TyOf K H (.ref a) (.type "list")
 | frz {a:Addr}{o:Obj}{xs:List V}(e:H a=some (.frz o (.lst xs))):TyOf K H (.ref a) (.type "list")
 | tup {a:Addr}{xs:List V}(e:H a=some (.tup xs)):TyOf K H (.ref a) (.type "tuple")
 | dK {a:Addr}{kvs:List (Key × V)}(e:H a=some (.dK kvs)):TyOf K H (.ref a) (.type "dict")
 | dT {a:Addr}{kvs:List (List Key × V)}(e:H a=some (.dT kvs)):TyOf K H (.ref a) (.type "dict")
 | ins {a C dx:Addr}{fs:List (Str × V)}(e:H a=some (.ins C dx fs)) (cl:Cls K C) (ha:PySem.W.findIn K (.ref C) "__class__"=some (some (.builtin "object.__class__")))
   (hn:PySem.W.specialIn K (.builtin "object.__class__") "__get__"=some (some (.builtin "getset_descriptor.__get__"))) (htk:PySem.W.takesIn K (.builtin "object.__class__")=some true)
   (hm:PySem.W.mroIn K C (.type "object")=some true):TyOf K H (.ref a) (.ref C)
theorem z5i {x:V}{u t:Value}(I:Inv X pins σ H s)(rx:RelV x u)(ty:TyOf X.K H x t)(e:PySem.W.kitOne X.K t c=some b)(h:∀tk,Q (.bool b) { s with toks:=tk }):
  wpAny (model X.prog X.w) A (call (.builtin "isinstance") [u,c]) Q E s:=by
 cases ty with
 | non=>cases (show u=Value.none from rx); exact PySem.W.kia_one PySem.W.kitx_none I.kIn True.intro e (λz=>nomatch z) h
 | bl y=>cases (show u=Value.bool y from rx); exact PySem.W.kia_one PySem.W.kitx_bool I.kIn True.intro e (λz=>nomatch z) h
 | int i=>obtain⟨t,q⟩:=(show ∃t,u=Value.int i t from rx); cases q; exact PySem.W.kia_one PySem.W.kitx_int I.kIn True.intro e (λz=>nomatch z) h
 | str y=>obtain⟨t,q⟩:=(show ∃t,u=Value.str y t from rx); cases q; exact PySem.W.kia_one PySem.W.kitx_str I.kIn True.intro e (λz=>nomatch z) h
 | flt y=>obtain⟨t,q⟩:=(show ∃t,u=Value.float y t from rx); cases q; exact PySem.W.kia_one PySem.W.kitx_float I.kIn True.intro e (λz=>nomatch z) h
 | @lst a xs ea=>
  cases (show u=Value.ref a from rx)
  obtain⟨_,_,n,_,h1⟩:=(show z1W X.prog X.w H s.heap a (.lst xs) from I.hok a _ ea)
  exact PySem.W.kia_one PySem.W.kitx_list I.kIn ⟨_,h1,rfl⟩ e (λz=>nomatch z) h
 | @frz a ob xs ea=>
  cases (show u=Value.ref a from rx)
  obtain⟨_,_,_,n,_,h1⟩:=(show z1W X.prog X.w H s.heap a (.frz ob (.lst xs)) from I.hok a _ ea)
  exact PySem.W.kia_one PySem.W.kitx_list I.kIn ⟨_,h1,rfl⟩ e (λz=>nomatch z) h
 | @tup a xs ea=>
  cases (show u=Value.ref a from rx)
  obtain⟨_,_,_,p⟩:=(show z1W X.prog X.w H s.heap a (.tup xs) from I.hok a _ ea)
  obtain⟨o,h1,h2,_⟩:=p;exact PySem.W.kia_one PySem.W.kitx_tuple I.kIn ⟨o,h1,h2⟩ e (λz=>nomatch z) h
 | @dK a kvs ea=>
  cases (show u=Value.ref a from rx)
  obtain⟨_,_,vs,_,p⟩:=(show z1W X.prog X.w H s.heap a (.dK kvs) from I.hok a _ ea)
  obtain⟨o,es,ep,h1,h2,_⟩:=p;exact PySem.W.kia_one PySem.W.kitx_dict I.kIn ⟨o,h1,h2.1⟩ e (λz=>nomatch z) h
 | @dT a kvs ea=>
  cases (show u=Value.ref a from rx)
  obtain⟨_,_,xs,_,o,es,ep,h1,h2,_⟩:=(show z1W X.prog X.w H s.heap a (.dT kvs) from I.hok a _ ea)
  exact PySem.W.kia_one PySem.W.kitx_dict I.kIn ⟨o,h1,h2.1⟩ e (λz=>nomatch z) h
 | @ins a C dx fs ea cl ha hn htk hm=>
  cases (show u=Value.ref a from rx)
  obtain⟨mA,O,_⟩:=zgy I.hok ea;obtain⟨od,J,_⟩:=O.look;exact PySem.W.kia_one (PySem.W.kitx_own (cl.get _) cl.hd ha hn htk hm) I.kIn J e (λz=>nomatch z) h
end
end L2
namespace L2
open PySem PySem.Spec PyProof.Rows
structure Room (k:Nat)(A:Around):Prop where
 hd:A.handled=none
 dp:A.depth+3*k+5<recursionLimit
 un:A.units+16*k+200<cLine
theorem Room.mono {j k:Nat}{A:Around}(r:Room k A)(h:j<=k):Room j A:=⟨r.hd,by have:=r.dp; omega,by have:=r.un; omega⟩
theorem Room.deeper {k:Nat}{A:Around}(r:Room (k+1) A)(env:Env):Room k (A.deeper env):=
 ⟨r.hd,by have:=r.dp; show A.depth+1+3*k+5<_; omega,by have:=r.un; show A.units+3+16*k+200<_; omega⟩
theorem Room.depth {k:Nat}{A:Around}(r:Room k A):A.depth<recursionLimit:=by have:=r.dp; omega
theorem Room.units {k:Nat}{A:Around}(r:Room k A):A.units+64<cLine:=by have:=r.un; omega
noncomputable def tNil:TA:=λ_ H Q=>Q [] H
noncomputable def zh0 (ta:TE)(tr:TA):TA:=λσ H Q=>ta σ H λx H1=>tr σ H1 λxs H2=>Q (x::xs) H2
section
variable {X:Cx}{e:Expr}{es:List Expr}{te:TE}{t:TA}{pos:Pos}
theorem zi2:PA X [] tNil:=λ_ _ _ _ H Q I h=>Calls.spliced_nil ⟨[],H,I,.nil,h⟩
theorem zg9 (ha:PE X e te)(hr:PA X es t)(hs:starEach (e::es) X.env=(false,eval e X.env)::starEach es X.env:=by rfl):PA X (e::es) (zh0 te t):=by
 intro pos pins s σ H Q I h;rw[hs];show wpAny _ _ (spliced ((false,eval e X.env)::backTo pos (starEach es X.env))) _ _ s;refine Calls.spliced_cons (thn (ha pins s σ H _ I h) λu s1 ⟨x,H1,I1,r1,q1⟩ =>?_);exact thn (hr pos pins s1 σ H1 _ I1 q1) λus s2 ⟨xs,H2,I2,r2,q2⟩=>⟨x::xs,H2,I2,.cons r1 r2,q2⟩
noncomputable def tTup (t:TA):TE:=λσ H Q=>t σ H λxs H1=>xs.length<=sizeLine/\∀p,H1 p=none->Q (.ref p) (upd H1 p (.tup xs))
noncomputable def tLst (t:TA):TE:=λσ H Q=>t σ H λxs H1=>xs.length<=sizeLine/\∀p,H1 p=none->Q (.ref p) (upd H1 p (.lst xs))
theorem zhU {x1}(h:PA X es t):PE X (.Tuple es x1 pos) (tTup t):=by
 intro pins s σ H Q I hq;refine wpAny_Tuple_spliced (thn (h pos pins s σ H _ I hq) λus s1 ⟨xs,H1,I1,r,z,q⟩=>⟨by rw[<- r.length]; exact z,?_⟩);have hf:H1 s1.heap.objs.size=none:=I1.hok.fresh (Nat.le_refl _);refine⟨.ref s1.heap.objs.size,upd H1 s1.heap.objs.size (.tup xs),I1.laid (t':=s1.toks) (λb u e=>Heap.get?_push_of_some _ e) (Nat.le_refl _) ?_,rfl,q _ hf⟩;exact⟨z,us,r,⟨_,Heap.get?_push_size _ rfl,rfl,_,rfl⟩⟩
theorem zhX (h:PA X es t):PE X (.List es pos) (tLst t):=by
 intro pins s σ H Q I hq;refine wpAny_List_spliced (thn (h pos pins s σ H _ I hq) λus s1 ⟨xs,H1,I1,r,z,q⟩=>⟨by rw[<- r.length]; exact z,?_⟩);have hf:H1 s1.heap.objs.size=none:=I1.hok.fresh (Nat.le_refl _);refine⟨.ref s1.heap.objs.size,upd H1 s1.heap.objs.size (.lst xs),I1.laid (t':=s1.toks) (λb u e=>Heap.get?_push_of_some _ e) (Nat.le_refl _) ?_,rfl,q _ hf⟩;exact⟨z,us,0,r,Heap.get?_push_size _ rfl⟩
end
noncomputable abbrev Sp:=List V->Hp->VK->XK->Prop
noncomputable abbrev CXT:=List Env->Hp->Shared->XK->Value->Shared->Prop
structure Env0 (P:Program)(w:World)(K:W.Frag)(mg:Str->Option Value)(base:Heap)(A:Around)(outer:List Env)(s:Shared)(H:Hp):Prop where
 frames:A.frames=some outer
 mod:Mod K mg base
 bs:∀b o,base.get? b=some o->s.heap.get? b=some o/\H b=none
 bsz:base.objs.size<=s.heap.objs.size
 funs:s.heap.FunFrames base outer
 frf:∀b∈frs outer,H b=none
 hok:HOk P w H s.heap
 bare:AllBare s.gens
noncomputable def CE (outer:List Env)(P:Program)(w:World)(H:Hp)(s:Shared)(Q:VK)(u:Value)(s':Shared):Prop:=
 ∃v H',s'.os=s.os/\AllBare s'.gens/\Un (frs outer) [] H H' s.heap s'.heap/\HOk P w H' s'.heap/\RelV v u/\Q v H'
noncomputable def CR (CX:CXT)(outer:List Env)(P:Program)(w:World)(H:Hp)(s:Shared)(Q:VK)(E:XK)(r:Result)(s':Shared):Prop:=
 match r with
 | .ok (.ret u)=>CE outer P w H s Q u s'
 | .ok _=>False
 | .error e=>CX outer H s E e s'
structure FnOk (P:Program)(w:World)(K:W.Frag)(mg:Str->Option Value)(base:Heap)(CX:CXT)(k:Nat)(f:Addr)(fd:FuncData)(ps:List Str)(sp:Sp):Prop where
 len:∀vs H Q E,sp vs H Q E->vs.length=ps.length
 run:∀(A:Around) (outer:List Env) (s:Shared) (H:Hp) (args:Args) (us:List Value) (vs:List V) (Q:VK) (E:XK),Room k A->Env0 P w K mg base A outer s H->BindsTo s fd args (ps.zip us)->Vals vs us->sp vs H Q E->
  codeAny (model P w) A (.call (.ref f) args) (CR CX outer P w H s Q E) s
theorem FnOk.imp {P:Program}{w:World}{K:W.Frag}{mg:Str->Option Value}{base:Heap}{CX:CXT}{k:Nat}{f:Addr}{fd:FuncData}{ps:List Str}{sp sp':Sp}(F:FnOk P w K mg base CX k f fd ps sp)
  (h:∀vs H Q E,sp' vs H Q E->sp vs H Q E):FnOk P w K mg base CX k f fd ps sp':=
 ⟨λvs H Q E q=>F.len vs H Q E (h _ _ _ _ q),λA outer s H args us vs Q E hr he hb hv hs=>F.run A outer s H args us vs Q E hr he hb hv (h _ _ _ _ hs)⟩
section
variable {X:Cx}{pins:List (Addr × Obj)}{σ:St}{H:Hp}{s s':Shared}
theorem Inv.env0 (I:Inv X pins σ H s):Env0 X.prog X.w X.K X.mg X.base X.A X.stack s H:=
 ⟨I.ok.frames,I.ok.mod,I.bs,Nat.le_trans I.ok.bsz I.sz,I.stack,I.stkFree,I.hok,I.bare⟩
theorem Inv.after {Q:VK}{u:Value}(I:Inv X pins σ H s)(h:CE X.stack X.prog X.w H s Q u s'):EP X pins σ Q u s':=by
 obtain⟨v,H',os,bare,un,hok,r,q⟩:=h;obtain⟨hh,g,d,t,os'⟩:=s';obtain rfl:os'=s.os:=os;exact⟨v,H',I.call (h':=hh) (g':=g) (d':=d) (t':=t) (ch:=[]) un hok bare (λb z=>absurd z (by simp)),r,q⟩
end
noncomputable def zfw (sp:Sp)(dvs:List V)(E:XK)(t:TA):TE:=λσ H Q=>t σ H λvs H1=>sp (vs++dvs) H1 Q E
noncomputable def z7L (K:W.Frag)(fd:FuncData)(ps:List Str)(ds:List Value):Prop:=
 ∀(s:Shared) (us:List Value),K.In s.heap->(us++ds).length=ps.length->BindsTo s fd ⟨us,[]⟩ (ps.zip (us++ds))
theorem z7L.all {K:W.Frag}{fd:FuncData}{ps:List Str}(h:∀us:List Value,us.length=ps.length->bindArgs fd ⟨us,[]⟩=pure (ps.zip us)):z7L K fd ps []:=λs us _ hl=>by
 rw[List.append_nil] at hl ⊢;exact .of_eq (h us hl)
noncomputable def z6f (CX:CXT)(X:Cx)(E:XK):Prop:=∀(pins:List (Addr × Obj)) (σ:St) (H:Hp) (s:Shared) (e:Value) (s':Shared),Inv X pins σ H s->CX X.stack H s E e s'->X.xe e s'
section
variable {X:Cx}{CX:CXT}{k:Nat}{f C:Addr}{fd:FuncData}{ps:List Str}{sp:Sp}{dvs:List V}{ds:List Value}{E:XK}{x m:Str}{p pos apos:Pos}{e o:Expr}{es:List Expr}{ta:TE}{t:TA}
theorem zeM {pins:List (Addr × Obj)}{σ:St}{H:Hp}{s:Shared}{Q:VK}{us:List Value}{vs:List V}(F:FnOk X.prog X.w X.K X.mg X.base CX k f fd ps sp)(hr:Room k X.A)(hb:z7L X.K fd ps ds)(hd:Vals dvs ds)(hx:z6f CX X E)
  (I:Inv X pins σ H s) (r:Vals vs us) (h:sp (vs++dvs) H Q E):wpAny (model X.prog X.w) X.A (call (.ref f) us) (EP X pins σ Q) X.xe s:=by
 have r2:Vals (vs++dvs) (us++ds):=r.append hd;have hl:(us++ds).length=ps.length:=by rw[<- r2.length]; exact F.len _ _ _ _ h
 refine wpAny_call (codeAny_mono (F.run X.A X.stack s H ⟨us,[]⟩ (us++ds) (vs++dvs) Q E hr I.env0 (hb s us I.kIn hl) r2 h) λr s' hq =>?_)
 cases r with
 | error e=>exact hx pins σ H s e s' I hq
 | ok fl=>
  cases fl with
  | ret u=>exact I.after hq
  | next=>exact False.elim hq
  | brk=>exact False.elim hq
  | cont=>exact False.elim hq
theorem zg7 (F:FnOk X.prog X.w X.K X.mg X.base CX k f fd ps sp)(hr:Room k X.A)(hg:Gl X x)(hm:X.mg x=some (.ref f))(hk:PySem.W.keepIn X.K (.ref f)=true)(hb:z7L X.K fd ps ds)(hd:Vals dvs ds)(hx:z6f CX X E)
  (ha:PA X (e::es) t) (hdb:(x == ("__debug__":Str))=false:=by decide) (he:starEach (e::es) X.env=(false,eval e X.env)::starEach es X.env:=by rfl) (hpl:(backTo pos (starEach es X.env)).any (·.1)=false:=by rfl):
  PE X (.Call (.Name x p) (e::es) [] pos) (zfw sp dvs E t):=by
 intro pins s σ H Q I h;refine wpAny_Call_Name_kw (zcP I hg hm ?_ hdb);refine PySem.W.callWith_K (h₀:=X.base) I.ok.mod.kin hk (thn (ha pos pins s σ H _ I h) λus s1 ⟨vs,H1,I1,r,q⟩=>⟨I1.kIn,?_⟩) he hpl;exact zeM F hr hb hd hx I1 r q
end
structure z0p (N P:List Str)(sc:Scope):Prop where
 kind:sc.kind = .function
 co:sc.isCoroutine=false
 gen:sc.isGenerator=false
 nd:N.Nodup
 pre:N.take P.length=P
 par:∀x∈P,sc.names.lookup x=some .local\/sc.names.lookup x=some .cell
 nofree:∀y∈sc.names,y.2 ≠ .free
theorem z9E {kindOf:Str->Option NameKind}{x:Str}:∀{binds:List (Str × Value)}{m:Str->Option Value},(∀v,(x,v) ∉ binds)->bindL kindOf binds m x=m x
 | [],_,_=>rfl
 | (n,v)::r,m,h=>by
  unfold bindL;rw[z9E λw hw=>h w (List.mem_cons_of_mem _ hw)]
  split
  ·have:x≠n:=by rintro rfl; exact h v List.mem_cons_self
   simp[this]
  ·rfl
theorem z9G {kindOf:Str->Option NameKind}{x:Str}:∀{binds:List (Str × Value)}{m:Str->Option Value},(∀v,(x,v) ∉ binds)->bindC kindOf binds m x=m x
 | [],_,_=>rfl
 | (n,v)::r,m,h=>by
  unfold bindC;rw[z9G λw hw=>h w (List.mem_cons_of_mem _ hw)]
  split
  ·rfl
  ·have:x≠n:=by rintro rfl; exact h v List.mem_cons_self
   simp[this]
theorem z9F {kindOf:Str->Option NameKind}{x:Str}{v:Value}:∀{P:List Str}{vs:List Value}{i:Nat}{m:Str->Option Value},P.Nodup->P[i]? = some x->vs[i]? = some v->kindOf x=some .local->
  bindL kindOf (P.zip vs) m x=some v
 | [],_,_,_,_,h,_,_=>by simp at h
 | _::_,[],_,_,_,_,h,_=>by simp at h
 | p::P,w::vs,0,m,nd,h1,h2,hk=>by
  simp at h1 h2; subst h1; subst h2;show bindL kindOf ((p,w)::P.zip vs) m p=_;unfold bindL;rw[z9E λv hv=>(List.nodup_cons.mp nd).1 (List.of_mem_zip hv).1,if_pos hk];simp
 | p::P,w::vs,i+1,m,nd,h1,h2,hk=>by
  show bindL kindOf ((p,w)::P.zip vs) m x=_;unfold bindL;exact z9F (i:=i) (List.nodup_cons.mp nd).2 (by simpa using h1) (by simpa using h2) hk
theorem z9H {kindOf:Str->Option NameKind}{x:Str}{v:Value}:∀{P:List Str}{vs:List Value}{i:Nat}{m:Str->Option Value},P.Nodup->P[i]? = some x->vs[i]? = some v->kindOf x≠some .local->
  bindC kindOf (P.zip vs) m x=some v
 | [],_,_,_,_,h,_,_=>by simp at h
 | _::_,[],_,_,_,_,h,_=>by simp at h
 | p::P,w::vs,0,m,nd,h1,h2,hk=>by
  simp at h1 h2; subst h1; subst h2;show bindC kindOf ((p,w)::P.zip vs) m p=_;unfold bindC;rw[z9G λv hv=>(List.nodup_cons.mp nd).1 (List.of_mem_zip hv).1,if_neg hk];simp
 | p::P,w::vs,i+1,m,nd,h1,h2,hk=>by
  show bindC kindOf ((p,w)::P.zip vs) m x=_;unfold bindC;exact z9H (i:=i) (List.nodup_cons.mp nd).2 (by simpa using h1) (by simpa using h2) hk
noncomputable def z1Z (N:List Str)(vs:List V):St:=vs.map some++List.replicate (N.length - vs.length) none
noncomputable def cxOf (CX:CXT)(P:Program)(w:World)(K:W.Frag)(mg:Str->Option Value)(base:Heap)(N:List Str)(qual:Str)(scope:Scope)(f:Addr)(cd:Value)(A:Around)(outer:List Env)(s:Shared)(H:Hp)(E:XK):Cx where
 prog:=P
 w:=w
 K:=K
 mg:=mg
 base:=base
 A:=A.deeper (envOfC qual scope s.heap.objs.size f cd)
 N:=N
 s₀:=s
 H₀:=H
 env:=envOfC qual scope s.heap.objs.size f cd
 outer:=outer
 stack:=envOfC qual scope s.heap.objs.size f cd::outer
 ex:=[]
 calm:=true
 fn:=λ_=>true
 pn:=[]
 xe:=λe s'=>wpAny (model P w) (A.deeper (envOfC qual scope s.heap.objs.size f cd)) (leaving (envOfC qual scope s.heap.objs.size f cd) e) (λ_ s''=>CX outer H s E e s'') (λe' s''=>CX outer H s E e' s'') s'
theorem zb1 {sc:Scope}{n:Nat}{x:Str}(h:sc.names.lookup x=some .cell):∃c,(cellsFrom n sc.names []).lookup x=some c:=by
 have q:=PySem.W.cellsFrom_some sc.names n [] (.inl h);exact Option.isSome_iff_exists.mp q
theorem zcR {CX:CXT}{P:Program}{w:World}{K:W.Frag}{mg:Str->Option Value}{base:Heap}{N ps:List Str}{qual:Str}{scope:Scope}{f:Addr}{cd:Value}{A:Around}{outer:List Env}{s s1:Shared}{H:Hp}{E:XK}{us:List Value}{vs:List V}
  (S:z0p N ps scope) (hd:A.handled=none) (e0:Env0 P w K mg base A outer s H) (hl:vs.length=ps.length) (r:Vals vs us)
  (x:InCallC s s.heap.objs.size (bindL (envOfC qual scope s.heap.objs.size f cd).kindOf (ps.zip us) λ_=>none) (cellsFrom (s.heap.objs.size+1) scope.names []) (bindC (envOfC qual scope s.heap.objs.size f cd).kindOf (ps.zip us) λ_=>none) s1):
  Inv (cxOf CX P w K mg base N qual scope f cd A outer s H E) [] (z1Z N vs) H s1:=by
 have hpl:ps.length<=N.length:=by have:=congrArg List.length S.pre; rw[List.length_take] at this; omega
 obtain⟨h1,tk,rfl,hk⟩:=x.done;have noA:∀b:Addr,b ∉ (cxOf CX P w K mg base N qual scope f cd A outer s H E).ex:=λb z=>absurd (show b∈([]:List Addr) from z) (by simp);refine⟨⟨e0.mod,S.kind,rfl,rfl,Nat.le_refl _,λy z c h1 h2 =>?_,λy hy =>?_,λy c _ h =>?_,λ_=>hd,Around.frames_deeper e0.frames,.inr ⟨rfl,rfl⟩,λb z=>absurd z (noA b),e0.bs,e0.bsz,λb _ _=>noA b,λb z=>absurd z (noA b),e0.funs,e0.frf⟩,
  rfl,e0.bare,Un.kept hk,⟨_,x.toInCall.ns,λi y v h1 h2 h3 =>?_⟩,λy c h=>⟨_,x.cell y c h⟩,e0.hok.fresh (Nat.le_refl _),λy c h =>?_,λp hp=>absurd (show p∈([]:List (Addr × Obj)) from hp) (by simp),e0.hok.kept hk,?_⟩
 ·exact name_of_addr x.apart (PySem.mem_of_lookup h1) (PySem.mem_of_lookup h2)
 ·have hy:scope.names.lookup y=some .cell\/scope.names.lookup y=some .free:=hy
  rcases hy with hy | hy
  ·exact zb1 hy
  ·exact absurd rfl (S.nofree _ (PySem.mem_of_lookup hy))
 ·exact Nat.le_of_lt (x.above y c (PySem.mem_of_lookup h))
 ·have hi:i<vs.length:=by
   unfold z1Z at h2
   by_cases hi:i<vs.length
   ·exact hi
   ·rw[List.getElem?_append_right (by simpa using hi)] at h2;rw[List.getElem?_replicate] at h2
    split at h2 <;> cases h2
  have ha:vs[i]? = some v:=by
   unfold z1Z at h2;rw[List.getElem?_append_left (by simpa using hi),List.getElem?_map] at h2
   cases e:vs[i]? with
   | none=>rw[e] at h2; cases h2
   | some a=>rw[e] at h2; cases h2; rfl
  obtain⟨u,hu,rv⟩:=r.get ha;have hp:ps[i]? = some y:=by
   rw[<- S.pre,List.getElem?_take_of_lt (by omega)]; exact h1
  have ndP:ps.Nodup:=by rw[<- S.pre]; exact S.nd.sublist (List.take_sublist _ _)
  refine⟨u,rv,?_⟩
  rcases S.par y (List.mem_of_getElem? hp) with k | k
  ·exact .inl ⟨k,z9F ndP hp hu k⟩
  ·obtain⟨c,e⟩:=zb1 (n:=s.heap.objs.size+1) k;refine .inr ⟨.inl k,c,e,?_⟩;have q:=x.cell y c e;rw[z9H ndP hp hu (by show scope.names.lookup y≠_; rw[k]; decide)] at q;exact q
 ·exact e0.hok.fresh (Nat.le_of_lt (x.above y c (PySem.mem_of_lookup h)))
 ·unfold z1Z;show _=N.length;rw[List.length_append,List.length_map,List.length_replicate];omega
theorem zjW {CX:CXT}{P:Program}{w:World}{K:W.Frag}{mg:Str->Option Value}{base:Heap}{k:Nat}{f:Addr}{name qual:Str}{params:Arguments}{body:List Stmt}{scope:Scope}{dV kV doc pm cdv ct oc:Value}{an od:Option Addr}
  {osl:Array (Option Value)}{N ps:List Str}{sp:Sp}(lk:K.lookup f=some ⟨oc,od,.func (PySem.W.fnOf name qual params body scope dV kV doc pm an cdv ct),osl⟩) (hcd:PySem.W.codeIn K cdv qual=true) (S:z0p N ps scope)
  (len:∀vs H Q E,sp vs H Q E->vs.length=ps.length)
  (hbody:∀(A:Around) (outer:List Env) (s:Shared) (H:Hp) (vs:List V) (Q:VK) (E:XK),Room k (A.deeper (envOfC qual scope s.heap.objs.size f cdv))->sp vs H Q E->
   ∃t,PSs (cxOf CX P w K mg base N qual scope f cdv A outer s H E) body t/\t { nx:=λ_ H'=>Q .non H',rt:=Q } (z1Z N vs) H):
  FnOk P w K mg base CX (k+1) f (PySem.W.fnOf name qual params body scope dV kV doc pm an cdv ct) ps sp:=by
 refine⟨len,λA outer s H args us vs Q E hr e0 hb r hsp =>?_⟩;have hl:=len _ _ _ _ hsp;have KX:K.In s.heap:=e0.mod.kin.keeps λb o e=>(e0.bs b o e).1;have lim:s.heap.NoLimit:=e0.mod.nolimit.keeps λb o e=>(e0.bs b o e).1;have hkind:∀y∈ps.zip us,scope.names.lookup y.1=some .local\/(scope.names.lookup y.1=some .cell/\((cellsFrom (s.heap.objs.size+1) scope.names []).lookup y.1).isSome=true):=λ⟨n,v⟩ hy=>by
  rcases S.par n (List.of_mem_zip hy).1 with q | q
  ·exact .inl q
  ·exact .inr ⟨q,PySem.W.cellsFrom_some _ _ _ (.inl q)⟩
 refine codeAny_call_function hr.depth (KX _ _ lk) rfl S.co S.gen rfl (PySem.W.codeRec_of KX hcd) (hb _ _ _ _ ?_);refine wpAny_newFunctionEnv_cells S.kind hkind λenv he s1 x =>?_;subst he;refine⟨lim.keeps x.toInCall.keep,codeAny_func ?_⟩;obtain⟨t,ht,hq⟩:=hbody A outer s H vs Q E (hr.deeper _) hsp;have I:Inv (cxOf CX P w K mg base N qual scope f cdv A outer s H E) [] (z1Z N vs) H s1:=zcR S hr.hd e0 hl r x;refine wpAny_mono (ht [] s1 (z1Z N vs) H _ I hq) (λfl s' hs =>?_) λe s' hs=>hs;have fin:∀{σ':St}{H':Hp}{v:V}{u:Value},Inv (cxOf CX P w K mg base N qual scope f cdv A outer s H E) [] σ' H' s'->RelV v u->Q v H'->CE outer P w H s Q u s':=
  λ{σ' H' v u} J rv q=>⟨v,H',J.os,J.bare,J.base,J.hok,rv,q⟩
 cases fl with
 | ret u=>
  obtain⟨v,σ',H',J,rv,q⟩:=hs;exact fin J rv q
 | next=>
  obtain⟨σ',H',J,q⟩:=hs;exact fin (v:=V.non) (u:=Value.none) J rfl q
 | brk=>
  obtain⟨_,_,_,q⟩:=hs;exact False.elim q
 | cont=>
  obtain⟨_,_,_,q⟩:=hs;exact False.elim q
end L2
namespace L2
open PySem PySem.Spec PyProof.Rows
section
variable {X:Cx}{x:Str}{p pos:Pos}{e:Expr}{es:List Expr}{t:TA}{id T:String}{r:List V->Hp->VK->Prop}
noncomputable def tCB (r:List V->Hp->VK->Prop)(t:TA):TE:=λσ H Q=>t σ H λvs H1=>r vs H1 Q
theorem zdY (hc:z1l X (.builtin id) r)(hg:Gl X x)(hm:X.mg x=none)(hv:bootBuiltins x=some (.builtin id))(ha:PA X (e::es) t)(hn:x≠"__name__":=by decide)(hdb:(x == ("__debug__":Str))=false:=by decide)
  (he:starEach (e::es) X.env=(false,eval e X.env)::starEach es X.env:=by rfl) (hpl:(backTo pos (starEach es X.env)).any (·.1)=false:=by rfl):PE X (.Call (.Name x p) (e::es) [] pos) (tCB r t):=by
 intro pins s σ H Q I h;refine wpAny_Call_Name_kw (z9g I hg hm hv ?_ hn hdb);exact PyProof.Rows.callWith_builtin1 (thn (ha pos pins s σ H _ I h) λus s1 ⟨vs,H1,I1,r1,q1⟩=>hc pins s1 σ H1 vs us Q I1 r1 q1) he hpl
theorem zcs (hc:z1l X (.type T) r)(hg:Gl X x)(hm:X.mg x=none)(hv:bootBuiltins x=some (.type T))(ha:PA X (e::es) t)(hn:x≠"__name__":=by decide)(hdb:(x == ("__debug__":Str))=false:=by decide)
  (he:starEach (e::es) X.env=(false,eval e X.env)::starEach es X.env:=by rfl) (hpl:(backTo pos (starEach es X.env)).any (·.1)=false:=by rfl):PE X (.Call (.Name x p) (e::es) [] pos) (tCB r t):=by
 intro pins s σ H Q I h;refine wpAny_Call_Name_kw (z9g I hg hm hv ?_ hn hdb);exact PyProof.Rows.callWith_type1 (thn (ha pos pins s σ H _ I h) λus s1 ⟨vs,H1,I1,r1,q1⟩=>hc pins s1 σ H1 vs us Q I1 r1 q1) he hpl
end
end L2
namespace HT
open PySem PyProof.Rows
noncomputable def z0r:List Int->List Int->Bool
 | [],[]=>false
 | [],_::_=>true
 | _::_,[]=>false
 | x::xs,y::ys=>if x=y then z0r xs ys else decide (x<y)
theorem z1o (x y:Int)(xs ys:List Int):z0r (x::xs) (y::ys)=if x=y then z0r xs ys else decide (x<y):=rfl
theorem z2t:z0r [] []=false:=rfl
theorem z36 (y:Int)(ys:List Int):z0r [] (y::ys)=true:=rfl
theorem z37 (x:Int)(xs:List Int):z0r (x::xs) []=false:=rfl
theorem z8A (A:Around)(s:Shared)(a:Int)(t:Tok)(c:Int)(u:Tok):∃e,SeqAt.EqAt A s (.int a t) (.int c u) e/\(e=true↔a=c):=
 ⟨(a == c),SeqAt.EqAt.int_int a t c u,by simp⟩
theorem zdG (A:Around)(s:Shared)(a:Int)(t:Tok)(c:Int)(u:Tok)(prog:Program)(w:World)(E:Value->Shared->Prop)(Q:Value->Shared->Prop)(h:Q (.bool (decide (a<c))) s):
  wpAny (model prog w) A (richCompare .Lt (.int a t) (.int c u)) Q E s:=
 (PyProof.Rows.lt_int h:wpAny (model prog w) A (compareOp .Lt (.int a t) (.int c u)) Q E s)
section
open PySem.SeqAt
open PySem.AutoSeq1 (wpAny_loadPart')
open PySem.MeetsSeq PySem.MeetsSeq2 PySem.MeetsSeq3
theorem z86 (l b:Addr)(z06 items2:Array Value)(n n2:Nat)(dd dd2:Option Addr)(sl sl2:Array (Option Value))(ns ms:List Int)(hi:IntsAre z06.toList ns)(hj:IntsAre items2.toList ms):
  Meets (Builtin.«tuple.__lt__» ⟨[.ref l,.ref b],[]⟩)
   (λ_ R s=>s.heap.get? l=some { cls :=.type "tuple",dict:=dd,data :=.seq z06 n,slots:=sl }/\s.heap.get? b=some { cls :=.type "tuple",dict:=dd2,data :=.seq items2 n2,slots:=sl2 }/\
    R (.ok (.ret (.bool (z0r ns ms)))) s):=
 .of_wp λprog w A R s h=>by
  obtain⟨hp,g,d,tk,os⟩:=s; obtain⟨hl,hb,h⟩:=h;have f2:=AutoSeq1.sub_tuple_tuple;have z1:z06.size=ns.length:=by rw[<- hi.length]; simp
  have z2:items2.size=ms.length:=by rw[<- hj.length]; simp
  wp_walk using wpAny_loadPart' hl,wpAny_loadPart' hb,wpAny_forIn_list _ (λrest b s'=>b.1=none/\s'=⟨hp,g,d,tk,os⟩/\∃(vs ws:List Value) (ns' ms':List Int),rest=vs.zip ws/\
   IntsAre vs ns'/\IntsAre ws ms'/\ns'.length+items2.size=ms'.length+z06.size/\R (.ok (.ret (.bool (z0r ns' ms')))) ⟨hp,g,d,tk,os⟩) _
  case turn=>
   rintro⟨y,x⟩ rest b s' ⟨hb',rfl,vs,ws,ns',ms',hz,hvi,hwi,hlen,hR⟩
   cases hvi with
   | nil=>rw[List.zip_nil_left] at hz; cases hz
   | cons a t hvi'=>
    cases hwi with
    | nil=>rw[List.zip_nil_right] at hz; cases hz
    | cons c u hwi'=>
     rw[List.zip_cons_cons] at hz
     injection hz with hyx hrest
     injection hyx with hy hx
     subst hy hx;rw[z1o] at hR;simp only[List.length_cons] at hlen;obtain⟨e,he,hiff⟩:=z8A A.in1 ⟨hp,g,d,tk,os⟩ a t c u;refine wpAny_bind (he prog w _ _ ?_)
     cases e with
     | true=>
      rw[if_pos (hiff.mp rfl)] at hR
      wp_walk
      exact⟨rfl,rfl,_,_,_,_,hrest,hvi',hwi',by omega,hR⟩
     | false=>
      rw[if_neg (λq=>absurd (hiff.mpr q) Bool.false_ne_true)] at hR;have hri:=zdG A.in1 ⟨hp,g,d,tk,os⟩ a t c u prog w
      wp_walk using hri
      exact⟨_,rfl,by simpa using hR⟩
  case fin=>
   rintro⟨b1,b2⟩ s' ⟨hb',rfl,vs,ws,ns',ms',hz,hvi,hwi,hlen,hR⟩;simp only at hb';subst hb';have hv:z0r ns' ms'=decide (z06.size<items2.size):=by
    cases hvi with
    | nil=>
     cases hwi with
     | nil=>
      simp only[List.length_nil] at hlen;rw[z2t];exact(decide_eq_false (by omega)).symm
     | cons c u hw=>
      simp only[List.length_nil,List.length_cons] at hlen;rw[z36];exact(decide_eq_true (by omega)).symm
    | cons a t hv=>
     cases hwi with
     | nil=>
      simp only[List.length_nil,List.length_cons] at hlen;rw[z37];exact(decide_eq_false (by omega)).symm
     | cons c u hw=>
      rw[List.zip_cons_cons] at hz
      cases hz
   rw[hv] at hR
   wp_walk
   exact⟨_,rfl,by simpa[Builtin.Tuple.tupleCompareSizes] using hR⟩
  case h=>
   exact⟨rfl,rfl,z06.toList,items2.toList,ns,ms,rfl,hi,hj,by omega,h⟩
end
section
variable {prog:Program}{w:World}{A:Around}{E:Value->Shared->Prop}{s:Shared}
theorem zbq {l b:Addr}{z06 items2:Array Value}{ns ms:List Int}{Q:Value->Shared->Prop}(hl:IsTup s.heap l z06)(hb:IsTup s.heap b items2)(hi:IntsAre z06.toList ns)(hj:IntsAre items2.toList ms)
  (hu:A.units<cLine) (h:Q (.bool (z0r ns ms)) s):wpAny (model prog w) A (compareOp .Lt (.ref l) (.ref b)) Q E s:=by
 obtain⟨⟨cls,dd,data,sl⟩,ho,hc,n,hd⟩:=id hl;obtain⟨⟨cls2,dd2,data2,sl2⟩,ho2,hc2,n2,hd2⟩:=id hb;simp only at hc hd hc2 hd2;subst hc hd hc2 hd2;exact richCompare_meets_room (op :=.Lt) ⟨_,ho,rfl⟩ ⟨_,ho2,rfl⟩ PySem.F.slot_tuple_lt PySem.F.entry_tuple_lt (PySem.F.args_tuple_lt_2 _ _) (z86 l b z06 items2 n n2 dd dd2 sl sl2 ns ms hi hj)
  ⟨ho,ho2,show Value.bool (z0r ns ms)≠Value.notImplemented/\Q (.bool (z0r ns ms)) s from ⟨(λx=>nomatch x),h⟩⟩ hu
theorem zgJ {t b:Addr}{vs ws:List Value}{Q:Value->Shared->Prop}(ht:IsTup s.heap t vs.toArray)(hb:IsTup s.heap b ws.toArray)(hv:vs≠[])
  (h1:ws=[]->Q (.ref t) s) (h2:ws≠[]->Q (.ref s.heap.objs.size) { s with heap:=s.heap.push { cls :=.type "tuple",data :=.seq (vs++ws).toArray } })
  (hsz:vs.length+ws.length<=sizeLine):wpAny (model prog w) A (binaryOp .Add (.ref t) (.ref b)) Q E s:=by
 obtain⟨⟨cls,dd,data,sl⟩,ho,hc,n,hd⟩:=id ht;obtain⟨⟨cls2,dd2,data2,sl2⟩,ho2,hc2,n2,hd2⟩:=id hb;simp only at hc hd hc2 hd2;subst hc hd hc2 hd2;have e:vs.toArray++ws.toArray=(vs++ws).toArray:=by simp
 by_cases hw:ws=[]
 ·exact concat_meets ⟨_,ho,rfl⟩ ⟨_,ho2,rfl⟩ noFill_tuple_add seq_tuple_add PySem.F.slot_tuple_add PySem.F.entry_tuple_add (PySem.F.args_tuple_add_2 _ _)
   (tuple_addW1 t b vs.toArray ws.toArray n n2 dd dd2 sl sl2 (by simpa using hv) (by simp[hw])) ⟨ho,ho2,h1 hw⟩
 ·refine concat_meets ⟨_,ho,rfl⟩ ⟨_,ho2,rfl⟩ noFill_tuple_add seq_tuple_add PySem.F.slot_tuple_add PySem.F.entry_tuple_add (PySem.F.args_tuple_add_2 _ _)
   (tuple_addW2 t b vs.toArray ws.toArray n n2 dd dd2 sl sl2 (by simpa using hv) (by simpa using hw) (by rw[List.size_toArray,List.size_toArray]; exact hsz)) ⟨ho,ho2,?_⟩
  rw[e];exact h2 hw
noncomputable def sIx (n d:Nat):Option Int->Nat
 | none=>d
 | some v=>if v<0 then (v+(n:Int)).toNat else min v.toNat n
theorem zhf (n d:Nat)(hd:d<=n)(o:Option Int):sIx n d o<=n:=by
 cases o with
 | none=>exact hd
 | some v=>
  show (if v<0 then (v+(n:Int)).toNat else min v.toNat n)<=n
  by_cases hv:v<0
  ·rw[if_pos hv]; omega
  ·rw[if_neg hv]; exact Nat.min_le_right _ _
theorem zdd (v:Int)(n d:Nat):(if v<0 then max (v+(n:Int)) 0 else min v (n:Int))=((sIx n d (some v):Nat):Int):=by
 show (if v<0 then max (v+(n:Int)) 0 else min v (n:Int))=(((if v<0 then (v+(n:Int)).toNat else min v.toNat n):Nat):Int)
 by_cases hv:v<0
 ·simp only[if_pos hv]; omega
 ·simp only[if_neg hv]; omega
theorem zbJ (lo hi:Option Int)(n:Nat):Builtin.Slice.sliceAdjust lo hi 1 (n:Int)=(((sIx n 0 lo:Nat):Int),((sIx n n hi:Nat):Int)):=by
 have h1:¬ ((1:Int)<0):=by omega
 unfold Builtin.Slice.sliceAdjust;simp only[h1,if_false];refine Prod.ext ?_ ?_
 ·cases lo with
  | none=>rfl
  | some v=>exact zdd v n 0
 ·cases hi with
  | none=>rfl
  | some v=>exact zdd v n n
theorem zbg (i j:Nat):Builtin.Slice.slicePlaces (i:Int) (j:Int) 1=j - i:=by
 unfold Builtin.Slice.slicePlaces;have h1:(1:Int) > 0:=by omega
 simp only[h1,if_true,Int.ediv_one]
 split <;> omega
theorem z3g {v:Value}{o:Option Int}{Q:Option Int->Shared->Prop}(p:IsPart v o)(h:Q o s):wpAny (model prog w) A (Builtin.Slice.slicePartIndex v) Q E s:=by
 cases p with
 | none=>exact slicePart_none h
 | int i t=>exact slicePart_int h
theorem z3J {sl:Addr}{vl vu:Value}{lo hi:Option Int}{n:Nat}{Q:Int × Int × Nat->Shared->Prop}(hs:s.heap.IsSliceOf sl vl vu .none)(pl:IsPart vl lo)(pu:IsPart vu hi)
  (h:Q (((sIx n 0 lo:Nat):Int),1,sIx n n hi - sIx n 0 lo) s):wpAny (model prog w) A (Builtin.Slice.sliceApplied (.ref sl) (pure (n:Int))) Q E s:=by
 obtain⟨os,hos,hcs,hds⟩:=id hs;unfold Builtin.Slice.sliceApplied Builtin.Slice.sliceFields;refine wpAny_bind (wpAny_bind (wpAny_field hos hds (x:=vl) rfl (wpAny_bind (wpAny_field hos hds (x:=vu) rfl (wpAny_bind (wpAny_field hos hds (x :=.none) rfl (wpAny_pure ?_)))))));refine wpAny_bind (slicePart_none ?_);show wpAny _ _ (if ((1:Int) == 0)=true then _ else _) _ _ s;rw[if_neg (by decide)];refine wpAny_bind (z3g pl (wpAny_bind (z3g pu (wpAny_bind (wpAny_pure ?_)))));show wpAny _ _ (match Builtin.Slice.sliceAdjust lo hi 1 (n:Int) with | (lo,hi)=>pure (lo,(1:Int),Builtin.Slice.slicePlaces lo hi 1)) _ _ s;rw[zbJ lo hi n];show wpAny _ _ (pure (((sIx n 0 lo:Nat):Int),(1:Int),Builtin.Slice.slicePlaces ((sIx n 0 lo:Nat):Int) ((sIx n n hi:Nat):Int) 1)) _ _ s;rw[zbg];exact wpAny_pure h
theorem zdU (xs:Array Value)(i k:Nat):((List.range k).filterMap λ(m:Nat)=>xs[((i:Int)+(m:Int)*1).toNat]?).toArray=((xs.toList.drop i).take k).toArray:=by
 have e:(λ(m:Nat)=>xs[((i:Int)+(m:Int)*1).toNat]?)=λm=>xs[i+m]? := by
  funext m
  have:((i:Int)+(m:Int)*1).toNat=i+m:=by omega
  rw[this]
 rw[e];have:=pick_run xs i k;rw[List.filterMap_map] at this;have e2:((λx=>xs[x]?) ∘ λx=>i+x)=λm=>xs[i+m]? := rfl;rw[e2] at this;rw[this]
theorem z5S {t sl:Addr}{z06:Array Value}{vl vu:Value}{lo hi:Option Int}{Q:Value->Shared->Prop}(ht:IsTup s.heap t z06)(hs:s.heap.IsSliceOf sl vl vu .none)(pl:IsPart vl lo)(pu:IsPart vu hi)
  (hw:¬ (sIx z06.size 0 lo=0/\sIx z06.size z06.size hi=z06.size))
  (h:Q (.ref s.heap.objs.size) { s with heap:=s.heap.push { cls :=.type "tuple",data :=.seq ((z06.toList.drop (sIx z06.size 0 lo)).take (sIx z06.size z06.size hi - sIx z06.size 0 lo)).toArray } })
  (hsz:z06.size<=sizeLine):wpAny (model prog w) A (getItem (.ref t) (.ref sl)) Q E s:=by
 have htake:sizeOk (.seq ((z06.toList.drop (sIx z06.size 0 lo)).take (sIx z06.size z06.size hi - sIx z06.size 0 lo)).toArray):=by
  show ((z06.toList.drop (sIx z06.size 0 lo)).take (sIx z06.size z06.size hi - sIx z06.size 0 lo)).toArray.size<=sizeLine;rw[List.size_toArray,List.length_take,List.length_drop,Array.length_toList];omega
 have hj:sIx z06.size z06.size hi<=z06.size:=zhf _ _ (Nat.le_refl _) hi;obtain⟨os,hos,hcs,hds⟩:=id hs;have hTs:s.TypeIs (.ref sl) "slice":=⟨os,hos,hcs⟩
 unfold getItem
 try with_reducible refine wpAny_holding ?_
 first | refine wpAny_bind (wpAny_pure ?_) | skip
 refine wpAny_bind (wpAny_sequenceKey ht.typeIs (by decide) ?_);refine wpAny_bind (wpAny_callSpecial?_slot (name:=Str.ofString "__getitem__") ht.typeIs PyProof.Rows.slot_tuple_getitem
  (wpAny_call_entry PyProof.Rows.slot_tuple_getitem ht.typeIs entry_tuple_getitem ?_ (args_tuple_getitem _ _)))
 show wpAny _ _ (Builtin.Tuple.tupleItemsOf (.ref t) >>= _) _ _ s;refine wpAny_bind (tupleItemsOf_ ht ?_);refine wpAny_bind (wpAny_typeOf hTs ?_);rw[if_pos (by decide)];refine wpAny_bind (z3J hs pl pu ?_);have hno:¬ ((((sIx z06.size 0 lo:Nat):Int) == 0 && (1:Int) == 1 && (sIx z06.size z06.size hi - sIx z06.size 0 lo) == z06.size)=true):=by
  intro q;rw[Bool.and_eq_true,Bool.and_eq_true] at q;have q1:((sIx z06.size 0 lo:Nat):Int)=0:=eq_of_beq q.1.1;have q2:sIx z06.size z06.size hi - sIx z06.size 0 lo=z06.size:=eq_of_beq q.2;exact hw ⟨by omega,by omega⟩
 show wpAny _ _ (if (((sIx z06.size 0 lo:Nat):Int) == 0 && (1:Int) == 1 && (sIx z06.size z06.size hi - sIx z06.size 0 lo) == z06.size)=true then _ else _) _ _ s;rw[if_neg hno,zdU]
 first
  | exact wpAny_bind (m:=Builtin.Tuple.tupleExact _) (wpAny_newObj_type (wpAny_pure ⟨_,rfl,wpAny_pure h⟩) htake)
  | exact wpAny_bind (m:=Builtin.Tuple.tupleExact _) (wpAny_newObj_type (wpAny_bind (wpAny_pure (wpAny_pure ⟨_,rfl,wpAny_pure h⟩))) htake)
  | exact wpAny_bind (wpAny_bind (m:=Builtin.Tuple.tupleExact _) (wpAny_newObj_type (wpAny_pure (wpAny_pure ⟨_,rfl,wpAny_pure h⟩)) htake))
  | exact wpAny_bind (wpAny_bind (m:=Builtin.Tuple.tupleExact _) (wpAny_newObj_type (wpAny_pure ⟨_,rfl,wpAny_pure h⟩) htake))
end
end HT
namespace L2
open PySem PySem.Spec PyProof.Rows
noncomputable abbrev TO:=St->Hp->(Option Int->Hp->Prop)->Prop
noncomputable def PO (X:Cx)(e:Option Expr)(t:TO):Prop:=
 ∀(pins:List (Addr × Obj)) (s:Shared) (σ:St) (H:Hp) (Q:Option Int->Hp->Prop),Inv X pins σ H s->t σ H Q->
  wpAny (model X.prog X.w) X.A (evalPart e X.env) (λu s'=>∃o H',Inv X pins σ H' s'/\IsPart u o/\Q o H') X.xe s
noncomputable def zbX:TO:=λ_ H Q=>Q none H
noncomputable def zgX (t:TE):TO:=λσ H Q=>t σ H λx H1=>∃i,x = .int i/\Q (some i) H1
theorem z2z {ns:List Int}:∀{us:List Value},Vals (ns.map V.int) us->IntsAre us ns:=by
 induction ns with
 | nil=>intro us r; rw[List.map_nil] at r; cases r; exact .nil
 | cons n ns ih=>
  intro us r;rw[List.map_cons] at r
  cases r with
  | cons r1 r2=>
   obtain⟨t,e⟩:=r1;subst e;exact .cons n t (ih r2)
section
variable {X:Cx}{e:Expr}{te:TE}{lo hi:Option Expr}{tl th:TO}{pos p2:Pos}
theorem zg0:PO X none zbX:=by
 intro pins s σ H Q I h;rw[evalPart_none];exact wpAny_pure ⟨none,H,I,.none,h⟩
theorem zfZ (h:PE X e te):PO X (some e) (zgX te):=by
 intro pins s σ H Q I hw;rw[evalPart_some];refine thn (h pins s σ H _ I hw) λu s1 ⟨x,H1,I1,r1,q1⟩ =>?_;obtain⟨i,rfl,q⟩:=q1;obtain⟨t,rfl⟩:=r1;exact⟨some i,H1,I1,.int i t,q⟩
noncomputable def SlR (X:Cx)(r:V->Option Int->Option Int->Hp->VK->Prop):Prop:=
 ∀(pins:List (Addr × Obj)) (s:Shared) (σ:St) (H:Hp) (x:V) (v vl vu:Value) (lo hi:Option Int) (sl:Addr) (Q:VK),Inv X pins σ H s->RelV x v->s.heap.IsSliceOf sl vl vu .none->IsPart vl lo->IsPart vu hi->r x lo hi H Q->
  ∃T id,typeLookup (.type T) "__getitem__"=pure (some (.builtin id))/\s.TypeIs v T/\wpAny (model X.prog X.w) X.A (getItem v (.ref sl)) (EP X pins σ Q) X.xe s
theorem SlR.or {r r':V->Option Int->Option Int->Hp->VK->Prop}(h:SlR X r)(h':SlR X r'):SlR X (λx lo hi H Q=>r x lo hi H Q\/r' x lo hi H Q):=by
 intro pins s σ H x v vl vu lo hi sl Q I rx hs pl pu q
 rcases q with q | q
 ·exact h pins s σ H x v vl vu lo hi sl Q I rx hs pl pu q
 ·exact h' pins s σ H x v vl vu lo hi sl Q I rx hs pl pu q
noncomputable def tSl (r:V->Option Int->Option Int->Hp->VK->Prop)(te:TE)(tl th:TO):TE:=λσ H Q=>te σ H λx H1=>tl σ H1 λl H2=>th σ H2 λu H3=>r x l u H3 Q
theorem zdW {r:V->Option Int->Option Int->Hp->VK->Prop}(hr:SlR X r)(he:PE X e te)(hl:PO X lo tl)(hu:PO X hi th):PE X (.Subscript e (.Slice lo hi none p2) pos) (tSl r te tl th):=by
 intro pins s σ H Q I h;refine Subscript_ (thn (he pins s σ H _ I h) λv s1 ⟨x,H1,I1,r1,q1⟩ =>?_);refine wpAny_Slice (thn (hl pins s1 σ H1 _ I1 q1) λvl s2 ⟨l,H2,I2,pl,q2⟩=>thn (hu pins s2 σ H2 _ I2 q2) λvu s3 ⟨u,H3,I3,pu,q3⟩ =>?_);rw[evalPart_none];refine wpAny_pure ?_;have I4:Inv X pins σ H3 { s3 with heap:=s3.heap.push { cls :=.type "slice",data :=.fields #[vl,vu,.none] } }:=I3.kept (t':=s3.toks) λb ob q=>Heap.get?_push_of_some _ q;obtain⟨T,id,hT,ht,hg⟩:=hr pins { s3 with heap:=s3.heap.push { cls :=.type "slice",data :=.fields #[vl,vu,.none] } } σ H3 x v vl vu l u s3.heap.objs.size Q I4 r1 (Heap.IsSliceOf.new ..) pl pu q3;show wpAny (model X.prog X.w) X.A (subscriptTail e (.Slice lo hi none p2) v (.ref s3.heap.objs.size)) (EP X pins σ Q) X.xe { s3 with heap:=s3.heap.push { cls :=.type "slice",data :=.fields #[vl,vu,.none] } };exact tail_any (ops:=[.ref s3.heap.objs.size,v]) ht hT hg (by with_unfolding_all rfl)
noncomputable def cutV (xs:List V)(lo hi:Option Int):List V:=(xs.drop (HT.sIx xs.length 0 lo)).take (HT.sIx xs.length xs.length hi - HT.sIx xs.length 0 lo)
theorem z7k (xs:List V)(lo hi:Option Int):(cutV xs lo hi).length<=xs.length:=by
 unfold cutV;rw[List.length_take,List.length_drop];omega
noncomputable def rSlT (K:W.Frag):V->Option Int->Option Int->Hp->VK->Prop:=λx lo hi H Q=>∃a xs,x = .ref a/\SqT K H a xs/\
 ¬ (HT.sIx xs.length 0 lo=0/\HT.sIx xs.length xs.length hi=xs.length)/\∀p,H p=none->Q (.ref p) (upd H p (.tup (cutV xs lo hi)))
theorem zh4:SlR X (rSlT X.K):=by
 intro pins s σ H x v vl vu lo hi sl Q I rx hs pl pu h;obtain⟨a,xs,rfl,hx,hw,q⟩:=h
 cases rx
 obtain⟨its,r,ht,hz⟩:=I.tuple hx;have hlen:its.toArray.size=xs.length:=by rw[List.size_toArray]; exact r.length.symm
 refine⟨"tuple",_,PyProof.Rows.slot_tuple_getitem.lookup,ht.typeIs,?_⟩;refine HT.z5S ht hs pl pu (by rw[hlen]; exact hw) ?_ (by rw[hlen]; exact hz);rw[hlen];refine⟨.ref s.heap.objs.size,_,I.laid (t':=s.toks) (o :=.tup (cutV xs lo hi)) (λb ob q=>Heap.get?_push_of_some _ q) (Nat.le_refl _) ?_,rfl,q _ (I.hok.fresh (Nat.le_refl _))⟩;exact⟨Nat.le_trans (z7k xs lo hi) hz,_,(r.drop (HT.sIx xs.length 0 lo)).take (HT.sIx xs.length xs.length hi - HT.sIx xs.length 0 lo),IsTup.new _ _⟩
noncomputable def rLtT (K:W.Frag):R2:=λx y H Q=>∃a b ns ms,x = .ref a/\y = .ref b/\SqT K H a (ns.map V.int)/\SqT K H b (ms.map V.int)/\Q (.bl (HT.z0r ns ms)) H
theorem zia (hu:X.A.units<cLine):OpR X (compareOp .Lt) (rLtT X.K):=by
 intro pins s σ H x y v u Q I rx ry h;obtain⟨a,b,ns,ms,rfl,rfl,ha,hb,q⟩:=h
 cases rx
 cases ry
 obtain⟨its,r1,p1,_⟩:=I.tuple ha;obtain⟨its2,r2,p2,_⟩:=I.tuple hb;have i1:IntsAre its.toArray.toList ns:=z2z r1;have i2:IntsAre its2.toArray.toList ms:=z2z r2;exact HT.zbq p1 p2 i1 i2 hu ⟨.bl (HT.z0r ns ms),H,I,rfl,q⟩
noncomputable def zjl (K:W.Frag):R2:=λx y H Q=>∃a b xs ys,x = .ref a/\y = .ref b/\SqT K H a xs/\SqT K H b ys/\xs≠[]/\xs.length+ys.length<=sizeLine/\
 (ys=[]->Q (.ref a) H)/\(ys≠[]->∀p,H p=none->Q (.ref p) (upd H p (.tup (xs++ys))))
theorem Vals.nil_iff {xs:List V}{us:List Value}(r:Vals xs us):us=[]↔xs=[]:=by
 cases r with
 | nil=>simp
 | cons _ _=>simp
theorem zgh:OpR X (binaryOp .Add) (zjl X.K):=by
 intro pins s σ H x y v u Q I rx ry h;obtain⟨a,b,xs,ys,rfl,rfl,ha,hb,hx,hz,q1,q2⟩:=h
 cases rx
 cases ry
 obtain⟨its,r1,p1,_⟩:=I.tuple ha;obtain⟨its2,r2,p2,_⟩:=I.tuple hb;refine HT.zgJ p1 p2 (λz=>hx (r1.nil_iff.mp z)) (λz=>⟨.ref a,H,I,rfl,q1 (r2.nil_iff.mp z)⟩) (λz =>?_) (by rw[<- r1.length, <- r2.length]; exact hz);refine⟨.ref s.heap.objs.size,_,I.laid (t':=s.toks) (o :=.tup (xs++ys)) (λb ob q=>Heap.get?_push_of_some _ q) (Nat.le_refl _) ?_,rfl,q2 (λw=>z (r2.nil_iff.mpr w)) _ (I.hok.fresh (Nat.le_refl _))⟩;exact⟨by rw[List.length_append]; exact hz,_,r1.append r2,IsTup.new _ _⟩
end
end L2
namespace L2
open PySem PySem.Spec PyProof.Rows
noncomputable def ixN (n:Nat)(i:Int):Option Nat:=if 0<=i then (if i<n then some i.toNat else none) else if -(n:Int)<=i then some (i+n).toNat else none
noncomputable def atI {α:Type}(xs:List α)(i:Int):Option α:=(ixN xs.length i).bind λj=>xs[j]?
theorem zgx {n:Nat}{i:Int}{j:Nat}(h:ixN n i=some j):seqIndex? i n=some j/\j<n /\ -(n:Int)<=i/\i<n:=by
 unfold ixN at h
 by_cases h0:0<=i
 ·rw[if_pos h0] at h
  by_cases h1:i<n
  ·rw[if_pos h1] at h;have e:i.toNat=j:=Option.some.inj h;exact⟨by rw[seqIndex_of h0 h1,e],by omega,by omega,h1⟩
  ·rw[if_neg h1] at h; cases h
 ·rw[if_neg h0] at h
  by_cases h1 : -(n:Int)<=i
  ·rw[if_pos h1] at h;have e:(i+n).toNat=j:=Option.some.inj h;exact⟨by rw[seqIndex_neg (by omega) h1,e],by omega,h1,by omega⟩
  ·rw[if_neg h1] at h; cases h
theorem zai {α:Type}{xs:List α}{i:Int}{v:α}(h:atI xs i=some v):∃j,seqIndex? i xs.length=some j/\xs[j]? = some v/\j<xs.length /\ -(xs.length:Int)<=i/\i<xs.length:=by
 unfold atI at h
 cases e:ixN xs.length i with
 | none=>rw[e] at h; cases h
 | some j=>
  rw[e] at h;obtain⟨h1,h2,h3,h4⟩:=zgx e;exact⟨j,h1,h,h2,h3,h4⟩
theorem zgL {α:Type}{xs:List α}{j:Nat}{v:α}(h:xs[j]? = some v):atI xs (j:Int)=some v:=by
 have hj:j<xs.length:=(List.getElem?_eq_some_iff.mp h).1;have e:ixN xs.length (j:Int)=some j:=by
  unfold ixN;rw[if_pos (by omega),if_pos (by omega)]; simp
 unfold atI; rw[e]; exact h
noncomputable def zak (b:Expr):Prop:=∀o i,subscripted b false o i=operate [o,i] (getItem o i)
noncomputable def IxR (X:Cx)(r:R2):Prop:=
 ∀(value slice:Expr) (pins:List (Addr × Obj)) (s:Shared) (σ:St) (H:Hp) (x y:V) (v u:Value) (Q:VK),Inv X pins σ H s->RelV x v->RelV y u->r x y H Q->
  subscripted slice false v u=operate [v,u] (getItem v u)->wpAny (model X.prog X.w) X.A (subscriptTail value slice v u) (EP X pins σ Q) X.xe s
noncomputable def MtR (X:Cx)(id:String)(r:V->List V->Hp->VK->Prop):Prop:=
 ∀(pins:List (Addr × Obj)) (s:Shared) (σ:St) (H:Hp) (x:V) (xs:List V) (v:Value) (us:List Value) (Q:VK),Inv X pins σ H s->RelV x v->Vals xs us->r x xs H Q->
  wpAny (model X.prog X.w) X.A (call (.builtin id) (v::us)) (EP X pins σ Q) X.xe s
section
variable {X:Cx}{a b:Expr}{ta tb:TE}{pos:Pos}
theorem IxR.or {r r':R2}(h:IxR X r)(h':IxR X r'):IxR X (λx y H Q=>r x y H Q\/r' x y H Q):=by
 intro value slice pins s σ H x y v u Q I rx ry q hs
 rcases q with q | q
 ·exact h value slice pins s σ H x y v u Q I rx ry q hs
 ·exact h' value slice pins s σ H x y v u Q I rx ry q hs
theorem zjy {r:R2}(hr:IxR X r)(ha:PE X a ta)(hb:PE X b tb)(hs:zak b):PE X (.Subscript a b pos) (tOp r ta tb):=by
 intro pins s σ H Q I h;exact Subscript_ (binT ha hb I h λv u s2 x y H2 I2 rx ry q=>hr a b pins s2 σ H2 x y v u Q I2 rx ry q (hs _ _))
noncomputable def rIxL (K:W.Frag):R2:=λx y H Q=>∃p xs i v,x = .ref p/\y = .int i/\SqL K H p xs/\atI xs i=some v/\Q v H
noncomputable def rIxT (K:W.Frag):R2:=λx y H Q=>∃p xs i v,x = .ref p/\y = .int i/\SqT K H p xs/\atI xs i=some v/\Q v H
noncomputable def rIxS:R2:=λx y H Q=>∃z i c,x = .str z/\y = .int i/\z.length<=sizeLine/\atI z.cps.toList i=some c/\Q (.str ⟨#[c]⟩) H
theorem zgw:IxR X (rIxL X.K):=by
 intro value slice pins s σ H x y v u Q I rx ry h hs;obtain⟨p,xs,i,z,rfl,rfl,hq,he,q⟩:=h
 cases rx
 obtain⟨t,rfl⟩:=ry;obtain⟨its,r,pl,hz⟩:=I.list hq;obtain⟨j,h1,h2,h3,h4,h5⟩:=zai he;obtain⟨w,ew,rw'⟩:=r.get h2;have hl:=r.length;have hn:=z7T;have fin:EP X pins σ Q w s:=⟨z,H,I,rw',q⟩
 by_cases h0:0<=i
 ·have hj:i.toNat=j:=by
   rw[seqIndex_of h0 h5] at h1;exact Option.some.inj h1
  exact item_listR pl.isList h0 (by omega) (by rw[hj]; simpa using ew) fin hs
 ·have hj:(i+(its.toArray.size:Int)).toNat=j:=by
   rw[seqIndex_neg (by omega) h4] at h1;rw[List.size_toArray, <- hl];exact Option.some.inj h1
  exact subscriptTail_builtinR (x:=w) pl.isList.typeIs slot_list_getitem.lookup
   (wpAny_getItem_list_neg (Q:=λr s'=>r=w/\EP X pins σ Q r s') pl.isList (by omega) (by rw[List.size_toArray] <;> omega) (by omega) (by rw[hj]; simpa using ew) ⟨rfl,fin⟩) hs
theorem ziS:IxR X (rIxT X.K):=by
 intro value slice pins s σ H x y v u Q I rx ry h hs;obtain⟨p,xs,i,z,rfl,rfl,hq,he,q⟩:=h
 cases rx
 obtain⟨t,rfl⟩:=ry;obtain⟨its,r,pl,hz⟩:=I.tuple hq;obtain⟨j,h1,h2,h3,h4,h5⟩:=zai he;obtain⟨w,ew,rw'⟩:=r.get h2;have hl:=r.length;have hn:=z7T;have fin:EP X pins σ Q w s:=⟨z,H,I,rw',q⟩
 exact subscriptTail_builtinR (x:=w) pl.typeIs slot_tuple_getitem.lookup
  (getItem_tuple (j:=j) (Q:=λr s'=>r=w/\EP X pins σ Q r s') pl (by omega) (by omega) (by rw[List.size_toArray, <- hl]; exact h1) (by simpa using ew) ⟨rfl,fin⟩) hs
theorem ziT:IxR X rIxS:=by
 intro value slice pins s σ H x y v u Q I rx ry h hs;obtain⟨z,i,c,rfl,rfl,hz,he,q⟩:=h;obtain⟨t,rfl⟩:=rx;obtain⟨t',rfl⟩:=ry;obtain⟨j,h1,h2,h3,h4,h5⟩:=zai he;have hl:z.cps.toList.length=z.length:=by simp[Str.length]
 rw[hl] at h1 h4 h5;have hn:=z7T;exact tail_any (typeIs_str s z t) slot_str_getitem.lookup (getItem_str (c:=c) (by
  have e1:decide (i < -(2 ^ 63:Int))=false:=decide_eq_false (by omega);have e2:decide (i>=2 ^ 63)=false:=decide_eq_false (by omega);rw[e1,e2,Bool.or_false]) (by rw[h1]; simpa using h2) ⟨.str ⟨#[c]⟩,H,I.tok _,⟨_,rfl⟩,q⟩) hs
noncomputable def rIx (K:W.Frag):R2:=λx y H Q=>rIxL K x y H Q\/rIxT K x y H Q\/rIxS x y H Q
theorem ziU:IxR X (rIx X.K):=zgw.or (ziS.or ziT)
theorem z8X (lo hi:Option Int)(n:Nat):(sliceBounds lo hi none n).1=((HT.sIx n 0 lo:Nat):Int)/\(sliceBounds lo hi none n).2.1=((HT.sIx n n hi:Nat):Int)/\(sliceBounds lo hi none n).2.2=1:=by
 refine⟨?_,?_,rfl⟩
 ·cases lo with
  | none=>simp[sliceBounds,HT.sIx]
  | some i=>
   simp only[sliceBounds,HT.sIx,Option.getD_none,show (1:Int) > 0 by decide,if_true]
   by_cases h:i<0
   ·simp only[h,if_true] <;> omega
   ·simp only[h,if_false] <;> omega
 ·cases hi with
  | none=>simp[sliceBounds,HT.sIx]
  | some i=>
   simp only[sliceBounds,HT.sIx,Option.getD_none,show (1:Int) > 0 by decide,if_true]
   by_cases h:i<0
   ·simp only[h,if_true] <;> omega
   ·simp only[h,if_false] <;> omega
theorem z8b (its:List Value)(lo hi:Option Int):slicePick its.toArray lo hi none=((its.drop (HT.sIx its.length 0 lo)).take (HT.sIx its.length its.length hi - HT.sIx its.length 0 lo)).toArray:=by
 obtain⟨h1,h2,h3⟩:=z8X lo hi its.toArray.size;unfold slicePick;rw[h1,h2,h3];simp only[sliceRange_one,pick_run,List.size_toArray] <;> rfl
noncomputable def rSlL (K:W.Frag):V->Option Int->Option Int->Hp->VK->Prop:=λx lo hi H Q=>∃a xs,x = .ref a/\SqL K H a xs/\∀p,H p=none->Q (.ref p) (upd H p (.lst (cutV xs lo hi)))
theorem zfy:SlR X (rSlL X.K):=by
 intro pins s σ H x v vl vu lo hi sl Q I rx hs pl pu h;obtain⟨a,xs,rfl,hx,q⟩:=h
 cases rx
 obtain⟨its,r,ht,hz⟩:=I.list hx;have hlen:=r.length;refine⟨"list",_,slot_list_getitem.lookup,ht.isList.typeIs,?_⟩;refine wpAny_getItem_list_slice ht.isList hs pl pu .none (by simp) ?_ (by rw[List.size_toArray] <;> omega);rw[z8b, <- hlen];refine⟨.ref s.heap.objs.size,_,I.laid (t':=s.toks) (o :=.lst (cutV xs lo hi)) (λb ob q=>Heap.get?_push_of_some _ q) (Nat.le_refl _) ?_,rfl,q _ (I.hok.fresh (Nat.le_refl _))⟩;exact⟨Nat.le_trans (z7k xs lo hi) hz,_,0,(r.drop (HT.sIx xs.length 0 lo)).take (HT.sIx xs.length xs.length hi - HT.sIx xs.length 0 lo),Heap.get?_push_size _ rfl⟩
theorem z9D:z1l X (.builtin "len") (λxs H Q=>∃p ys,xs=[.ref p]/\(SqL X.K H p ys\/SqT X.K H p ys)/\Q (.int ys.length) H):=by
 intro pins s σ H xs us Q I r h;obtain⟨p,ys,rfl,hq,q⟩:=h;obtain⟨u,rfl,rx⟩:=z6y r
 cases rx
 have hn:=z7T
 rcases hq with hq | hq
 ·obtain⟨its,r',pl,hz⟩:=I.list hq;have hlen:=r'.length;exact Calls.call_len_list pl.isList (by simp only[List.size_toArray] <;> omega) ⟨.int ys.length,H,I.tok _,⟨s.toks+1,by rw[List.size_toArray,hlen]⟩,q⟩
 ·obtain⟨its,r',pl,hz⟩:=I.tuple hq;have hlen:=r'.length;exact len_tuple pl (by simp only[List.size_toArray] <;> omega) ⟨.int ys.length,H,I.tok _,⟨s.toks+1,by rw[List.size_toArray,hlen]⟩,q⟩
theorem z9C:z1l X (.builtin "len") (λxs H Q=>∃z,xs=[.str z]/\z.length<=sizeLine/\Q (.int z.length) H):=by
 intro pins s σ H xs us Q I r h;obtain⟨z,rfl,hz,q⟩:=h;obtain⟨u,rfl,t,rfl⟩:=z6y r;have hn:=z7T;exact len_str (by omega) ⟨.int z.length,H,I.tok _,⟨_,rfl⟩,q⟩
theorem z1l.or {f:Value}{r r':List V->Hp->VK->Prop}(h:z1l X f r)(h':z1l X f r'):z1l X f (λxs H Q=>r xs H Q\/r' xs H Q):=by
 intro pins s σ H xs us Q I rs q
 rcases q with q | q
 ·exact h pins s σ H xs us Q I rs q
 ·exact h' pins s σ H xs us Q I rs q
theorem z8H:z1l X (.type "tuple") (λxs H Q=>∃p ys,xs=[.ref p]/\((SqL X.K H p ys/\∀l,H l=none->Q (.ref l) (upd H l (.tup ys)))\/(SqT X.K H p ys/\Q (.ref p) H))):=by
 intro pins s σ H xs us Q I r h;obtain⟨p,ys,rfl,h⟩:=h;obtain⟨u,rfl,rx⟩:=z6y r
 cases rx
 rcases h with ⟨hq,q⟩ | ⟨hq,q⟩
 ·obtain⟨its,r',pl,hz⟩:=I.list hq;have hlen:=r'.length;refine call_tuple_list pl.isList (λh' kp =>?_) (by simp only[List.size_toArray] <;> omega);have I1:Inv X pins σ H { s with heap:=h' }:=I.kept (t':=s.toks) kp;have I2:Inv X pins σ (upd H h'.objs.size (.tup ys)) { s with heap:=h'.push { cls :=.type "tuple",data :=.seq its.toArray } }:=
   I1.laid (t':=s.toks) (λb o e=>Heap.get?_push_of_some _ e) (Nat.le_refl _) (show z1W X.prog X.w _ _ _ (.tup ys) from ⟨hz,its,r',IsTup.new _ _⟩)
  exact⟨.ref h'.objs.size,_,I2,rfl,q _ (I1.hok.fresh (Nat.le_refl _))⟩
 ·obtain⟨its,r',pl,hz⟩:=I.tuple hq;exact call_tuple_same pl ⟨.ref p,H,I,rfl,q⟩
noncomputable def tyV (K:W.Frag)(T:String)(x:V)(H:Hp):Prop:=match x with
 | .str _=>T="str"
 | .int _=>T="int"
 | .ref p=>(T="list"/\∃xs,SqL K H p xs)\/(T="tuple"/\∃o,K.lookup p=some o/\o.cls = .type "tuple"/\o.dict=none)\/
   (T="dict"/\((∃kvs,H p=some (.dK kvs))\/∃kvs,H p=some (.dT kvs)))\/(T="set"/\∃S n,H p=some (.set S n))
 | _=>False
theorem zeI {pins:List (Addr × Obj)}{σ:St}{H:Hp}{s:Shared}{T:String}{x:V}{v:Value}(I:Inv X pins σ H s)(r:RelV x v)(ty:tyV X.K T x H):
  s.TypeIs v T/\∀a,v = .ref a->∃ob,s.heap.get? a=some ob/\ob.dict=none:=by
 cases x with
 | str z=>
  obtain⟨t,rfl⟩:=r
  cases (show T="str" from ty)
  exact⟨typeIs_str s z t,λ_ e=>nomatch e⟩
 | int i=>
  obtain⟨t,rfl⟩:=r
  cases (show T="int" from ty)
  exact⟨typeIs_int s i t,λ_ e=>nomatch e⟩
 | ref p=>
  cases r
  rcases ty with ⟨rfl,xs,hq⟩ | ⟨rfl,o,hk,hc,hd⟩ | ⟨rfl,hk⟩ | ⟨rfl,S,n,hk⟩
  ·obtain⟨its,_,pl,_⟩:=I.list hq;refine⟨pl.isList.typeIs,λa e =>?_⟩
   cases e
   obtain⟨o,n,e,c,hd,_⟩:=pl;exact⟨o,e,hd⟩
  ·refine⟨⟨o,I.kIn p o hk,hc⟩,λa e =>?_⟩
   cases e
   exact⟨o,I.kIn _ o hk,hd⟩
  ·have z:∃o,s.heap.get? p=some o/\o.ExactDict:=by
    rcases hk with ⟨kvs,hk⟩ | ⟨kvs,hk⟩
    ·obtain⟨_,_,_,_,o,_,_,e,ex,_⟩:=I.hok p _ hk;exact⟨o,e,ex⟩
    ·obtain⟨_,_,_,_,o,_,_,e,ex,_⟩:=I.hok p _ hk;exact⟨o,e,ex⟩
   obtain⟨o,e,ex⟩:=z;refine⟨⟨o,e,ex.1⟩,λa e2 =>?_⟩
   cases e2
   exact⟨o,e,ex.2.1⟩
  ·obtain⟨o,_,_,_,e,ex,_⟩:=I.hok p _ hk;refine⟨⟨o,e,ex.1⟩,λa e2 =>?_⟩
   cases e2
   exact⟨o,e,ex.2.1⟩
 | _=>exact False.elim ty
noncomputable def tBM0 (K:W.Frag)(T:String)(r:V->List V->Hp->VK->Prop)(to:TE):TE:=λσ H Q=>to σ H λx H1=>tyV K T x H1/\r x [] H1 Q
noncomputable def tBM (K:W.Frag)(T:String)(r:V->List V->Hp->VK->Prop)(to:TE)(t:TA):TE:=λσ H Q=>to σ H λx H1=>tyV K T x H1/\t σ H1 λxs H2=>r x xs H2 Q
variable {o e:Expr}{es:List Expr}{to:TE}{t:TA}{name:Str}{apos cpos:Pos}{T id:String}{r:V->List V->Hp->VK->Prop}
theorem zi0 (pa:PlainAttrs T)(slot:Slot T name id)(hty:typeOf (.builtin id)=pure (.type "method_descriptor"))(hm:MtR X id r)(ho:PE X o to)
  (hbase:attributeBase o name X.env (eval o X.env)=eval o X.env:=by rfl) (hline:(apos.endLine == cpos.line)=true:=by rfl):PE X (.Call (.Attribute o name apos) [] [] cpos) (tBM0 X.K T r to):=by
 intro pins s σ H Q I h;refine wpAny_Call_method0_late hbase hline (thn (ho pins s σ H _ I h) λv s1 ⟨x,H1,I1,r1,ty,q1⟩ =>?_);obtain⟨h1,h2⟩:=zeI I1 r1 ty;exact⟨T,id,pa,slot,hty,h1,h2,Calls.callWith_builtin rfl (PySem.evalArgs_none (hm pins s1 σ H1 x [] v [] Q I1 r1 .nil q1))⟩
theorem zjA (pa:PlainAttrs T)(slot:Slot T name id)(hty:typeOf (.builtin id)=pure (.type "method_descriptor"))(hm:MtR X id r)(ho:PE X o to)(ha:PA X (e::es) t)
  (hbase:attributeBase o name X.env (eval o X.env)=eval o X.env:=by rfl)
  (hfew:((backTo cpos (starEach (e::es) X.env)).all (λx => !x.1) && (backToKw cpos (keywordEach [] X.env)).all (λx=>x.1.isSome)
   && decide ((e::es).length+([]:List Keyword).length+(if ([]:List Keyword).isEmpty then 0 else 1)<30))=true:=by rfl)
  (hline:(apos.endLine == cpos.line)=true:=by rfl) (hs:starEach (e::es) X.env=(false,eval e X.env)::starEach es X.env:=by rfl) (hplain:(backTo cpos (starEach es X.env)).any (·.1)=false:=by rfl):
  PE X (.Call (.Attribute o name apos) (e::es) [] cpos) (tBM X.K T r to t):=by
 intro pins s σ H Q I h;refine wpAny_Call_method_late hbase hfew hline rfl (thn (ho pins s σ H _ I h) λv s1 ⟨x,H1,I1,r1,ty,q1⟩ =>?_);obtain⟨h1,h2⟩:=zeI I1 r1 ty;refine⟨T,id,pa,slot,hty,h1,h2,?_⟩;have hA:=ha cpos pins s1 σ H1 _ I1 q1;rw[hs] at hA ⊢;refine Calls.callWith_builtin (by show (false || (backTo cpos (starEach es X.env)).any (·.1))=false; rw[hplain] <;> rfl) (Calls.evalArgs_plain ?_);exact thn hA λus s2 ⟨vs,H2,I2,r2,q2⟩=>hm pins s2 σ H2 x vs v us Q I2 r1 r2 q2
end
end L2
namespace L2
open PySem PySem.Spec PyProof.Rows
noncomputable def MtM (X:Cx)(id:String)(r:V->List V->Hp->VK->Prop):Prop:=
 ∀(pins:List (Addr × Obj)) (s:Shared) (σ:St) (H:Hp) (x:V) (xs:List V) (v:Value) (us:List Value) (Q:VK),Inv X pins σ H s->RelV x v->Vals xs us->r x xs H Q->
  wpAny (model X.prog X.w) X.A (call (.builtin id) (v::us)) (EP X pins σ Q) X.xe s
theorem Vals.one:∀{x:V}{us:List Value},Vals [x] us->∃u,us=[u]/\RelV x u
 | _,_,.cons r .nil=>⟨_,rfl,r⟩
theorem Vals.zero:∀{us:List Value},Vals [] us->us=[]
 | _,.nil=>rfl
theorem Vals.dropLast {xs:List V}{us:List Value}(h:Vals xs us):Vals xs.dropLast us.dropLast:=by
 induction h with
 | nil=>exact .nil
 | cons r t ih=>
  cases t with
  | nil=>exact .nil
  | cons q t'=>exact .cons r ih
theorem Vals.reverse {xs:List V}{us:List Value}(h:Vals xs us):Vals xs.reverse us.reverse:=by
 induction h with
 | nil=>exact .nil
 | cons r t ih=>rw[List.reverse_cons,List.reverse_cons]; exact Vals.append ih (.cons r .nil)
theorem zbD {α:Type}(l:List α):l.eraseIdx (l.length - 1)=l.dropLast:=by
 induction l with
 | nil=>rfl
 | cons a r ih=>
  cases r with
  | nil=>rfl
  | cons b r=>
   have e:(a::b::r).length - 1=((b::r).length - 1)+1:=by
    have h1:(a::b::r).length=r.length+2:=rfl;have h2:(b::r).length=r.length+1:=rfl;omega
   rw[e,List.eraseIdx_cons_succ,ih]
   all_goals rfl
section
variable {X:Cx}{pins:List (Addr × Obj)}{σ:St}{H:Hp}{s:Shared}{l b:Addr}{xs ys zs:List V}
theorem Inv.lset {its its':List Value}{n:Nat}{f:Array Value->Array Value}{t':Nat}(I:Inv X pins σ H s)(hH:H l=some (.lst xs))
  (e:s.heap.get? l=some { cls :=.type "list",data :=.seq its.toArray n }) (hf:f its.toArray=its'.toArray) (hv:Vals ys its') (hz:ys.length<=sizeLine):
  Inv X pins σ (upd H l (.lst ys)) { s with heap:=s.heap.update l (Obj.mapSeq f),toks:=t' }:=by
 have q:=PySem.IsL.update e f;rw[hf] at q;refine I.write (x:=l) (e:=l) (by rw[hH]; exact trivial) (.inl rfl) (λb' u hb hu=>(Heap.get?_update_other s.heap (Obj.mapSeq f) (Ne.symm hb)).trans hu) ⟨_,q⟩ ?_;exact⟨hz,its',_,hv,q⟩
theorem Inv.lnew {its:List Value}{t':Nat}(I:Inv X pins σ H s)(hv:Vals ys its)(hz:ys.length<=sizeLine):
  Inv X pins σ (upd H s.heap.objs.size (.lst ys)) { s with heap:=s.heap.push { cls :=.type "list",data :=.seq its.toArray },toks:=t' }:=
 I.laid (λ_ _ q=>Heap.get?_push_of_some _ q) (Nat.le_refl _) ⟨hz,its,0,hv,Heap.get?_push_size _ rfl⟩
theorem Inv.fresh (I:Inv X pins σ H s):H s.heap.objs.size=none:=I.hok.fresh (Nat.le_refl _)
theorem Inv.lstM (I:Inv X pins σ H s)(hH:H l=some (.lst xs)):xs.length<=sizeLine/\∃(its:List Value) (n:Nat),Vals xs its/\xs.length=its.length/\s.heap.get? l=some { cls :=.type "list",data :=.seq its.toArray n }:=by
 obtain⟨z,its,n,r,e⟩:=I.hok l _ hH;exact⟨z,its,n,r,r.length,e⟩
theorem zea {n:Nat}(h:n<=sizeLine):Builtin.List.listTooLong n=false:=by
 unfold Builtin.List.listTooLong;exact decide_eq_false (by omega)
end
section
variable {X:Cx}
noncomputable def zcb:V->List V->Hp->VK->Prop:=λx vs H Q=>∃l xs y,x = .ref l/\vs=[y]/\H l=some (.lst xs)/\xs.length<sizeLine/\Q .non (upd H l (.lst (xs++[y])))
theorem zcE:MtM X "list.append" zcb:=by
 intro pins s σ H x vs v us Q I rx rv h;obtain⟨l,xs,y,rfl,rfl,hH,hz,q⟩:=h
 cases rx
 obtain⟨u,rfl,ru⟩:=rv.one;obtain⟨z,its,n,r,hl,e⟩:=I.lstM hH;refine call_meets F.slot_list_append ⟨_,e,rfl⟩ F.entry_list_append (F.args_list_append_2 _ _) (PySem.list_append l its.toArray n u (by rw[List.size_toArray]; omega)) ⟨e,?_⟩;refine⟨.non,_,I.lset (its':=its++[u]) hH e (by simp) (r.append (.cons ru .nil)) ?_,rfl,q⟩;rw[List.length_append,List.length_singleton];omega
noncomputable def zfH:V->List V->Hp->VK->Prop:=λx vs H Q=>∃l b xs zs,x = .ref l/\vs=[.ref b]/\H l=some (.lst xs)/\H b=some (.lst zs)/\xs.length+zs.length<=sizeLine/\Q .non (upd H l (.lst (xs++zs)))
theorem zcD:MtM X "list.extend" zfH:=by
 intro pins s σ H x vs v us Q I rx rv h;obtain⟨l,b,xs,zs,rfl,rfl,hH,hB,hz,q⟩:=h
 cases rx
 obtain⟨u,rfl,ru⟩:=rv.one
 cases ru
 obtain⟨z,its,n,r,hl,e⟩:=I.lstM hH;obtain⟨z2,its2,n2,r2,hl2,e2⟩:=I.lstM hB;have hsz:its.toArray.size+its2.toArray.size<=sizeLine:=by rw[List.size_toArray,List.size_toArray]; omega
 have hlong:¬ (!its.toArray.isEmpty && Builtin.List.listTooLong (its.toArray.size+its2.toArray.size))=true:=by
  rw[zea hsz,Bool.and_false];exact Bool.false_ne_true
 refine call_meets F.slot_list_extend ⟨_,e,rfl⟩ F.entry_list_extend (F.args_list_extend_2 _ _)
  (AutoSeq1.list_extend_list_list_0 l its.toArray n b its2.toArray n2 hlong (by rw[List.size_toArray]; omega) (by omega)) ⟨e,e2,?_⟩
 refine⟨.non,_,I.lset (its':=its++its2) hH e (by simp) (r.append r2) ?_,rfl,q⟩;rw[List.length_append];omega
noncomputable def rPop:V->List V->Hp->VK->Prop:=λx vs H Q=>∃l xs y,x = .ref l/\vs=[]/\H l=some (.lst xs)/\xs[xs.length - 1]? = some y/\Q y (upd H l (.lst xs.dropLast))
theorem ziI:MtM X "list.pop" rPop:=by
 intro pins s σ H x vs v us Q I rx rv h;obtain⟨l,xs,y,rfl,rfl,hH,hy,q⟩:=h
 cases rx
 have hus:=rv.zero;subst hus;obtain⟨z,its,n,r,hl,e⟩:=I.lstM hH;obtain⟨u,hu,ru⟩:=r.get hy;have hy':its.toArray[its.toArray.size - 1]? = some u:=by
  show its.toArray[its.length - 1]? = some u;rw[<- Array.getElem?_toList, <- hl];exact hu
 refine call_meets F.slot_list_pop ⟨_,e,rfl⟩ F.entry_list_pop (F.args_list_pop_1 _) (MeetsSeq.list_pop_last l its.toArray n u hy' (by rw[List.size_toArray]; omega)) ⟨e,?_⟩;refine⟨y,_,I.lset (its':=its.dropLast) hH e ?_ r.dropLast ?_,ru,q⟩
 ·show its.toArray.eraseIdxIfInBounds (its.toArray.size - 1)=its.dropLast.toArray;rw[List.size_toArray,List.eraseIdxIfInBounds_toArray,zbD]
 ·rw[List.length_dropLast];omega
end
end L2
namespace Att
open PySem PySem.W PySem.Calls PyProof.Rows
theorem z6Z {P:Params}{h:Heap}:∀(ns:List Int) (vs:List Value),WellAll P h vs (ns.map WData.int)->IntsAre vs ns:=by
 intro ns
 induction ns with
 | nil=>
  intro vs w;rw[List.map_nil] at w
  cases w
  exact .nil
 | cons n ns ih=>
  intro vs w;rw[List.map_cons] at w
  cases w with
  | cons a b=>
   cases a
   exact .cons _ _ (ih _ b)
theorem zc6 {l:OpenLaw}{n:Nat}(hn:l.most=some n){P:Params}{h:Heap}{args:List WData}{vals:List Value}
  (hpre:l.row.toRowW.claim.pre args=true) (hwl:WellAll P h vals args):
  ∃a vs ns,vals=[Value.ref a]/\args=[WData.list (ns.map WData.int)]/\h.get? a=some { cls :=.type "list",data :=.seq vs.toArray }/\IntsAre vs ns/\ns.length<=n:=by
 have hsh:WShape.hasAll [] args [.list .int]=true:=(pre_splitW hpre).1;have hc:l.pre.holds [] { args:=args }=true:=(pre_splitW hpre).2;obtain⟨d,r,rfl,h1,h2⟩:=hasAllW_cons hsh;obtain rfl:=hasAllW_nil h2;obtain⟨xs,rfl,h3⟩:=hasW_list h1;obtain⟨ns,rfl⟩:=items_int h3;have hlen:ns.length<=n:=by
  unfold OpenLaw.pre at hc;have h4:(WTm.not (.lt (.lit (.int (n:Int))) (.len (.arg 0)))).holds [] { args:=[.list (ns.map .int)] }=true:=by
   have h4:=(holds_andW hc).1;rw[hn] at h4;exact h4
  have h5:=condW_of h4 (w_not (w_lt w_lit (w_len_list (w_arg rfl))));rw[List.length_map] at h5;refine Nat.le_of_not_lt λq =>?_;have q':(n:Int)<((ns.length:Nat):Int):=by omega
  first
   | (rw[decide_eq_true q'] at h5; exact absurd h5 (by decide))
   | (simp at h5; omega)
 cases hwl with
 | cons w1 w2=>
  cases w2
  cases w1 with
  | list ho hall=>exact⟨_,_,ns,rfl,rfl,ho,z6Z ns _ hall,hlen⟩
theorem zcg (l:OpenLaw)(args:List WData):l.row.toRowW.claim.post args (.bool true) args=true:=
 postW_of (r:=l.row.toRowW) (X:=(true == true))
  (show WShape.has [] (.bool true) .bool=true by first | rfl | decide | simp[WShape.has,WShape.arms,WShape.armsAll])
  (show (WTm.eq .res (.lit (.bool true))).value [] { args:=args,res:=some (.bool true),after:=args }=some (.bool (true == true)) from w_eq_bool (w_res rfl) w_lit) rfl
theorem zah {l:OpenLaw}{n:Nat}{q:Program}{loose:List Str}{XP:(Str->Option Value)->Heap->Prop}{YP:World->Heap->Prop}{d:DefRec}
  (hn:l.most=some n) (hdf:d.params.defaults=[])
  (call:∀(w:World) (s₀ s₁:Shared) (mg mb:Str->Option Value) (fa:Addr) (o:Obj) (pm cd doc:Value) (a:Addr) (vs:List Value) (ns:List Int),
   Ground q loose [] XP w s₀ mg mb s₁.heap->YP w s₁.heap->
   s₁.heap.get? fa=some o->o.data = .func (docDef d.name d.params d.body d.scope pm cd doc)->s₁.heap.CodeRec cd d.name->mg d.name=some (.ref fa)->
   s₁.heap.get? a=some { cls :=.type "list",data :=.seq vs.toArray }->IntsAre vs ns->ns.length<=n->s₁.gens = #[]->
   codeAny (model l.prog w) callerA (.call (.ref fa) ⟨[.ref a],[]⟩) (λr s'=>r = .ok (.ret (.bool true))/\OldK s₁.heap s'.heap/\s'.os=s₁.os/\AllBare s'.gens) s₁):
  WalkO q loose XP YP l.row.toRowW d [] (λf vs=>PySem.call f vs):=by
 intro w s₀ s₁ mg mb G Y fa o pm cd doc dV kV ho hd hcd hD hmg hg args vals as hpre hlay hrd hwl hlo;obtain rfl:dV = .none:=Dflts.none hD hdf;obtain rfl:kV = .none:=Dflts.noKw hD;obtain⟨a,vs,ns,rfl,rfl,hobj,hints,hlen⟩:=zc6 hn hpre hwl;refine enter_call (codeAny_mono (call w s₀ s₁ mg mb fa o pm cd doc a vs ns G Y ho (fd_plain hd) hcd hmg hobj hints hlen hg) λr s' hq =>?_);obtain⟨rfl,h2,h3,h4⟩:=hq;exact⟨.inl ⟨.bool true,.bool true,[],rfl,λ_=>rfl,.bool true,zcg l _,λ_=>⟨List.Pairwise.nil,λ_ hm=>(nomatch hm)⟩⟩,h2,h3,h4⟩
end Att
namespace L2
open PySem PySem.Spec PyProof.Rows
theorem z8R:∀{vs:List Value}{ns:List Int},IntsAre vs ns->Vals (ns.map V.int) vs
 | _,_,.nil =>.nil
 | _,_,.cons n t h =>.cons ⟨t,rfl⟩ (z8R h)
noncomputable def Only (H:Hp):Prop:=∀b,H b=none\/∃o xs,H b=some (.frz o (.lst xs))
theorem zeh {P:Program}{w:World}{K:W.Frag}{mg mb:Str->Option Value}{CX:CXT}{k:Nat}{fa a:Addr}{fd:FuncData}{x:Str}{sp:Sp}{s₁:Shared}{vs:List Value}{ns:List Int}
  (KX:K.In s₁.heap) (hns:s₁.heap.Ns mainGlobals mg) (hb:s₁.heap.Ns builtinsNs mb) (hbb:∀x:Str,x≠"__name__"->mb x=bootBuiltins x) (hlim:s₁.heap.NoLimit) (hg:s₁.gens = #[])
  (ha:s₁.heap.get? a=some { cls :=.type "list",data :=.seq vs.toArray }) (hi:IntsAre vs ns) (hl:ns.length<=sizeLine) (hr:Room k callerA)
  (F:∀base:Heap,K.In base->base.Ns mainGlobals mg->FnOk P w K mg base CX k fa fd [x] sp) (hbind:∀(s:Shared) (u:Value),BindsTo s fd ⟨[u],[]⟩ [(x,u)])
  (hsp:∀H:Hp,Only H->SqL K H a (ns.map V.int)->sp [.ref a] H (λv _=>v = .bl true) λ_ _ _=>False)
  (hCX:∀H e s',CX [] H s₁ (λ_ _ _=>False) e s'->False):
  codeAny (model P w) callerA (.call (.ref fa) ⟨[.ref a],[]⟩) (λr s'=>r = .ok (.ret (.bool true))/\OldK s₁.heap s'.heap/\s'.os=s₁.os/\AllBare s'.gens) s₁:=by
 have rv:=z8R hi;have lenV:=hi.length;have core:∀H:Hp,Only H->SqL K H a (ns.map V.int)->HOk P w H s₁.heap->(∀b,H b≠none->b=a)->(H a≠none->K.lookup a=none)->
   codeAny (model P w) callerA (.call (.ref fa) ⟨[.ref a],[]⟩) (λr s'=>r = .ok (.ret (.bool true))/\OldK s₁.heap s'.heap/\s'.os=s₁.os/\AllBare s'.gens) s₁:=by
  intro H hO hS hok hA hK;have base_of:∀{b:Addr}{o:Obj},s₁.heap.get? b=some o->H b=none->(hidT s₁.heap H).get? b=some o:=λe n=>zep e n;have noA:∀{b:Addr}{o:Obj}{es:Array DictEntry}{ep:Nat},s₁.heap.get? b=some o->o.data = .dict es ep->H b=none:=λ{b o es ep} e d=>by
   cases q:H b with
   | none=>rfl
   | some u=>
    have e':b=a:=hA b (by rw[q]; simp);subst e';rw[ha] at e; cases e;have d':Data.seq vs.toArray _=Data.dict es ep:=d
    cases d'
  have nsK:∀{b:Addr}{m:Str->Option Value},s₁.heap.Ns b m->(hidT s₁.heap H).Ns b m:=λ{b m} ⟨o,es,ep,e,d,r⟩=>⟨o,es,ep,base_of e (noA e d),d,r⟩
  have hKb:K.In (hidT s₁.heap H):=λb o e=>base_of (KX b o e) (by
   cases q:H b with
   | none=>rfl
   | some u=>
    have e':b=a:=hA b (by rw[q]; simp);subst e';rw[hK (by rw[q]; simp)] at e; cases e)
  have hM:Mod K mg (hidT s₁.heap H):=⟨hKb,nsK hns,⟨mb,nsK hb,hbb⟩,let ⟨mc,h1,h2⟩:=hlim; ⟨mc,nsK h1,h2⟩⟩
  have e0:Env0 P w K mg (hidT s₁.heap H) callerA [] s₁ H:=⟨rfl,hM,λb o e=>zgi e,Nat.le_of_eq (zcT _ _),trivial,λb hb=>absurd (show b∈([]:List Addr) from hb) (by simp),hok,.of_eq hg⟩
  refine codeAny_mono ((F _ hKb (nsK hns)).run callerA [] s₁ H ⟨[.ref a],[]⟩ [.ref a] [.ref a] _ _ hr e0 (hbind s₁ (.ref a)) (.cons rfl .nil) (hsp H hO hS)) λr s' h =>?_
  cases r with
  | error e=>exact(hCX H e s' h).elim
  | ok fl=>
   cases fl with
   | next=>exact False.elim h
   | brk=>exact False.elim h
   | cont=>exact False.elim h
   | ret u=>
    obtain⟨v,H',os,bare,un,hok',r',q⟩:=h;have q':v = .bl true:=q;subst q';obtain rfl:u=Value.bool true:=r';refine⟨rfl,OldK.of_keep λb o e =>?_,os,bare⟩
    cases q:H b with
    | none=>exact un.keep b o e q (by intro z; exact absurd (show b∈([]:List Addr) from z) (by simp)) (by simp)
    | some u=>
     rcases hO b with z | ⟨ob,xs,z⟩
     ·rw[q] at z; cases z
     ·have z2:=un.frzs b ob _ z;obtain⟨e1,_⟩:=hok b _ z;obtain⟨e2,_⟩:=hok' b _ z2;rw[e] at e1; cases e1;exact e2
 cases hk:K.lookup a with
 | some o=>
  have e:=KX a o hk;rw[ha] at e
  cases e
  refine core (λ_=>none) (λ_ =>.inl rfl) (.inr ⟨_,vs.toArray,_,hk,rfl,rfl,rfl,by rw[List.size_toArray,lenV]; exact hl,by simpa using rv⟩) (λb u z=>by have z':(none:Option HO)=some u:=z; cases z') (λb z=>absurd rfl z) λz=>absurd rfl z
 | none=>
  refine core (λb=>if b=a then some (.frz { cls :=.type "list",data :=.seq vs.toArray } (.lst (ns.map V.int))) else none) (λb =>?_) (.inl (.inr ⟨{ cls :=.type "list",data :=.seq vs.toArray },if_pos rfl⟩)) (λb u z =>?_) (λb z =>?_) λ_=>hk
  ·by_cases hb:b=a
   ·exact .inr ⟨_,_,if_pos hb⟩
   ·exact .inl (if_neg hb)
  ·by_cases hb:b=a
   ·have z':=(if_pos hb).symm.trans z
    cases z'
    subst hb;exact⟨ha,by rw[List.length_map]; exact hl,vs,_,rv,ha⟩
   ·have z':=(if_neg hb).symm.trans z
    cases z'
  ·by_cases hb:b=a
   ·exact hb
   ·exact absurd (if_neg hb) z
end L2
namespace L2
open PySem PySem.Spec PyProof.Rows
theorem zfl {l:PySem.W.OpenLaw}{n k:Nat}{q:Program}{loose:List Str}{XP:(Str->Option Value)->Heap->Prop}{YP:World->Heap->Prop}{d:DefRec}{K:Params->W.Frag}{CX:World->CXT}{sp:World->Sp}{x:Str}
  (hn:l.most=some n) (hn2:n<=sizeLine) (hdf:d.params.defaults=[]) (hr:Room k callerA)
  (hY:∀(w:World) (h:Heap),YP w h->(K w.params).In h)
  (F:∀(w:World) (mg:Str->Option Value) (fa:Addr) (h:Heap),(K w.params).In h->h.Ns mainGlobals mg->mg d.name=some (.ref fa)->
   ∃fd:FuncData,(∀(s:Shared) (u:Value),BindsTo s fd ⟨[u],[]⟩ [(x,u)])/\
    ∀base:Heap,(K w.params).In base->base.Ns mainGlobals mg->FnOk l.prog w (K w.params) mg base (CX w) k fa fd [x] (sp w))
  (hsp:∀(w:World) (H:Hp) (a:Addr) (ns:List Int),ns.length<=n->Only H->SqL (K w.params) H a (ns.map V.int)->sp w [.ref a] H (λv _=>v = .bl true) λ_ _ _=>False)
  (hCX:∀(w:World) (H:Hp) (s:Shared) (e:Value) (s':Shared),CX w [] H s (λ_ _ _=>False) e s'->False):
  PySem.W.WalkO q loose XP YP l.row.toRowW d [] (λf vs=>PySem.call f vs):=by
 refine Att.zah hn hdf λw s₀ s₁ mg mb fa o pm cd doc a vs ns G Y ho hd hcd hmg hobj hints hlen hg =>?_;have KX:=hY w _ Y;obtain⟨fd,hb,hF⟩:=F w mg fa _ KX G.T.g hmg;exact zeh KX G.T.g G.T.b G.T.builtins G.T.nolimit hg hobj hints (Nat.le_trans hlen hn2) hr hF hb (λH hO hS=>hsp w H a ns hlen hO hS) λH e s'=>hCX w H s₁ e s'
end L2
namespace L2
open PySem PySem.Spec PyProof.Rows
noncomputable def z4k (s:Stmt):Arguments:=match s with
 | .FunctionDef _ a _ _ _ _ _ _ _ _=>a
 | _=>{ posonlyargs:=[],args:=[],vararg:=none,kwonlyargs:=[],kw_defaults:=[],kwarg:=none,defaults:=[] }
noncomputable def z3d (s:Stmt):List Stmt:=match s with
 | .FunctionDef _ _ b _ _ _ _ _ _ _=>b
 | _=>[]
noncomputable def z01 (s:Stmt):Scope:=match s with
 | .FunctionDef _ _ _ _ _ _ sc _ _ _=>sc
 | _=>{ kind :=.function,names:=[],isGenerator:=false,isCoroutine:=false }
noncomputable abbrev E0:XK:=λ_ _ _=>False
structure Fun (K:W.Frag)(x qual:Str)(st:Stmt)(f:Addr)(fd:FuncData):Prop where
 ex:∃(oc:Value) (od:Option Addr) (kV doc pm:Value) (an:Option Addr) (cdv ct:Value) (osl:Array (Option Value)),
  fd=PySem.W.fnOf x qual (z4k st) (z3d st) (z01 st) .none kV doc pm an cdv ct/\K.lookup f=some ⟨oc,od,.func fd,osl⟩/\PySem.W.codeIn K cdv qual=true
 kp:PySem.W.keepIn K (.ref f)=true
section
variable {P:Program}{w:World}{K:W.Frag}{mg:Str->Option Value}{base:Heap}
theorem Fun.binds {x qual:Str}{st:Stmt}{f:Addr}{fd:FuncData}{ps:List Str}(F:Fun K x qual st f fd)
  (h:∀(kV doc pm:Value) (an:Option Addr) (cdv ct:Value) (us:List Value),us.length=ps.length->bindArgs (PySem.W.fnOf x qual (z4k st) (z3d st) (z01 st) .none kV doc pm an cdv ct) ⟨us,[]⟩=pure (ps.zip us)):z7L K fd ps []:=by
 obtain⟨oc,od,kV,doc,pm,an,cdv,ct,osl,rfl,lk,hcd⟩:=F.ex;exact .all (h kV doc pm an cdv ct)
theorem zfb {x qual:Str}{st:Stmt}{f:Addr}{oc:Value}{od an:Option Addr}{osl:Array (Option Value)}{kV doc pm cdv ct:Value}(l:K.lookup f=some ⟨oc,od,.func (PySem.W.fnOf x qual (z4k st) (z3d st) (z01 st) .none kV doc pm an cdv ct),osl⟩)
  (c:PySem.W.codeIn K cdv qual=true) (k:PySem.W.keepIn K (.ref f)=true):Fun K x qual st f (PySem.W.fnOf x qual (z4k st) (z3d st) (z01 st) .none kV doc pm an cdv ct):=⟨⟨oc,od,kV,doc,pm,an,cdv,ct,osl,rfl,l,c⟩,k⟩
end
theorem iteF {A B:Prop}(h:B):if false=true then A else B:=by
 rw[if_neg Bool.false_ne_true];exact h
theorem iteT {A B:Prop}(h:A):if true=true then A else B:=by
 rw[if_pos rfl];exact h
noncomputable def Same (H H':Hp):Prop:=∀b o,H b=some o->H' b=some o
theorem Same.seq {K:W.Frag}{H H':Hp}{a:Addr}{xs:List V}(e:Same H H')(h:SqL K H a xs):SqL K H' a xs:=by
 rcases h with (h | ⟨o,h⟩) | h
 ·exact .inl (.inl (e _ _ h))
 ·exact .inl (.inr ⟨o,e _ _ h⟩)
 ·exact .inr h
end L2
set_option maxHeartbeats 4000000
namespace L2
open PySem PySem.Spec PyProof.Rows
open Builtin.Int (intBits)
noncomputable abbrev Bt (n:Nat)(i:Int):Prop:=intBits i<=n
theorem Bt.le {m n:Nat}{i:Int}(h:Bt m i)(q:m<=n:=by decide):Bt n i:=Nat.le_trans h q
theorem z1e {n:Nat}{i:Int}(h:i.natAbs<2 ^ n):Bt n i:=PySem.intBits_le_iff.mpr h
theorem Bt.abs {n:Nat}{i:Int}(h:Bt n i):i.natAbs<2 ^ n:=PySem.intBits_le_iff.mp h
theorem Bt.of_abs {n:Nat}{i j:Int}(h:Bt n j)(q:i.natAbs<=j.natAbs):Bt n i:=PySem.intBits_le_of_natAbs q h
theorem Bt.add {m n:Nat}{i j:Int}(h:Bt m i)(q:Bt n j):Bt (max m n+1) (i+j):=PySem.intBits_add_le h q
theorem Bt.sub {m n:Nat}{i j:Int}(h:Bt m i)(q:Bt n j):Bt (max m n+1) (i - j):=PySem.intBits_sub_le h q
theorem Bt.mul {m n:Nat}{i j:Int}(h:Bt m i)(q:Bt n j):Bt (m+n) (i*j):=PySem.intBits_mul_le h q
theorem Bt.neg {m:Nat}{i:Int}(h:Bt m i):Bt m (-i):=PySem.intBits_neg_le h
noncomputable def zgN (i j:Int):Prop:=Bt 60000000 i/\Bt 60000000 j
noncomputable def zj8 (_ j:Int):Prop:=j≠0/\Bt 9000 j
theorem zcM {j:Int}(h0:j≠0)(h:Bt 9000 j):j.natAbs.log2<9000:=by
 have e:intBits j=j.natAbs.log2+1:=by
  unfold Builtin.Int.intBits;rw[if_neg (by simpa using h0)]
 have h':intBits j<=9000:=h;omega
section
variable {X:Cx}{a b c:Expr}{ta tb tc:TE}{pos:Pos}
theorem zgf:OpR X (binaryOp .Mult) (rI zgN λi j =>.int (i*j)):=opI λ_ _ _ _ _ _ _ hc q=>mul_int q (IntMulOk.of_le hc.1 hc.2 (by decide))
theorem ze2:OpR X (binaryOp .FloorDiv) (rI zj8 λi j =>.int (i.fdiv j)):=opI λ_ _ _ _ _ _ _ hc q=>floordiv_int hc.1 q (.inl (PyProof.noPylong_of_log2 (zcM hc.1 hc.2)))
end
mutual
noncomputable def Rp (K:W.Frag)(H:Hp):PyData->V->Prop
 | .none,v=>v = .non
 | .bool b,v=>v = .bl b
 | .int i,v=>v = .int i
 | .str x,v=>v = .str x
 | .list ds,v=>∃a xs,v = .ref a/\SqL K H a xs/\RpL K H ds xs
 | .tuple ds,v=>∃a xs,v = .ref a/\SqT K H a xs/\RpL K H ds xs
 | .dict _,_=>False
noncomputable def RpL (K:W.Frag)(H:Hp):List PyData->List V->Prop
 | [],xs=>xs=[]
 | d::ds,xs=>∃x r,xs=x::r/\Rp K H d x/\RpL K H ds r
end
theorem Same.seqT {K:W.Frag}{H H':Hp}{a:Addr}{xs:List V}(e:Same H H')(h:SqT K H a xs):SqT K H' a xs:=by
 rcases h with (h | ⟨o,h⟩) | h
 ·exact .inl (.inl (e _ _ h))
 ·exact .inl (.inr ⟨o,e _ _ h⟩)
 ·exact .inr h
mutual
theorem Rp.same {K:W.Frag}{H H':Hp}(e:Same H H'):∀(d:PyData) {v:V},Rp K H d v->Rp K H' d v
 | .none,_,h=>by simpa[Rp] using h
 | .bool _,_,h=>by simpa[Rp] using h
 | .int _,_,h=>by simpa[Rp] using h
 | .str _,_,h=>by simpa[Rp] using h
 | .list ds,_,h=>by
  rw[Rp] at h ⊢;obtain⟨a,xs,h1,h2,h3⟩:=h;exact⟨a,xs,h1,e.seq h2,RpL.same e ds h3⟩
 | .tuple ds,_,h=>by
  rw[Rp] at h ⊢;obtain⟨a,xs,h1,h2,h3⟩:=h;exact⟨a,xs,h1,e.seqT h2,RpL.same e ds h3⟩
 | .dict _,_,h=>by simp[Rp] at h
theorem RpL.same {K:W.Frag}{H H':Hp}(e:Same H H'):∀(ds:List PyData) {xs:List V},RpL K H ds xs->RpL K H' ds xs
 | [],_,h=>by simpa[RpL] using h
 | d::ds,_,h=>by
  rw[RpL] at h ⊢;obtain⟨x,r,h1,h2,h3⟩:=h;exact⟨x,r,h1,Rp.same e d h2,RpL.same e ds h3⟩
end
section
variable {X:Cx}{pins:List (Addr × Obj)}{σ:St}{H:Hp}{s:Shared}
mutual
theorem Rp.reads (I:Inv X pins σ H s):∀(d:PyData) {v:V}{u:Value},Rp X.K H d v->RelV v u->∃as,Reads s.heap u d as
 | .none,v,u,h,r=>by
  rw[Rp] at h; subst h
  cases (show u=Value.none from r); exact⟨_,.none⟩
 | .bool b,v,u,h,r=>by
  rw[Rp] at h; subst h
  cases (show u=Value.bool b from r); exact⟨_,.bool b⟩
 | .int i,v,u,h,r=>by
  rw[Rp] at h; subst h;obtain⟨t,rfl⟩:=(show ∃t,u=Value.int i t from r); exact⟨_,.int i t⟩
 | .str x,v,u,h,r=>by
  rw[Rp] at h; subst h;obtain⟨t,rfl⟩:=(show ∃t,u=Value.str x t from r); exact⟨_,.str x t⟩
 | .list ds,v,u,h,r=>by
  rw[Rp] at h;obtain⟨a,xs,rfl,h2,h3⟩:=h
  cases (show u=Value.ref a from r)
  obtain⟨its,hv,⟨o,n,e,hc,_,hd⟩,_⟩:=I.list h2;obtain⟨as,q⟩:=RpL.reads I ds h3 hv;exact⟨_,.list e hc hd (by simpa using q)⟩
 | .tuple ds,v,u,h,r=>by
  rw[Rp] at h;obtain⟨a,xs,rfl,h2,h3⟩:=h
  cases (show u=Value.ref a from r)
  obtain⟨its,hv,⟨o,e,hc,n,hd⟩,_⟩:=I.tuple h2;obtain⟨as,q⟩:=RpL.reads I ds h3 hv;exact⟨_,.tuple e hc hd (by simpa using q)⟩
 | .dict _,v,u,h,r=>by simp[Rp] at h
theorem RpL.reads (I:Inv X pins σ H s):∀(ds:List PyData) {xs:List V}{us:List Value},RpL X.K H ds xs->Vals xs us->∃as,ReadsAll s.heap us ds as
 | [],xs,us,h,r=>by
  rw[RpL] at h; subst h
  cases r; exact⟨_,.nil⟩
 | d::ds,xs,us,h,r=>by
  rw[RpL] at h;obtain⟨x,t,rfl,h2,h3⟩:=h
  cases r with
  | cons r1 r2=>
   obtain⟨as,q⟩:=Rp.reads I d h2 r1;obtain⟨bs,q'⟩:=RpL.reads I ds h3 r2;exact⟨_,.cons q q'⟩
end
end
section
variable {X:Cx}
noncomputable def rEqD (K:W.Frag)(neg:Bool):R2:=λx y H Q=>∃d e,Rp K H d x/\Rp K H e y/\PySem.SeqAt.shaped d=true/\PySem.SeqAt.shaped e=true/\Q (.bl (if neg then !PyData.eqv d e else PyData.eqv d e)) H
theorem zie (hu:X.A.units+64<cLine):OpR X (compareOp .Eq) (rEqD X.K false):=by
 intro pins s σ H x y v u Q I rx ry h;obtain⟨d,e,h1,h2,h3,h4,q⟩:=h;obtain⟨as,r1⟩:=Rp.reads I d h1 rx;obtain⟨bs,r2⟩:=Rp.reads I e h2 ry;exact eq_dataH r1 r2 h3 h4 hu ⟨.bl (PyData.eqv d e),H,I,rfl,q⟩
theorem zi9 (hu:X.A.units+64<cLine):OpR X (compareOp .NotEq) (rEqD X.K true):=by
 intro pins s σ H x y v u Q I rx ry h;obtain⟨d,e,h1,h2,h3,h4,q⟩:=h;obtain⟨as,r1⟩:=Rp.reads I d h1 rx;obtain⟨bs,r2⟩:=Rp.reads I e h2 ry;exact ne_dataH r1 r2 h3 h4 hu ⟨.bl (!PyData.eqv d e),H,I,rfl,q⟩
end
structure Cal (P:Program)(w:World)(K:W.Frag)(mg:Str->Option Value)(base:Heap)(CX:CXT)(k:Nat)(x:Str)(ps:List Str)(sp:Sp):Prop where
 ex:∃f fd,FnOk P w K mg base CX k f fd ps sp/\mg x=some (.ref f)/\PySem.W.keepIn K (.ref f)=true/\z7L K fd ps []
section
variable {X:Cx}{CX:CXT}{k:Nat}{ps:List Str}{sp:Sp}{E:XK}{x:Str}{p pos:Pos}{e:Expr}{es:List Expr}{t:TA}
theorem zjz (C:Cal X.prog X.w X.K X.mg X.base CX k x ps sp)(hr:Room k X.A)(hx:z6f CX X E)(ha:PA X (e::es) t)(hg:Gl X x:=by rfl)
  (hdb:(x == ("__debug__":Str))=false:=by decide) (he:starEach (e::es) X.env=(false,eval e X.env)::starEach es X.env:=by rfl) (hpl:(backTo pos (starEach es X.env)).any (·.1)=false:=by rfl):
  PE X (.Call (.Name x p) (e::es) [] pos) (zfw sp [] E t):=by
 obtain⟨f,fd,F,hm,hk,hb⟩:=C.ex;exact zg7 F hr hg hm hk hb .nil hx ha hdb he hpl
end
end L2
namespace L2
open PySem PySem.Spec PyProof.Rows
section
variable {P:Program}{w:World}{H:Hp}{h h':Heap}{a:Addr}{o:HO}
theorem HOk.track (x:HOk P w H h)(hn:H a=none)(new:z1W P w (upd H a o) h a o):HOk P w (upd H a o) h:=λb u e=>by
 by_cases hb:b=a
 ·subst hb; rw[z0t] at e; cases e; exact new
 ·rw[z0f hb] at e;exact(x b u e).stay (λc v _ q=>q) (λc q=>by rw[z0f (z0D q hn)]; exact q) λc xs q=>by rw[z0f (z0D q hn)]; exact q
theorem HOk.other (x:HOk P w H h)(hn:H a=none)(k:∀b u,b≠a->h.get? b=some u->h'.get? b=some u):HOk P w H h':=λb u e=>by
 have nit:∀c v,H c=some v->c≠a:=λc v q z=>by rw[z,hn] at q; cases q
 refine(x b u e).stay (λc v hc q=>k c v ?_ q) (λ_ q=>q) λ_ _ q=>q
 rcases hc with z | z
 ·rw[z]; exact nit b u e
 ·exact nit c _ z
end
end L2
namespace Mth
end Mth
namespace L2
open PySem PySem.Spec PyProof.Rows
theorem zb2 {i:Int}(h1 : -(2 ^ 64)<i)(h2:i<2 ^ 64):Bt 9000 i:=Nat.le_trans (PySem.intBits_le_64 h1 h2) (by decide)
theorem bt_k {i:Int}(h:i.natAbs<2 ^ 640):Bt 640 i:=z1e h
theorem bt_n {i:Int}(h0:0<=i)(h:i<2 ^ 640):Bt 640 i:=z1e (by omega)
theorem z0B {H:Hp}{p:Addr}(h:H p=none)(o:HO):Same H (upd H p o):=λb u q=>by rw[z0f (z0D q h)]; exact q
theorem PE.imp {X:Cx}{e:Expr}{t t':TE}(h:PE X e t)(i:∀σ H Q,t' σ H Q->t σ H Q):PE X e t':=λpins s σ H Q I q=>h pins s σ H Q I (i σ H Q q)
theorem OpR.imp {X:Cx}{f:Value->Value->Sem Value}{r r':R2}(h:OpR X f r)(i:∀x y H Q,r' x y H Q->r x y H Q):OpR X f r':=λpins s σ H x y v u Q I rx ry q=>h pins s σ H x y v u Q I rx ry (i x y H Q q)
section
variable {X:Cx}{es:List Expr}{t:TA}{pos:Pos}
theorem SlR.imp {r r':V->Option Int->Option Int->Hp->VK->Prop}(h:SlR X r)(i:∀x lo hi H Q,r' x lo hi H Q->r x lo hi H Q):SlR X r':=by
 unfold SlR at h ⊢
 intros
 apply h
 all_goals first | assumption | (apply i; assumption)
end
end L2
namespace L2
open PySem PySem.Spec PyProof.Rows
end L2
namespace L2
open PySem PySem.Spec PyProof.Rows
structure QE (X:Cx)(e:Expr)(t:TE):Prop where
 p:PE X e t
structure QT (X:Cx)(e:Expr)(t:TT):Prop where
 p:PT X e t
structure QW (X:Cx)(e:Expr)(t:TT):Prop where
 p:PW X e t
structure QA (X:Cx)(es:List Expr)(t:TA):Prop where
 p:PA X es t
structure QS (X:Cx)(st:Stmt)(t:TS):Prop where
 p:PS X st t
structure QSs (X:Cx)(st:List Stmt)(t:TS):Prop where
 p:PSs X st t
structure QG (X:Cx)(e:Expr)(t:TG):Prop where
 p:PG X e t
structure QGs (X:Cx)(es:List Expr)(t:TGs):Prop where
 p:PGs X es t
structure QI (X:Cx)(tg e:Expr)(t:TI):Prop where
 p:PI X tg e t
structure QO (X:Cx)(e:Option Expr)(t:TO):Prop where
 p:PO X e t
section
variable {X:Cx}{a b c e f o:Expr}{ta tb tc te:TE}{pos pos2 p2:Pos}{tA tB':TT}{rest:List Expr}{es:List Expr}{aa:TA}
theorem zhG {i j pos}:QE X (.Constant (.int i) j pos) (tC (.int i)):=⟨zhZ⟩
theorem zjt {i j pos}:QE X (.Constant (.bool i) j pos) (tC (.bl i)):=⟨zjB⟩
theorem zhD {j pos}:QE X (.Constant .none j pos) (tC .non):=⟨zhW⟩
theorem qv (i:Nat){x:Str}{pos:Pos}(hN:X.N[i]? = some x:=by rfl)(hv:Vis X.env.scope x:=by first | exact Or.inl rfl | exact Or.inr (Or.inl rfl) | exact Or.inr (Or.inr rfl))(hd:(x == ("__debug__":Str))=false:=by decide)
  (hcd:(x == ("__classdict__":Str))=false:=by decide):QE X (.Name x pos) (tVar i):=⟨zeV hN hv hd hcd⟩
theorem zhB {op:Operator}{r:R2}(ho:OpR X (binaryOp op) r)(ha:QE X a ta)(hb:QE X b tb):QE X (.BinOp a op b pos) (tOp r ta tb):=⟨zjx ho ha.p hb.p⟩
theorem zjq {op:UnaryOp}{r:V->Hp->VK->Prop}(ho:UnR X (unaryOp op) r)(ha:QE X a ta):QE X (.UnaryOp op a pos) (tUn r ta):=⟨zjw ho ha.p⟩
theorem zhC {op}{t:TE}(h:QE X a t):QE X (.BoolOp op [a] pos) t:=⟨zhV h.p⟩
theorem zhJ (ha:QE X a ta)(hb:QE X (.BoolOp .And (b::rest) pos) tb):QE X (.BoolOp .And (a::b::rest) pos) (zh2 ta tb):=⟨zi1 ha.p hb.p⟩
theorem zfS {op:CmpOp}{r:R2}(ho:OpR X (compareOp op) r)(ha:QE X a ta)(hb:QE X b tb)(hm:behindInMarks op b=false):QE X (.Compare a [op] [b] pos) (tOp r ta tb):=⟨zg6 ho ha.p hb.p hm⟩
theorem zfK {op:CmpOp}{r:R2}(ho:OpR X (compareOp op) r)(ha:QE X a ta)(hb:QE X b tb)(hm:behindInMarks op b=false):QT X (.Compare a [op] [b] pos) (zfv (tOp r ta tb)):=⟨zfU ho ha.p hb.p hm⟩
theorem zhv {t:TE}(h:QE X e t)(he:∀whole,isTrue e X.env whole=(do let v <- whole; standAt e.pos; holding [v] (truthy v)):=by intro _; rfl):QT X e (tB t):=⟨zhM h.p he⟩
theorem zhw (ha:QT X a tA):QT X (.UnaryOp .Not a pos) (tNot tA):=⟨zhN ha.p⟩
theorem zfJ (ha:QT X a tA):QW X (.BoolOp .And [a] pos) tA:=⟨zfT ha.p⟩
theorem zht (ha:QT X a tA):QW X (.BoolOp .Or [a] pos) tA:=⟨zhK ha.p⟩
theorem zhu (ha:QT X a tA)(hb:QW X (.BoolOp .And (b::rest) pos) tB'):QW X (.BoolOp .And (a::b::rest) pos) (tAnd tA tB'):=⟨zhL ha.p hb.p⟩
theorem zjn (ha:QT X a tA)(hb:QW X (.BoolOp .Or (b::rest) pos) tB'):QW X (.BoolOp .Or (a::b::rest) pos) (tOr tA tB'):=⟨zju ha.p hb.p⟩
theorem QW.pt {t:TT}(h:QW X e t):QT X e t:=⟨h.p.pt⟩
theorem z4U {x:Str}{v:V}{u:Value}(hg:Gl X x)(hm:X.mg x=none)(hv:bootBuiltins x=some u)(r:RelV v u)(hn:x≠"__name__":=by decide)(hd:(x == ("__debug__":Str))=false:=by decide):QE X (.Name x pos) (tC v):=⟨zg8 hg hm hv r hn hd⟩
theorem z94:QA X [] tNil:=⟨zi2⟩
theorem z5G (ha:QE X e te)(hr:QA X es aa)(hs:starEach (e::es) X.env=(false,eval e X.env)::starEach es X.env:=by rfl):QA X (e::es) (zh0 te aa):=⟨zg9 ha.p hr.p hs⟩
theorem zjs {CX:CXT}{k:Nat}{ps:List Str}{sp:Sp}{E:XK}{x:Str}{pp:Pos}(C:Cal X.prog X.w X.K X.mg X.base CX k x ps sp)(hr:Room k X.A)(hx:z6f CX X E)(ha:QA X (e::es) aa)(hg:Gl X x:=by rfl)
  (hdb:(x == ("__debug__":Str))=false:=by decide) (he:starEach (e::es) X.env=(false,eval e X.env)::starEach es X.env:=by rfl) (hpl:(backTo pos (starEach es X.env)).any (·.1)=false:=by rfl):QE X (.Call (.Name x pp) (e::es) [] pos) (zfw sp [] E aa):=⟨zjz C hr hx ha.p hg hdb he hpl⟩
theorem z6s {x:Str}{pp:Pos}{id:String}{r:List V->Hp->VK->Prop}(hc:z1l X (.builtin id) r)(hg:Gl X x)(hm:X.mg x=none)(hv:bootBuiltins x=some (.builtin id))(ha:QA X (e::es) aa)(hn:x≠"__name__":=by decide)(hdb:(x == ("__debug__":Str))=false:=by decide)
  (he:starEach (e::es) X.env=(false,eval e X.env)::starEach es X.env:=by rfl) (hpl:(backTo pos (starEach es X.env)).any (·.1)=false:=by rfl):QE X (.Call (.Name x pp) (e::es) [] pos) (tCB r aa):=⟨zdY hc hg hm hv ha.p hn hdb he hpl⟩
theorem z58 {x:Str}{pp:Pos}{id:String}{r:List V->Hp->VK->Prop}(hc:z1l X (.type id) r)(hg:Gl X x)(hm:X.mg x=none)(hv:bootBuiltins x=some (.type id))(ha:QA X (e::es) aa)(hn:x≠"__name__":=by decide)(hdb:(x == ("__debug__":Str))=false:=by decide)
  (he:starEach (e::es) X.env=(false,eval e X.env)::starEach es X.env:=by rfl) (hpl:(backTo pos (starEach es X.env)).any (·.1)=false:=by rfl):QE X (.Call (.Name x pp) (e::es) [] pos) (tCB r aa):=⟨zcs hc hg hm hv ha.p hn hdb he hpl⟩
theorem zjr {r:R2}(hr:IxR X r)(ha:QE X a ta)(hb:QE X b tb)(hs:zak b):QE X (.Subscript a b pos) (tOp r ta tb):=⟨zjy hr ha.p hb.p hs⟩
theorem zfP:QO X none zbX:=⟨zg0⟩
theorem zfO (h:QE X e te):QO X (some e) (zgX te):=⟨zfZ h.p⟩
theorem zdP {r:V->Option Int->Option Int->Hp->VK->Prop}{lo hi:Option Expr}{tl th:TO}(hr:SlR X r)(he:QE X e te)(hl:QO X lo tl)(hu:QO X hi th):QE X (.Subscript e (.Slice lo hi none p2) pos) (tSl r te tl th):=⟨zdW hr he.p hl.p hu.p⟩
theorem zhH {T id:String}{name:Str}{apos cpos:Pos}{r:V->List V->Hp->VK->Prop}(pa:PlainAttrs T)(slot:Slot T name id)(hty:typeOf (.builtin id)=pure (.type "method_descriptor"))(hm:MtR X id r)(ho:QE X o te)
  (hbase:attributeBase o name X.env (eval o X.env)=eval o X.env:=by rfl) (hline:(apos.endLine == cpos.line)=true:=by rfl):QE X (.Call (.Attribute o name apos) [] [] cpos) (tBM0 X.K T r te):=⟨zi0 pa slot hty hm ho.p hbase hline⟩
theorem zhI {T id:String}{name:Str}{apos cpos:Pos}{r:V->List V->Hp->VK->Prop}(pa:PlainAttrs T)(slot:Slot T name id)(hty:typeOf (.builtin id)=pure (.type "method_descriptor"))(hm:MtR X id r)(ho:QE X o te)(ha:QA X (e::es) aa)
  (hbase:attributeBase o name X.env (eval o X.env)=eval o X.env:=by rfl)
  (hfew:((backTo cpos (starEach (e::es) X.env)).all (λx => !x.1) && (backToKw cpos (keywordEach [] X.env)).all (λx=>x.1.isSome)
   && decide ((e::es).length+([]:List Keyword).length+(if ([]:List Keyword).isEmpty then 0 else 1)<30))=true:=by rfl)
  (hline:(apos.endLine == cpos.line)=true:=by rfl) (hs:starEach (e::es) X.env=(false,eval e X.env)::starEach es X.env:=by rfl) (hplain:(backTo cpos (starEach es X.env)).any (·.1)=false:=by rfl):
  QE X (.Call (.Attribute o name apos) (e::es) [] cpos) (tBM X.K T r te aa):=⟨zjA pa slot hty hm ho.p ha.p hbase hfew hline hs hplain⟩
end
section
variable {X:Cx}{st:Stmt}{rest body a b:List Stmt}{t u tb:TS}{e tg c iter:Expr}{te:TE}{tc:TT}{pos:Pos}{g:TG}{wi:TI}{aa:TA}
theorem zfM:QSs X [] zgY:=⟨zfW⟩
theorem zdM (h1:QS X st t)(h2:QSs X rest u):QSs X (st::rest) (tSeq t u):=⟨zdR h1.p h2.p⟩
theorem zfL (h1:QS X st t):QSs X [st] t:=⟨zfV h1.p⟩
theorem zhx (he:QE X e te):QS X (.Return (some e) pos) (tRet te):=⟨zhP he.p⟩
theorem z9S (he:QE X e te)(hs:swapsWith e none pos.line X.env=pure false:=by rfl):QS X (.Expr e pos) (zgZ te):=⟨zfX he.p hs⟩
theorem zjo (hc:QT X c tc)(ha:QSs X a t)(hb:QSs X b u):QS X (.If c a b pos) (tIfS tc t u):=⟨zjv hc.p ha.p hb.p⟩
theorem zdN (hp:PassesOwn (model X.prog X.w) X.A X.env X.xe)(hc:QT X c tc)(hb:QSs X body tb):QS X (.While c body [] pos) (zeJ tc tb):=⟨zdS hp hc.p hb.p⟩
theorem zeT (hp:PassesOwn (model X.prog X.w) X.A X.env X.xe)(hc:X.calm=true)(hi:QI X tg iter wi)(hg:QG X tg g)(hb:QSs X body tb)
  (hs:∀x,foldedSetIterable iter X.env x=pure x:=by intro _; rfl):QS X (.For tg iter body [] pos) (tFor wi g tb):=⟨zhR hp hc hi.p hg.p hb.p hs⟩
theorem zfQ:QGs X [] gNil:=⟨zg4⟩
theorem zaz {es:List Expr}{t:TG}{u:TGs}(h1:QG X e t)(h2:QGs X es u)
  (hs:(assignEach (e::es) X.env).map (·.2)=assign e X.env::(assignEach es X.env).map (·.2):=by rfl):QGs X (e::es) (zeu t u):=⟨zdV h1.p h2.p hs⟩
theorem zhA {es:List Expr}{k:Nat}{t:TGs}{n:Nat}(hc:X.calm=true)(h:QGs X es t)
  (hn:(assignEach es X.env).length=n:=by rfl) (hst:(assignEach es X.env).findIdx? (·.1)=none:=by rfl):QG X (.Tuple es k pos) (gTup X.K n t):=⟨zhT hc h.p hn hst⟩
theorem z93 {a:Expr}{p:Pos}(hg:Gl X "range")(hm:X.mg "range"=none)(ha:QA X [a] aa)(hs:starEach [a] X.env=[(false,eval a X.env)]:=by rfl):QI X tg (.Call (.Name "range" p) [a] [] pos) (ziW aa):=⟨zcp hg hm ha.p hs⟩
end
end L2
namespace Mth
end Mth
namespace L2
open PySem PySem.Spec PyProof.Rows
end L2
namespace Mth
end Mth
namespace L2
open PySem PySem.Spec PyProof.Rows
structure Fly (P:Program)(w:World)(outer:List Env)(H:Hp)(h0:Heap)(Cv:Value)(H':Hp)(ea t:Addr)(B h:Heap):Prop where
 fl:Heap.FlyingW B outer ea Cv (.ref t) h
 un:Un (frs outer) [] H H' h0 h
 hok:HOk P w H' h
 trk:∀b o,H' b=some o->∃ob,B.get? b=some ob
 kep:∀b o,h0.get? b=some o->b ∉ frs outer->∃ob,B.get? b=some ob
noncomputable def CXe (P:Program)(w:World):CXT:=λouter H s E e s'=>∃(ea t:Addr) (Cv:Value) (H':Hp) (B:Heap),e = .ref ea/\Fly P w outer H s.heap Cv H' ea t B s'.heap/\AllBare s'.gens/\s'.os=s.os/\E Cv none H'
section
variable {P:Program}{w:World}{outer:List Env}{H H':Hp}{h0 h h2:Heap}{Cv:Value}{ea t:Addr}{B:Heap}
theorem z1W.there {a:Addr}{o:HO}(x:z1W P w H h a o):∃ob,h.get? a=some ob:=by
 cases o with
 | lst xs=>obtain⟨_,_,_,_,e⟩:=x; exact⟨_,e⟩
 | tup xs=>obtain⟨_,_,_,ob,e,_⟩:=x; exact⟨_,e⟩
 | dK kvs=>obtain⟨_,_,_,_,o,_,_,e,_⟩:=x; exact⟨_,e⟩
 | dT kvs=>obtain⟨_,_,_,_,o,_,_,e,_⟩:=x; exact⟨_,e⟩
 | set S n=>obtain⟨o,_,_,_,e,_⟩:=x; exact⟨_,e⟩
 | ins C dx fs=>obtain⟨_,_,_,e,_⟩:=x; exact⟨_,e⟩
 | own y=>obtain⟨_,e⟩:=x; exact⟨_,e⟩
 | xd fs=>obtain⟨_,⟨_,_,_,e,_⟩,_⟩:=x; exact⟨_,e⟩
 | rng lo hi=>obtain⟨_,_,_,e⟩:=x; exact⟨_,e⟩
 | frz ob u=>obtain⟨e,_⟩:=x; exact⟨_,e⟩
 | tbl ps=>exact⟨_,(show h.get? a=some _ from x)⟩
 | met f y=>exact⟨_,(show h.get? a=some _ from x)⟩
 | ext φ=>obtain⟨_,⟨_,e⟩,_⟩:=x; exact⟨_,e⟩
end
section
variable {P:Program}{w:World}{K:W.Frag}{mg:Str->Option Value}{base:Heap}{N:List Str}{qual:Str}{sc:Scope}{f:Addr}{cdv:Value}{A:Around}{outer:List Env}{s:Shared}{H:Hp}{E:XK}
theorem Fun.okN {x:Str}{st:Stmt}{fd:FuncData}{ps:List Str}{k:Nat}{sp:Sp}(F:Fun K x qual st f fd)(S:z0p N ps (z01 st))(len:∀vs H Q E,sp vs H Q E->vs.length=ps.length)
  (hbody:∀(cdv:Value) (A:Around) (outer:List Env) (s:Shared) (H:Hp) (vs:List V) (Q:VK) (E:XK),Room k (A.deeper (envOfC qual (z01 st) s.heap.objs.size f cdv))->sp vs H Q E->
   ∃t,QSs ((cxOf (CXe P w) P w K mg base N qual (z01 st) f cdv A outer s H E).wish λ_ _=>False) (z3d st) t/\t { nx:=λ_ H'=>Q .non H',rt:=Q } (z1Z N vs) H):FnOk P w K mg base (CXe P w) (k+1) f fd ps sp:=by
 obtain⟨oc,od,kV,doc,pm,an,cdv,ct,osl,rfl,lk,hcd⟩:=F.ex;refine zjW lk hcd S len λA outer s H vs Q E hr hsp =>?_;obtain⟨t,h,q⟩:=hbody cdv A outer s H vs Q E hr hsp;exact⟨t,h.p.nox,q⟩
theorem z0b {X:Cx}:z6f (CXe P w) X E0:=λ_ _ _ _ _ _ _ ⟨_,_,_,_,_,_,_,_,_,q⟩=>q.elim
end
end L2
namespace L2
open PySem PySem.Spec PyProof.Rows
end L2
namespace L2
open PySem PySem.Spec PyProof.Rows
noncomputable def zkf (a C:Addr)(h:Heap):Prop:=∃o,h.get? a=some o/\o.cls = .ref C/\∃vs,o.data = .fields vs
end L2
namespace L2
open PySem PySem.Spec PyProof.Rows
end L2
namespace L2
open PySem PySem.Spec PyProof.Rows
end L2
namespace L2
open PySem PySem.Spec PyProof.Rows
end L2
namespace L2
open PySem PySem.Spec PyProof.Rows
open Builtin.Str
section
variable {X:Cx}
noncomputable def zjk:List V->Hp->VK->Prop:=λxs H Q=>∃x n,xs=[.str x]/\PySem.intText? x=some n/\x.length<=640/\Q (.int n) H
theorem zdj:z1l X (.type "int") zjk:=by
 intro pins s σ H xs us Q I r h;obtain⟨x,n,rfl,hn,hl,q⟩:=h;obtain⟨u,rfl,t,rfl⟩:=z6y r;exact PySem.W.KIN.call_text hn hl ⟨.int n,H,I.tok _,⟨_,rfl⟩,q⟩
noncomputable def rSlS:V->Option Int->Option Int->Hp->VK->Prop:=λx lo hi H Q=>∃y,x = .str y/\y.length<=sizeLine/\Q (.str (Txt.slice y lo hi)) H
theorem zh5:SlR X rSlS:=by
 intro pins s σ H x v vl vu lo hi sl Q I rx hs pl pu h;obtain⟨y,rfl,hz,q⟩:=h;obtain⟨t,rfl⟩:=rx;refine⟨"str",_,F.slot_str_getitem.lookup,typeIs_str _ _ _,?_⟩;obtain⟨o,ho,hc,hd⟩:=hs;have fin:∀(l u:Option (Int × Tok)),l.map (·.1)=lo->u.map (·.1)=hi->vl=partValue l->vu=partValue u->wpAny (model X.prog X.w) X.A (getItem (.str y t) (.ref sl)) (EP X pins σ Q) X.xe s:=λl u e1 e2 e3 e4=>by
  subst e1 e2 e3 e4;exact wpAny_getItem_str_slice (l:=l) (u:=u) (st:=none) ⟨o,ho,hc,hd⟩ rfl (post_val_or_str ⟨Nat.le_trans (Txt.slice_le y _ _) hz,λt' k=>⟨.str _,H,I.tok k,⟨t',rfl⟩,q⟩⟩)
 cases pl with
 | none=>
  cases pu with
  | none=>exact fin none none rfl rfl rfl rfl
  | int j u=>exact fin none (some (j,u)) rfl rfl rfl rfl
 | int i w=>
  cases pu with
  | none=>exact fin (some (i,w)) none rfl rfl rfl rfl
  | int j u=>exact fin (some (i,w)) (some (j,u)) rfl rfl rfl rfl
noncomputable def Its (x:Str):It:=⟨λi _=>i<x.cps.size,λi H v H'=>H'=H/\∃c,x.cps[i]? = some c/\v = .str ⟨#[c]⟩,λi _=>x.cps.size<=i⟩
theorem zao {P:Program}{w:World}{K:W.Frag}{tg:Expr}(x:Str)(t:Tok)(it:Addr){ty:String}(hty:["enumerate","zip","dict_itemiterator","dict_reverseitemiterator","odict_iterator","itertools.zip_longest","itertools.pairwise"].contains ty=false)
  (W:∀A':Around,A'.handled=none->Walks P w A' it [it] [it] x.cps.size (SignAt x) (λi h=>h.IsStrIter it ty x t i)) (hs:∀(A:Around) (i:Nat) (s:Shared) (Q:Value->Shared->Prop) (E:Value->Shared->Prop),s.heap.IsStrIter it ty x t i->Q (.ref it) s->wpAny (model P w) A (pyIter (.ref it)) Q E s):
  Turn P w K tg (Its x) [it] it (λi h=>i<=x.cps.size/\h.IsStrIter it ty x t i) where
 mem:=by simp
 obj:=λi h st b hb=>by
  have e:b=it:=by simpa using hb
  subst e;obtain⟨_,o,e,c,d⟩:=st;exact⟨o,e,λv z=>by rw[d] at z; cases z⟩
 keep:=λi h h' st k=>⟨st.1,(W { } rfl).frame i h h' st.2 k⟩
 item:=by
  intro X hP hw hK hc i pins s σ H E I hf st hg;subst hP hw hK;obtain⟨f0,f1,f2,f3,f4,f5⟩:=hf it (by simp);refine(W X.A (I.ok.hd hc)).item i s _ _ hg st.2 λv h' tk hv st' kk =>?_;obtain⟨c,u,hc',rfl⟩:=hv;have I1:Inv X pins σ H { s with heap:=h',toks:=tk }:=I.turned (λb o hb e=>kk b o (by simpa using hb) e) f0 f1 f3 f4 f5;obtain⟨o,e1,e2,e3⟩:=id st';exact⟨_,rfl,zeq (s:={ s with heap:=h',toks:=tk }) e1 e2 e3 hty ⟨.str ⟨#[c]⟩,H,I1,⟨u,rfl⟩,⟨rfl,c,hc',rfl⟩,⟨hg,st'⟩,λb hb=>(hf b hb).1⟩⟩
 done:=by
  intro X hP hw hK hc i pins s σ H E I hf st hg;subst hP hw hK;obtain⟨f0,f1,f2,f3,f4,f5⟩:=hf it (by simp);have e:i=x.cps.size:=Nat.le_antisymm st.1 hg;subst e;exact(W X.A (I.ok.hd hc)).done s _ _ st.2 λh' tk kk=>⟨rfl,I.turned (λb o hb e=>kk b o (by simpa using hb) e) f0 f1 f3 f4 f5⟩
 self:=λA i s Q E st h=>hs A i s Q E st.2 h
variable {tg:Expr}
theorem zhE {es:List Expr}{aa:TA}{pos:Pos}(h:QA X es aa):QE X (.List es pos) (tLst aa):=⟨zhX h.p⟩
theorem z7z:MtR X "list.append" zcb:=zcE
end
end L2
namespace Tx
open PySem PySem.NumText PyProof.Rows L2
end Tx
namespace Tx
open PySem PySem.NumText PyProof.Rows L2
end Tx
namespace Tx
open PySem PySem.NumText PyProof.Rows L2
end Tx
namespace L2
open PySem PySem.Spec PyProof.Rows Tx
end L2
namespace L2
open PySem PySem.Spec PyProof.Rows
end L2
namespace Tx
open PySem PySem.NumText PyProof.Rows L2
open Builtin.Str
end Tx
namespace L2
open PySem PySem.Spec PyProof.Rows Tx
end L2
namespace L2
open PySem PySem.Spec PyProof.Rows Tx
end L2
namespace Tx
open PySem PySem.NumText PyProof.Rows L2
end Tx
namespace L2
open PySem PySem.Spec PyProof.Rows Tx
end L2
namespace Mth
end Mth
namespace L2
open PySem PySem.Spec PyProof.Rows
section
variable {prog:Program}{w:World}{A:Around}{R:Result->Shared->Prop}{s:Shared}
noncomputable def zeF (M:Model)(A:Around)(ct:Option Expr)(env:Env)(Q:Bool->Shared->Prop)(E:Value->Shared->Prop)(s:Shared):Prop:=
 match ct with
 | none=>Q true s
 | some c=>wpAny M A (isTrue c env (eval c env)) Q E s
theorem z6c {elt target iter:Expr}{ct:Option Expr}{scope:Scope}{pos:Pos}{it acc:Value}{env:Env}(I:Nat->Shared->Prop)
  (turn:∀n s,I n s->wpAny (model prog w) A (pyNext it) (λr s1=>match r with
   | none=>R (.ok .next) s1
   | some v=>wpAny (model prog w) A (letOwnedTupleGo target it v) (λ_ s5=>wpAny (model prog w) A (assign target env v) (λ_ s2=>zeF (model prog w) A ct env (λok s3=>if ok=true then wpAny (model prog w) A (eval elt env) (λx s4=>
     wpAny (model prog w) A (call (.builtin "list.append") [acc,x]) (λ_ s6=>∃m,m<n/\I m s6) (notedBy (model prog w) A env λe s'=>R (.error e) s') s4)
     (notedBy (model prog w) A env λe s'=>R (.error e) s') s3 else ∃m,m<n/\I m s3) (notedBy (model prog w) A env λe s'=>R (.error e) s') s2) (notedBy (model prog w) A env λe s'=>R (.error e) s') s5) (notedBy (model prog w) A env λe s'=>R (.error e) s') s1) (notedBy (model prog w) A env λe s'=>R (.error e) s') s)
  (n:Nat) (h:I n s):
  codeAny (model prog w) A (.compLoop (.ListComp elt [⟨target,iter,ct.toList,0⟩] scope pos) 0 it acc env) R s:=by
 refine codeAny_loop rfl I (λn s hI =>?_) n h;show wpAny _ _ ((compTurn (.ListComp elt [⟨target,iter,ct.toList,0⟩] scope pos) 0 it acc env).onRaise (λx=>do noteFrame x env; theTreesLotGoes x)) _ _ s;refine wpAny_noted ?_;rw[compTurn_list];refine wpAny_bind (wpAny_standAt (wpAny_bind (wpAny_mono (turn n s hI) (λr s1 h1 =>?_) λ_ _ h'=>h')))
 cases r with
 | none=>exact wpAny_pure h1
 | some v=>
  refine wpAny_bind (wpAny_mono h1 (λ_ s5 h5 =>?_) λ_ _ h'=>h');refine wpAny_bind (wpAny_mono h5 (λ_ s2 h2 =>?_) λ_ _ h'=>h')
  cases ct with
  | none=>
   refine wpAny_bind (wpAny_mono (wpAny_tests_nil (Q:=λok s3=>ok=true/\s3=s2) ⟨rfl,rfl⟩) (λok s3 h3 =>?_) λ_ _ h'=>h');obtain⟨rfl,rfl⟩:=h3;have h2':=h2;simp only[zeF,if_true] at h2';exact wpAny_bind (wpAny_bind (wpAny_mono h2' (λx s4 h4=>wpAny_bind (wpAny_mono h4 (λ_ s6 h6=>wpAny_pure (wpAny_pure ⟨rfl,h6⟩)) λ_ _ h'=>h')) λ_ _ h'=>h'))
  | some c=>
   refine wpAny_bind (wpAny_tests_one (wpAny_mono (show wpAny (model prog w) A (isTrue c env (eval c env)) _ _ _ from h2) (λokb s3 h3 =>?_) λ_ _ h'=>h'))
   cases okb with
   | false=>exact wpAny_pure ⟨rfl,by simpa using h3⟩
   | true=>
    have h3':=h3;simp only[if_true] at h3';exact wpAny_bind (wpAny_bind (wpAny_mono h3' (λx s4 h4=>wpAny_bind (wpAny_mono h4 (λ_ s6 h6=>wpAny_pure (wpAny_pure ⟨rfl,h6⟩)) λ_ _ h'=>h')) λ_ _ h'=>h'))
end
noncomputable def z3T (env:Env)(names:List (Str × NameKind))(acc:List (Str × Addr)):List (Str × Addr):=names.foldl (λc x=>if x.2 == .free then (x.1,(env.cells.lookup x.1).getD 0)::c else c) acc
theorem z7X {α β:Type}{f:α->β->Sem (ForInStep β)}{g:α->β->β}:∀(l:List α) (b:β),(∀x∈l,∀c,f x c=pure (.yield (g x c)))->forIn l b f=(pure (l.foldl (λc x=>g x c) b):Sem β)
 | [],b,_=>rfl
 | x::l,b,h=>by
  rw[List.forIn_cons,h x List.mem_cons_self,pure_bind];exact z7X l (g x b) λy hy=>h y (List.mem_cons_of_mem _ hy)
theorem z5x {scope:Scope}{env:Env}(h:∀x∈scope.names,x.2 = .free->∃c,env.cells.lookup x.1=some c):closureFor scope env=pure (z3T env scope.names []):=by
 simp only[closureFor];rw[z7X (g:=λx c=>if x.2 == .free then (x.1,(env.cells.lookup x.1).getD 0)::c else c) scope.names [] (λx hx c=>by
  obtain⟨n,kind⟩:=x
  by_cases hk:kind = .free
  ·subst hk;obtain⟨a,ha⟩:=h _ hx rfl;have e:cellOf env n=pure a:=by unfold cellOf; rw[ha]
   simp[e,ha]
  ·have:(kind == NameKind.free)=false:=by simpa using hk
   simp[this])]
 rfl
theorem za0 {env:Env}{y:Str}{c:Addr}:∀{names:List (Str × NameKind)}{acc:List (Str × Addr)},(y,c)∈z3T env names acc↔(y,c)∈acc\/((y,NameKind.free)∈names/\c=(env.cells.lookup y).getD 0)
 | [],acc=>by simp[z3T]
 | (n,k)::r,acc=>by
  show (y,c)∈z3T env r (if k == .free then (n,(env.cells.lookup n).getD 0)::acc else acc)↔_;rw[za0]
  by_cases hk:k = .free
  ·subst hk;simp only[beq_self_eq_true,if_true,List.mem_cons,Prod.mk.injEq]
   constructor
   ·rintro((⟨rfl,rfl⟩ | h) | ⟨h1,h2⟩)
    ·exact .inr ⟨.inl (by simp),rfl⟩
    ·exact .inl h
    ·exact .inr ⟨.inr h1,h2⟩
   ·rintro(h | ⟨⟨rfl,_⟩ | h1,h2⟩)
    ·exact .inl (.inr h)
    ·exact .inl (.inl ⟨rfl,h2⟩)
    ·exact .inr ⟨h1,h2⟩
  ·have:(k == NameKind.free)=false:=by simpa using hk
   simp only[this,Bool.false_eq_true,if_false,List.mem_cons,Prod.mk.injEq]
   constructor
   ·rintro(h | ⟨h1,h2⟩)
    ·exact .inl h
    ·exact .inr ⟨.inr h1,h2⟩
   ·rintro(h | ⟨⟨_,h⟩ | h1,h2⟩)
    ·exact .inl h
    ·exact absurd h.symm hk
    ·exact .inr ⟨h1,h2⟩
theorem z22 {β:Type}{y:Str}{c:β}:∀{l:List (Str × β)},l.lookup y=some c->(y,c)∈l
 | [],h=>by simp at h
 | (n,j)::r,h=>by
  rw[List.lookup_cons] at h
  by_cases e:y=n
  ·subst e;simp at h;subst h;exact List.mem_cons_self
  ·have:(y == n)=false:=by simpa using e
   rw[this] at h;exact List.mem_cons_of_mem _ (z22 h)
theorem z3Y {β:Type}{y:Str}{c:β}:∀{l:List (Str × β)},(y,c)∈l->∃d,l.lookup y=some d
 | (n,j)::r,h=>by
  rw[List.lookup_cons]
  by_cases e:y=n
  ·subst e;simp
  ·have:(y == n)=false:=by simpa using e
   rw[this]
   rcases List.mem_cons.mp h with h | h
   ·exact absurd (congrArg Prod.fst h) e
   ·exact z3Y h
theorem z35 {env:Env}:∀{names:List (Str × NameKind)}{x:Str}{k:NameKind},(names.map λ(n,k)=>if (k == NameKind.free && env.scope.kind == .function && env.kindOf n == some .cell) then (n,NameKind.cell) else (n,k)).lookup x=some k->
  names.lookup x=some k\/(k = .cell/\names.lookup x=some .free)
 | [],_,_,h=>by simp at h
 | (n,j)::r,x,k,h=>by
  have ih := @z35 env r x k;have h':List.lookup x ((if (j == NameKind.free && env.scope.kind == .function && env.kindOf n == some .cell)=true then (n,NameKind.cell) else (n,j))::(r.map λ(n,k)=>if (k == NameKind.free && env.scope.kind == .function && env.kindOf n == some .cell) then (n,NameKind.cell) else (n,k)))=some k:=h
  by_cases hc:(j == NameKind.free && env.scope.kind == .function && env.kindOf n == some .cell)=true
  ·rw[if_pos hc] at h';have hj:j = .free:=by
    have:=hc;simp only[Bool.and_eq_true,beq_iff_eq] at this;exact this.1.1
   cases hx:x == n with
   | true=>
    simp only[List.lookup_cons,hx] at h' ⊢;exact .inr ⟨(Option.some.inj h').symm,by rw[hj]⟩
   | false=>
    simp only[List.lookup_cons,hx] at h' ⊢;exact ih h'
  ·rw[if_neg hc] at h'
   cases hx:x == n with
   | true=>
    simp only[List.lookup_cons,hx] at h' ⊢;exact .inl h'
   | false=>
    simp only[List.lookup_cons,hx] at h' ⊢;exact ih h'
theorem z2H {env:Env}:∀{names:List (Str × NameKind)}{x:Str},names.lookup x=some .free->
  (names.map λ(n,k)=>if (k == NameKind.free && env.scope.kind == .function && env.kindOf n == some .cell) then (n,NameKind.cell) else (n,k)).lookup x=some .cell\/
  (names.map λ(n,k)=>if (k == NameKind.free && env.scope.kind == .function && env.kindOf n == some .cell) then (n,NameKind.cell) else (n,k)).lookup x=some .free
 | [],_,h=>by simp at h
 | (n,j)::r,x,h=>by
  have ih := @z2H env r x;show List.lookup x ((if (j == NameKind.free && env.scope.kind == .function && env.kindOf n == some .cell)=true then (n,NameKind.cell) else (n,j))::_)=_\/List.lookup x ((if (j == NameKind.free && env.scope.kind == .function && env.kindOf n == some .cell)=true then (n,NameKind.cell) else (n,j))::_)=_
  cases hx:x == n with
  | true=>
   simp only[List.lookup_cons,hx] at h
   cases h
   by_cases hc:(NameKind.free == NameKind.free && env.scope.kind == .function && env.kindOf n == some .cell)=true
   ·rw[if_pos hc]; simp[List.lookup_cons,hx]
   ·rw[if_neg hc]; simp[List.lookup_cons,hx]
  | false=>
   simp only[List.lookup_cons,hx] at h
   by_cases hc:(j == NameKind.free && env.scope.kind == .function && env.kindOf n == some .cell)=true
   ·rw[if_pos hc]; simp only[List.lookup_cons,hx]; exact ih h
   ·rw[if_neg hc]; simp only[List.lookup_cons,hx]; exact ih h
@[reducible] noncomputable def Cx.compG (X:Cx)(scope:Scope)(N':List Str)(C:Addr)(s:Shared)(H:Hp)(fp:List Addr):Cx:=
 { X with N:=N',s₀:=s,H₀:=H,env:=compEnvC scope (z3T X.env scope.names []) C X.env,outer:=X.stack,stack:=X.stack,ex:=fp,pn:=[],fn:=λy=>((z3T X.env scope.names []).lookup y).isNone,xe:=λ_ _=>False }
noncomputable def z6C:TT:=λ_ H Q=>Q true H
noncomputable def LcG (J:It)(g:TG)(tc:TT)(te:TE)(Q:VK)(σ0:St)(H1:Hp):Prop:=∃W:Nat->Nat->List V->St->Hp->Prop,(∃m,W 0 m [] σ0 H1)/\∀i m ys σ H,W i m ys σ H->
 ys.length<sizeLine/\((J.stop i H/\∀p,H p=none->Q (.ref p) (upd H p (.lst ys)))\/(J.go i H/\∀x H',J.yld i H x H'->g x σ H' λσ1 H1=>tc σ1 H1 λb H2=>if b=true then te σ1 H2 λy H3=>∃m',m'<m/\W (i+1) m' (ys++[y]) σ1 H3 else ∃m',m'<m/\W (i+1) m' ys σ1 H2))
noncomputable def tLcG (wi:TI)(g:TG)(tc:TT)(te:TE)(nt:Nat)(js:List Nat):TE:=λσ H Q=>wi σ H λJ H1=>LcG J g tc te Q (List.replicate nt none++js.map λj=>(σ[j]?).getD none) H1
noncomputable def z7m (N' xn:List Str)(nt:Nat)(js:List Nat)(names onames:List (Str × NameKind)):Bool:=
 N'.length == nt+js.length && (js.zipIdx.all λp=>match N'[nt+p.2]? with
  | some y=>xn[p.1]? == some y && names.lookup y == some .free
  | none=>false) && names.all (λx=>x.2 != .cell && (x.2 != .local || names.lookup x.1 == some .local) && (x.2 != .free || ((onames.lookup x.1 == some .cell || onames.lookup x.1 == some .free))))
section
variable {X:Cx}{pins:List (Addr × Obj)}{σ:St}{H:Hp}{s:Shared}
structure z5z (X:Cx)(N':List Str)(nt:Nat)(js:List Nat)(scope:Scope):Prop where
 len:N'.length=nt+js.length
 cap:∀k j,js[k]? = some j->∃y,N'[nt+k]? = some y/\X.N[j]? = some y/\scope.names.lookup y=some .free
 nocell:∀y∈scope.names,y.2 ≠ .cell
 loc:∀y∈scope.names,y.2 = .local->scope.names.lookup y.1=some .local
 free:∀y∈scope.names,y.2 = .free->X.env.kindOf y.1=some .cell\/X.env.kindOf y.1=some .free
theorem z7m.ok {N' xn:List Str}{nt:Nat}{js:List Nat}{scope osc:Scope}(hxn:X.N=xn)(hosc:X.env.scope=osc)(h:z7m N' xn nt js scope.names osc.names=true):z5z X N' nt js scope:=by
 unfold z7m at h;simp only[Bool.and_eq_true,beq_iff_eq] at h;obtain⟨⟨h1,h2⟩,h3⟩:=h;rw[List.all_eq_true] at h2 h3;have h3':∀y∈scope.names,y.2 ≠ .cell/\(y.2 = .local->scope.names.lookup y.1=some .local)/\(y.2 = .free->osc.names.lookup y.1=some .cell\/osc.names.lookup y.1=some .free):=λy hy=>by
  have:=h3 y hy;simp only[Bool.and_eq_true,Bool.or_eq_true,bne_iff_ne,beq_iff_eq] at this;refine⟨this.1.1,λz =>?_,λz =>?_⟩
  ·rcases this.1.2 with q | q
   ·exact absurd z q
   ·exact q
  ·rcases this.2 with q | q
   ·exact absurd z q
   ·exact q
 refine⟨h1,λk j hk =>?_,λy hy=>(h3' y hy).1,λy hy=>(h3' y hy).2.1,λy hy z =>?_⟩
 ·have hm:(j,k)∈js.zipIdx:=by
   rw[List.mem_zipIdx_iff_getElem?];exact hk
  have:=h2 (j,k) hm
  cases e:N'[nt+k]? with
  | none=>simp only[e] at this; cases this
  | some y=>
   simp only[e,Bool.and_eq_true,beq_iff_eq] at this;exact⟨y,rfl,by rw[hxn]; exact this.1,this.2⟩
 ·show X.env.scope.names.lookup y.1=some .cell\/X.env.scope.names.lookup y.1=some .free;rw[hosc];exact(h3' y hy).2.2 z
theorem z5z.cells {N':List Str}{nt:Nat}{js:List Nat}{scope:Scope}(c:z5z X N' nt js scope)(I:Inv X pins σ H s):∀x∈scope.names,x.2 = .free->∃a,X.env.cells.lookup x.1=some a:=λx hx hf=>I.ok.has x.1 (c.free x hx hf)
theorem z5z.clo {N':List Str}{nt:Nat}{js:List Nat}{scope:Scope}(c:z5z X N' nt js scope)(I:Inv X pins σ H s){y:Str}{a:Addr}(h:(z3T X.env scope.names []).lookup y=some a):X.env.cells.lookup y=some a/\(y,NameKind.free)∈scope.names:=by
 rcases za0.mp (z22 h) with z | ⟨z1,z2⟩
 ·simp at z
 ·obtain⟨b,hb⟩:=c.cells I (y,.free) z1 rfl;have hb':X.env.cells.lookup y=some b:=hb;rw[hb'] at z2;exact⟨by rw[hb',z2]; rfl,z1⟩
theorem z5z.has {N':List Str}{nt:Nat}{js:List Nat}{scope:Scope}(c:z5z X N' nt js scope)(I:Inv X pins σ H s){y:Str}(h:(y,NameKind.free)∈scope.names):∃a,(z3T X.env scope.names []).lookup y=some a:=
 z3Y (c:=(X.env.cells.lookup y).getD 0) (za0.mpr (.inr ⟨h,rfl⟩))
theorem Inv.compG {scope:Scope}{N':List Str}{nt:Nat}{js:List Nat}{C:Addr}{fp:List Addr}{h1:Heap}{t1:Nat}(I:Inv X pins σ H s)(hk:scope.kind = .function)(c:z5z X N' nt js scope)
  (hC:s.heap.objs.size<=C) (hfp:∀b∈fp,FpOk X pins H b) (hfo:∀b∈fp,b<s.heap.objs.size) (keep:∀b o,s.heap.get? b=some o->h1.get? b=some o) (hns:∃m,h1.Ns C m) (hc:X.calm=true):
  Inv (X.compG scope N' C s H fp) [] (List.replicate nt none++js.map λj=>(σ[j]?).getD none) H { s with heap:=h1,toks:=t1 }:=by
 have nofs:∀b∈fp,b ∉ frs X.stack:=λb hb z=>by
  rcases List.mem_cons.mp (I.stkSub b z) with q | q
  ·exact(hfp b hb).2.1 q
  ·exact(hfp b hb).2.2.1 q
 have nobase:∀b o,X.base.get? b=some o->b ∉ fp:=λb o e hb=>by
  have e2:=(I.ok.bs b o e).1
  rcases(hfp b hb).2.2.2.1 with z | z
  ·exact I.ok.noex b o e z
  ·exact absurd (Nat.lt_of_lt_of_le (Heap.lt_size e2) z) (Nat.lt_irrefl _)
 have kd:∀{y:Str},((compEnvC scope (z3T X.env scope.names []) C X.env).kindOf y=some .cell\/(compEnvC scope (z3T X.env scope.names []) C X.env).kindOf y=some .free)->(y,NameKind.free)∈scope.names:=λ{y} q=>by
  rcases q with q | q
  ·rcases z35 (env:=X.env) q with z | ⟨_,z⟩
   ·exact absurd rfl (c.nocell _ (z22 z))
   ·exact z22 z
  ·rcases z35 (env:=X.env) q with z | ⟨z,_⟩
   ·exact z22 z
   ·cases z
 have cell:∀{a:Addr}{v:Option Value},s.heap.IsCell a v->h1.IsCell a v:=λ⟨o,ho,hd⟩=>⟨o,keep _ _ ho,hd⟩
 obtain⟨m1,hm1⟩:=hns;refine⟨⟨I.ok.mod,hk,I.ok.glob,I.ok.blt,hC,(λy z a e1 e2=>I.ok.inj y z a (c.clo I e1).1 (c.clo I e2).1),(λy q=>c.has I (kd q)),(λy a hf e =>?_),(λ_=>I.ok.hd hc),I.ok.frames,.inl rfl,(λb hb=>⟨Nat.ne_of_lt (Nat.lt_of_lt_of_le (hfo b hb) hC),(λy a e=>(hfp b hb).2.2.2.2.1 y a (c.clo I e).1)⟩),(λb o e=>⟨I.bk b o e,(I.bs b o e).2⟩),Nat.le_trans I.ok.bsz I.sz,nobase,nofs,I.stack,I.stkFree⟩,
  rfl,I.bare,Un.kept keep,⟨m1,hm1,(λi y v e1 e2 hv =>?_)⟩,(λy a e =>?_),I.hok.fresh hC,(λy a e=>I.freeC y a (c.clo I e).1),(λp hp=>by simp at hp),I.hok.kept keep,?_⟩
 ·have hf':((z3T X.env scope.names []).lookup y).isNone=true:=hf;have e':(z3T X.env scope.names []).lookup y=some a:=e;rw[e'] at hf'
  cases hf'
 ·rcases Nat.lt_or_ge i nt with hi | hi
  ·rw[List.getElem?_append_left (by simpa using hi),List.getElem?_replicate] at e2;rw[if_pos hi] at e2
   cases e2
  ·rw[List.getElem?_append_right (by simpa using hi),List.length_replicate,List.getElem?_map] at e2
   cases ej:js[i - nt]? with
   | none=>rw[ej] at e2; cases e2
   | some j=>
    rw[ej] at e2;obtain⟨y',q1,q2,q3⟩:=c.cap _ _ ej;have hi':nt+(i - nt)=i:=by omega
    rw[hi'] at q1;have e1':N'[i]? = some y:=e1;rw[q1] at e1'
    cases e1'
    have e2:some ((σ[j]?).getD none)=some (some v):=e2;have hσ:σ[j]? = some (some v):=by
     cases ez:σ[j]? with
     | none=>rw[ez] at e2; cases e2
     | some z=>rw[ez] at e2; exact congrArg some (Option.some.inj e2)
    have hkX:=c.free _ (z22 q3) rfl;obtain⟨m,hn,hl⟩:=I.loc;obtain⟨u,r,l⟩:=hl j y v q2 hσ (.inr hkX);refine⟨u,r,.inr ⟨z2H (env:=X.env) q3,?_⟩⟩
    rcases l with ⟨l,_⟩ | ⟨_,a,ha,hcell⟩
    ·have l':X.env.kindOf y=some .local:=l
     rcases hkX with z | z
     ·rw[l'] at z; cases z
     ·rw[l'] at z; cases z
    ·obtain⟨b,hb⟩:=c.has I (z22 q3);have:=(c.clo I hb).1;rw[ha] at this
     cases this
     exact⟨a,hb,cell hcell⟩
 ·obtain⟨v,z⟩:=I.cell y a (c.clo I e).1;exact⟨v,cell z⟩
 ·show (List.replicate nt none++js.map λj=>(σ[j]?).getD none).length=N'.length;rw[List.length_append,List.length_replicate,List.length_map,c.len]
theorem zhY {elt iter target:Expr}{ct:Option Expr}{pos:Pos}{scope:Scope}{wi:TI}{g:TG}{tc:TT}{te:TE}{N':List Str}{nt:Nat}{js:List Nat}(hc:X.calm=true)(hi:PI X target iter wi)(hk:scope.kind = .function)(cp:z5z X N' nt js scope)
  (hg:∀(C:Addr) (s:Shared) (H:Hp) (fp:List Addr),PG (X.compG scope N' C s H fp) target g)
  (ht:match ct with
   | none=>tc=z6C
   | some c=>∀(C:Addr) (s:Shared) (H:Hp) (fp:List Addr),PT (X.compG scope N' C s H fp) c tc)
  (he:∀(C:Addr) (s:Shared) (H:Hp) (fp:List Addr),PE (X.compG scope N' C s H fp) elt te) (hs:∀x,foldedSetIterable iter X.env x=pure x:=by intro _; rfl):PE X (.ListComp elt [⟨target,iter,ct.toList,0⟩] scope pos) (tLcG wi g tc te nt js):=by
 intro pins s σ H Q I h;rw[eval_ListComp];refine wpAny_comprehension_free (use:=none) rfl hs (z5x (cp.cells I)) hk cp.loc (thn (hi pins s σ H _ I h) λv s1 h1=>thn h1 λitv s2 h2 =>?_);obtain⟨it,fp,tn,J,H2,e,I2,T,st2,f2,W,⟨m0,w0⟩,turn⟩:=h2;subst e;have hfo:∀b∈fp,b<s2.heap.objs.size:=λb hb=>by
  obtain⟨o,e,_⟩:=T.obj _ _ st2 b hb;exact Heap.lt_size e
 refine wpAny_newObj_type (wpAny_newFunctionEnv cp.nocell (by intro y hy; simp at hy) (λg1 hns1 hsb1 =>?_) hk);dsimp only at hns1 hsb1 ⊢;generalize hG2:s2.heap.push { cls :=.type "list",dict:=none,data :=.seq ([]:List Value).toArray }=G2 at hns1 hsb1 ⊢;have hC:G2.objs.size=s2.heap.objs.size+1:=by rw[<- hG2,Heap.size_push]
 have hDC:s2.heap.objs.size≠G2.objs.size:=by rw[hC]; exact Nat.ne_of_lt (Nat.lt_succ_self _)
 have below:∀b,b<s2.heap.objs.size->b≠G2.objs.size/\b≠s2.heap.objs.size:=λb hb=>⟨by rw[hC]; exact Nat.ne_of_lt (Nat.lt_succ_of_lt hb),Nat.ne_of_lt hb⟩
 have old:∀b o,s2.heap.get? b=some o->g1.get? b=some o:=λb o e=>hsb1.extBut b o (below b (Heap.lt_size e)).1 (Heap.get?_push_of_some _ (hG2 ▸ Heap.get?_push_of_some _ e));have hacc:g1.get? s2.heap.objs.size=some { cls :=.type "list",data :=.seq ([]:List Value).toArray 0 }:=hsb1.extBut _ _ hDC (Heap.get?_push_of_some _ (hG2 ▸ Heap.get?_push_size _ rfl));have hCge:s2.heap.objs.size<=G2.objs.size:=by rw[hC]; exact Nat.le_succ _
 have cellD:∀y a,X.env.cells.lookup y=some a->a<s2.heap.objs.size:=λy a e=>by
  obtain⟨v,o,ho,_⟩:=I2.cell y a e;exact Heap.lt_size ho
 generalize hCC:G2.objs.size=C at*;generalize hDD:s2.heap.objs.size=D at*
 let Y:Cx:=X.compG scope N' C s2 H2 fp
 have IY:Inv Y [] (List.replicate nt none++js.map λj=>(σ[j]?).getD none) H2 { s2 with heap:=g1,toks:=s2.toks+([]:List (Str × Value)).length }:=I2.compG hk cp (by rw[hDD]; exact hCge) f2 (by rw[hDD]; exact hfo) old ⟨_,hns1⟩ hc;have fpD:∀b∈fp,b≠D:=λb hb=>(below b (hfo b hb)).2;have fpC:∀b∈fp,b≠C:=λb hb=>(below b (hfo b hb)).1;have H2D:H2 D=none:=I2.hok.fresh (by rw[hDD]; exact Nat.le_refl _);have Dnf:D ∉ frs X.stack:=λz=>by
  obtain⟨_,o,e,_⟩:=I2.stack.mem z;exact absurd (Heap.lt_size e) (by rw[hDD]; exact Nat.lt_irrefl _)
 have stat:∀{H':Hp}{pl:List (Addr × Obj)},(∀b∈fp,H' b=none)->(∀p∈pl,p.1=D)->∀b∈fp,FpOk Y pl H' b:=λhn hp b hb=>⟨hn b hb,fpC b hb,(λz=>IY.ok.exfs b hb z),.inl hb,(λy a e=>(f2 b hb).2.2.2.2.1 y a (cp.clo I2 e).1),λp hp' z=>fpD b hb (z.symm.trans (hp p (by simpa[Y] using hp')))⟩
 have loop:∀s3:Shared,s3={ s2 with heap:=g1,toks:=s2.toks+([]:List (Str × Value)).length }->
   codeAny (model X.prog X.w) X.A (.compLoop (.ListComp elt [⟨target,iter,ct.toList,0⟩] scope pos) 0 (.ref it) (.ref D) (compEnvC scope (z3T X.env scope.names []) C X.env)) (compPost (model X.prog X.w) X.A X.xe none (EP X pins σ Q) (.ref D) C) s3:=by
  intro s3 e3;refine z6c (λn s'=>∃i ys its σ' H',Inv Y [] σ' H' s'/\s'.heap.get? D=some { cls :=.type "list",data :=.seq (its:List Value).toArray its.length }/\Vals ys its/\H' D=none/\tn i s'.heap/\(∀b∈fp,H' b=none)/\W i n ys σ' H') ?_ m0 ⟨0,[],[],_,H2,e3 ▸ IY,?_,.nil,H2D,?_,λb hb=>(f2 b hb).1,w0⟩
  ·rintro n s4 ⟨i,ys,its,σ4,H4,I4,hD4,hv4,hn4,st4,fr4,w4⟩;obtain⟨hsz,step⟩:=turn i n ys σ4 H4 w4;have hl4:ys.length=its.length:=hv4.length;have I4p:Inv Y [(D,{ cls :=.type "list",data :=.seq its.toArray its.length })] σ4 H4 s4:=I4.pins_of λp hp=>by
    rw[List.mem_singleton.mp hp];exact⟨hD4,hn4,hDC,Dnf,λv z=>by cases z⟩
   have one:∀p∈[((D:Addr),({ cls :=.type "list",data :=.seq its.toArray its.length }:Obj))],p.1=D:=λp hp=>by rw[List.mem_singleton.mp hp]
   rcases step with ⟨stop,qn⟩ | ⟨go,step⟩
   ·refine wpAny_mono (T.done Y rfl rfl rfl hc i _ s4 σ4 H4 (λ_ _=>False) I4p (stat fr4 one) st4 stop) (λr s5 hr =>?_) λ_ _ z=>z.elim;obtain⟨rfl,I5⟩:=hr;have hD5:s5.heap.get? D=some { cls :=.type "list",data :=.seq its.toArray its.length }:=(I5.pin (D,_) (by simp)).1;obtain⟨m5,hm5,_⟩:=I5.loc;refine⟨m5,hm5,λh' sb =>?_⟩;have U:Un (frs X.stack) fp H2 H4 s2.heap s5.heap:=I5.base;have nC:∀b o,s2.heap.get? b=some o->b≠C:=λb o e=>(below b (hDD ▸ Heap.lt_size e)).1;have nD:∀b o,s2.heap.get? b=some o->b≠D:=λb o e=>(below b (hDD ▸ Heap.lt_size e)).2;have ex:∀b o,b≠C->s5.heap.get? b=some o->h'.get? b=some o:=λb o n e=>sb.extBut b o n e;have U':Un (frs X.stack) fp H2 (upd H4 D (.lst ys)) s2.heap h':=⟨λb o e n hb hx'=>ex b o (nC b o e) (U.keep b o e n hb hx'),λb o e n hb hx'=>by
      obtain⟨sl,q⟩:=U.slot b o e n hb hx';exact⟨sl,ex b _ (nC b o e) q⟩,λb o e n hx'=>by rw[z0f (nD b o e)]; exact U.free b o e n hx',λb o e hx'=>by
      obtain⟨o',q⟩:=U.there b o e hx';exact⟨o',ex b _ (nC b o e) q⟩,λb xs e=>by rw[z0f (z0D (U.tups b xs e) hn4)]; exact U.tups b xs e,λb o xs e=>by rw[z0f (z0D (U.frzs b o xs e) hn4)]; exact U.frzs b o xs e,λb ps e=>by
      obtain⟨more,q⟩:=U.tbls b ps e;exact⟨more,by rw[z0f (z0D q hn4)]; exact q⟩⟩
    have ok1:HOk X.prog X.w H4 h':=HOk.other I5.hok I5.free λb u n e=>ex b u n e;have ok2:HOk X.prog X.w (upd H4 D (.lst ys)) h':=ok1.track hn4 ⟨Nat.le_of_lt hsz,its,_,hv4,ex D _ hDC hD5⟩;exact⟨.ref D,upd H4 D (.lst ys),I2.call' (s':={ s5 with heap:=h' }) I5.os U' ok2 I5.bare (λb hb=>⟨(f2 b hb).2.2.2.1,(f2 b hb).2.1,(f2 b hb).2.2.2.2.1,(f2 b hb).2.2.2.2.2⟩),rfl,qn D hn4⟩
   ·refine wpAny_mono (T.item Y rfl rfl rfl hc i _ s4 σ4 H4 (λ_ _=>False) I4p (stat fr4 one) st4 go) (λr s5 hr =>?_) λ_ _ z=>z.elim;obtain⟨u,rfl,h5⟩:=hr;refine wpAny_mono h5 (λ_ s6 h6 =>?_) λ_ _ z=>z.elim;obtain⟨xv,H6,I6,r6,y6,st6,fr6⟩:=h6;have I6p:=I6.pinned (stat fr6 one) (T.obj _ _ st6);have after:∀{σ8:St}{H8:Hp}{s8:Shared},Inv Y _ σ8 H8 s8->_:=λ{σ8 H8 s8} (I8:Inv Y ([(D,{ cls :=.type "list",data :=.seq its.toArray its.length })]++z68 fp s6.heap) σ8 H8 s8)=>
     (show (s8.heap.get? D=some { cls :=.type "list",data :=.seq its.toArray its.length }/\H8 D=none)/\tn (i+1) s8.heap/\(∀b∈fp,H8 b=none)/\Inv Y [] σ8 H8 s8 from by
      have pD:=I8.pin (D,{ cls :=.type "list",data :=.seq its.toArray its.length }) (by simp);refine⟨⟨pD.1,pD.2.1⟩,T.keep _ _ _ st6 λb hb o e=>(I8.pin (b,o) (List.mem_append_right _ (List.mem_append_right _ (z2y hb e)))).1,λb hb =>?_,I8.pins_of (pins':=[]) λp hp=>by simp at hp⟩;obtain⟨o,e,d⟩:=T.obj _ _ st6 b hb;exact(I8.pin (b,o) (List.mem_append_right _ (List.mem_append_right _ (z2y hb e)))).2.1)
    refine wpAny_mono (hg C s2 H2 fp _ s6 σ4 H6 xv u _ I6p r6 (step xv H6 y6)) (λ_ s7 h7 =>?_) λ_ _ z=>z.elim;obtain⟨σ7,H7,I7,q7⟩:=h7;have yes:∀s7' H7',Inv Y _ σ7 H7' s7'->(te σ7 H7' λy H3=>∃m',m'<n/\W (i+1) m' (ys++[y]) σ7 H3)->_:=λs7' H7' (I7':Inv Y ([(D,{ cls :=.type "list",data :=.seq its.toArray its.length })]++z68 fp s6.heap) σ7 H7' s7') qe=>
     wpAny_mono (Q':=λyv s8=>wpAny (model X.prog X.w) X.A (call (.builtin "list.append") [.ref D,yv]) (λ_ s6=>∃m,m<n/\∃i ys its σ' H',Inv Y [] σ' H' s6/\s6.heap.get? D=some { cls :=.type "list",data :=.seq (its:List Value).toArray its.length }/\Vals ys its/\H' D=none/\tn i s6.heap/\(∀b∈fp,H' b=none)/\W i m ys σ' H') (notedBy (model X.prog X.w) X.A (compEnvC scope (z3T X.env scope.names []) C X.env) λe s'=>compPost (model X.prog X.w) X.A X.xe none (EP X pins σ Q) (.ref D) C (.error e) s') s8) (he C s2 H2 fp _ s7' σ7 H7' _ I7' qe) (λyv s8 h8=>by
      obtain⟨y,H8,I8,r8,m',hm',w8⟩:=h8;obtain⟨⟨pD1,pD2⟩,st8,fr8,I8u⟩:=after I8;refine append_at (hsz:=by rw[List.size_toArray, <- hl4]; exact Nat.le_of_lt hsz) pD1 λh9 sb9 hD9 =>?_;refine⟨m',hm',i+1,ys++[y],its++[yv],σ7,H8,I8u.turned (it:=D) (t':=s8.toks) (λb o n e=>sb9.extBut b o n e) pD2 hDC (.inr (by rw[hDD]; exact Nat.le_refl _)) (λy a e z=>by
        have:=cellD y a (cp.clo I2 e).1;rw[z] at this;exact Nat.lt_irrefl _ this) (λp hp=>by simp[Y] at hp),?_,Vals.append hv4 (.cons r8 .nil),pD2,T.keep _ _ _ st8 λb hb o e=>sb9.extBut b o (fpD b hb) e,fr8,w8⟩
      show h9.get? D=_;rw[hD9];simp) (E':=notedBy (model X.prog X.w) X.A (compEnvC scope (z3T X.env scope.names []) C X.env) λe s'=>compPost (model X.prog X.w) X.A X.xe none (EP X pins σ Q) (.ref D) C (.error e) s') (λ_ _ z=>z.elim)
    cases ct with
    | none=>
     have ht':tc=z6C:=ht;subst ht';simp only[zeF,if_true];have q7':if true=true then te σ7 H7 λy H3=>∃m',m'<n/\W (i+1) m' (ys++[y]) σ7 H3 else ∃m',m'<n/\W (i+1) m' ys σ7 H7:=q7
     rw[if_pos rfl] at q7';exact yes s7 H7 I7 q7'
    | some c=>
     refine wpAny_mono (ht C s2 H2 fp _ s7 σ7 H7 _ I7 q7) (λb s8 h8 =>?_) λ_ _ z=>z.elim;obtain⟨H8,I8,q8⟩:=h8
     cases b with
     | true=>
      rw[if_pos rfl] at q8 ⊢;exact yes s8 H8 I8 q8
     | false=>
      rw[if_neg Bool.false_ne_true] at q8 ⊢;obtain⟨m',hm',w8⟩:=q8;obtain⟨⟨pD1,pD2⟩,st8,fr8,I8u⟩:=after I8;exact⟨m',hm',i+1,ys,its,σ7,H8,I8u,pD1,hv4,pD2,st8,fr8,w8⟩
  ·rw[e3]; exact hacc
  ·rw[e3]; exact T.keep _ _ _ st2 λb _ o e=>old b o e
 exact codeAny_compStart_list (loop _ rfl) (T.self _ 0 _ _ _ (T.keep _ _ _ st2 λb _ o e=>old b o e) (loop _ rfl))
theorem zhF {elt iter target:Expr}{ct:Option Expr}{pos:Pos}{scope:Scope}{wi:TI}{g:TG}{tc:TT}{te:TE}{N':List Str}{nt:Nat}{js:List Nat}(hc:X.calm=true)(hi:QI X target iter wi)(hk:scope.kind = .function)(cp:z5z X N' nt js scope)
  (hg:∀(C:Addr) (s:Shared) (H:Hp) (fp:List Addr),QG (X.compG scope N' C s H fp) target g)
  (ht:match ct with
   | none=>tc=z6C
   | some c=>∀(C:Addr) (s:Shared) (H:Hp) (fp:List Addr),QT (X.compG scope N' C s H fp) c tc)
  (he:∀(C:Addr) (s:Shared) (H:Hp) (fp:List Addr),QE (X.compG scope N' C s H fp) elt te) (hs:∀x,foldedSetIterable iter X.env x=pure x:=by intro _; rfl):QE X (.ListComp elt [⟨target,iter,ct.toList,0⟩] scope pos) (tLcG wi g tc te nt js):=by
 refine⟨zhY hc hi.p hk cp (λC s H fp=>(hg C s H fp).p) ?_ (λC s H fp=>(he C s H fp).p) hs⟩
 cases ct with
 | none=>exact ht
 | some c=>exact λC s H fp=>(ht C s H fp).p
theorem zfR {i:Nat}{x:Str}{pos:Pos}(hN:X.N.Nodup)(hi:X.N[i]? = some x)(hx:X.env.scope.names.lookup x=some .local):QG X (.Name x pos) (z5Y i):=⟨zcq hN hi (.inl hx) (.inr hx)⟩
end
end L2
namespace L2
open PySem PySem.Spec PyProof.Rows
section
variable {X:Cx}
theorem z1l.imp {f:Value}{r r':List V->Hp->VK->Prop}(h:z1l X f r)(i:∀xs H Q,r' xs H Q->r xs H Q):z1l X f r':=λpins s σ H xs us Q I rv q=>h pins s σ H xs us Q I rv (i xs H Q q)
end
theorem z6d {α:Type}{xs:List α}{i:Int}(h0:0<=i)(h1:i<xs.length):∃v∈xs,atI xs i=some v:=by
 have hk:i.toNat<xs.length:=by omega
 have ek:i=((i.toNat:Nat):Int):=by omega
 refine⟨xs[i.toNat],List.getElem_mem hk,?_⟩;have q:atI xs ((i.toNat:Nat):Int)=some xs[i.toNat]:=zgL (List.getElem?_eq_getElem hk);rw[<- ek] at q;exact q
end L2
namespace L2
open PySem PySem.Spec PyProof.Rows
section
variable {X:Cx}{pins:List (Addr × Obj)}{σ:St}{H:Hp}{s:Shared}
theorem zhQ {elt iter target:Expr}{ct:Option Expr}{pos spos py:Pos}{y:Str}{iy:Nat}(hN:X.N.Nodup)(hiy:X.N[iy]? = some y)(hly:X.env.scope.names.lookup y=some .local){scope:Scope}{wi:TI}{g:TG}{tc:TT}{te:TE}{N':List Str}{nt:Nat}{js:List Nat}(hc:X.calm=true)(hi:PI X target iter wi)(hk:scope.kind = .function)(cp:z5z X N' nt js scope)
  (hg:∀(C:Addr) (s:Shared) (H:Hp) (fp:List Addr),PG (X.compG scope N' C s H fp) target g)
  (ht:match ct with
   | none=>tc=z6C
   | some c=>∀(C:Addr) (s:Shared) (H:Hp) (fp:List Addr),PT (X.compG scope N' C s H fp) c tc)
  (he:∀(C:Addr) (s:Shared) (H:Hp) (fp:List Addr),PE (X.compG scope N' C s H fp) elt te) (hsw:swapsWith (.ListComp elt [⟨target,iter,ct.toList,0⟩] scope pos) (some (.Name y py)) spos.line X.env=pure true:=by rfl) (hs:∀x,foldedSetIterable iter X.env x=pure x:=by intro _; rfl):PS X (.Assign [.Name y py] (.ListComp elt [⟨target,iter,ct.toList,0⟩] scope pos) spos) (tAsg (tLcG wi g tc te nt js) (z5Y iy)):=by
 intro pins s σ H Dn I h;rw[exec_Assign_Name_used _ _ _ _ hsw];refine wpAny_bind (wpAny_standAt (wpAny_bind ?_));show wpAny _ X.A (do let _ <- comprehension (.ListComp elt [⟨target,iter,ct.toList,0⟩] scope pos) scope X.env _ (newList []) false (eval iter X.env) (some (assign (.Name y py) X.env))) _ _ s;refine wpAny_bind (wpAny_mono (wpAny_comprehension_free (use:=some (assign (.Name y py) X.env)) (Q:=λ_ s'=>SP X pins Dn .next s') rfl hs (z5x (cp.cells I)) hk cp.loc (thn (hi pins s σ H _ I h) λv s1 h1=>thn h1 λitv s2 h2 =>?_)) (λ_ s' hq=>wpAny_pure (wpAny_pure hq)) λ_ _ e=>e);obtain⟨it,fp,tn,J,H2,e,I2,T,st2,f2,W,⟨m0,w0⟩,turn⟩:=h2;subst e;have hfo:∀b∈fp,b<s2.heap.objs.size:=λb hb=>by
  obtain⟨o,e,_⟩:=T.obj _ _ st2 b hb;exact Heap.lt_size e
 refine wpAny_newObj_type (wpAny_newFunctionEnv cp.nocell (by intro y hy; simp at hy) (λg1 hns1 hsb1 =>?_) hk);dsimp only at hns1 hsb1 ⊢;generalize hG2:s2.heap.push { cls :=.type "list",dict:=none,data :=.seq ([]:List Value).toArray }=G2 at hns1 hsb1 ⊢;have hC:G2.objs.size=s2.heap.objs.size+1:=by rw[<- hG2,Heap.size_push]
 have hDC:s2.heap.objs.size≠G2.objs.size:=by rw[hC]; exact Nat.ne_of_lt (Nat.lt_succ_self _)
 have below:∀b,b<s2.heap.objs.size->b≠G2.objs.size/\b≠s2.heap.objs.size:=λb hb=>⟨by rw[hC]; exact Nat.ne_of_lt (Nat.lt_succ_of_lt hb),Nat.ne_of_lt hb⟩
 have old:∀b o,s2.heap.get? b=some o->g1.get? b=some o:=λb o e=>hsb1.extBut b o (below b (Heap.lt_size e)).1 (Heap.get?_push_of_some _ (hG2 ▸ Heap.get?_push_of_some _ e));have hacc:g1.get? s2.heap.objs.size=some { cls :=.type "list",data :=.seq ([]:List Value).toArray 0 }:=hsb1.extBut _ _ hDC (Heap.get?_push_of_some _ (hG2 ▸ Heap.get?_push_size _ rfl));have hCge:s2.heap.objs.size<=G2.objs.size:=by rw[hC]; exact Nat.le_succ _
 have cellD:∀y a,X.env.cells.lookup y=some a->a<s2.heap.objs.size:=λy a e=>by
  obtain⟨v,o,ho,_⟩:=I2.cell y a e;exact Heap.lt_size ho
 generalize hCC:G2.objs.size=C at*;generalize hDD:s2.heap.objs.size=D at*
 let Y:Cx:=X.compG scope N' C s2 H2 fp
 have IY:Inv Y [] (List.replicate nt none++js.map λj=>(σ[j]?).getD none) H2 { s2 with heap:=g1,toks:=s2.toks+([]:List (Str × Value)).length }:=I2.compG hk cp (by rw[hDD]; exact hCge) f2 (by rw[hDD]; exact hfo) old ⟨_,hns1⟩ hc;have fpD:∀b∈fp,b≠D:=λb hb=>(below b (hfo b hb)).2;have fpC:∀b∈fp,b≠C:=λb hb=>(below b (hfo b hb)).1;have H2D:H2 D=none:=I2.hok.fresh (by rw[hDD]; exact Nat.le_refl _);have Dnf:D ∉ frs X.stack:=λz=>by
  obtain⟨_,o,e,_⟩:=I2.stack.mem z;exact absurd (Heap.lt_size e) (by rw[hDD]; exact Nat.lt_irrefl _)
 have stat:∀{H':Hp}{pl:List (Addr × Obj)},(∀b∈fp,H' b=none)->(∀p∈pl,p.1=D)->∀b∈fp,FpOk Y pl H' b:=λhn hp b hb=>⟨hn b hb,fpC b hb,(λz=>IY.ok.exfs b hb z),.inl hb,(λy a e=>(f2 b hb).2.2.2.2.1 y a (cp.clo I2 e).1),λp hp' z=>fpD b hb (z.symm.trans (hp p (by simpa[Y] using hp')))⟩
 have loop:∀s3:Shared,s3={ s2 with heap:=g1,toks:=s2.toks+([]:List (Str × Value)).length }->
   codeAny (model X.prog X.w) X.A (.compLoop (.ListComp elt [⟨target,iter,ct.toList,0⟩] scope pos) 0 (.ref it) (.ref D) (compEnvC scope (z3T X.env scope.names []) C X.env)) (compPost (model X.prog X.w) X.A X.xe (some (assign (.Name y py) X.env)) (λ_ s'=>SP X pins Dn .next s') (.ref D) C) s3:=by
  intro s3 e3;refine z6c (λn s'=>∃i ys its σ' H',Inv Y [] σ' H' s'/\s'.heap.get? D=some { cls :=.type "list",data :=.seq (its:List Value).toArray its.length }/\Vals ys its/\H' D=none/\tn i s'.heap/\(∀b∈fp,H' b=none)/\W i n ys σ' H') ?_ m0 ⟨0,[],[],_,H2,e3 ▸ IY,?_,.nil,H2D,?_,λb hb=>(f2 b hb).1,w0⟩
  ·rintro n s4 ⟨i,ys,its,σ4,H4,I4,hD4,hv4,hn4,st4,fr4,w4⟩;obtain⟨hsz,step⟩:=turn i n ys σ4 H4 w4;have hl4:ys.length=its.length:=hv4.length;have I4p:Inv Y [(D,{ cls :=.type "list",data :=.seq its.toArray its.length })] σ4 H4 s4:=I4.pins_of λp hp=>by
    rw[List.mem_singleton.mp hp];exact⟨hD4,hn4,hDC,Dnf,λv z=>by cases z⟩
   have one:∀p∈[((D:Addr),({ cls :=.type "list",data :=.seq its.toArray its.length }:Obj))],p.1=D:=λp hp=>by rw[List.mem_singleton.mp hp]
   rcases step with ⟨stop,qn⟩ | ⟨go,step⟩
   ·refine wpAny_mono (T.done Y rfl rfl rfl hc i _ s4 σ4 H4 (λ_ _=>False) I4p (stat fr4 one) st4 stop) (λr s5 hr =>?_) λ_ _ z=>z.elim;obtain⟨rfl,I5⟩:=hr;have hD5:s5.heap.get? D=some { cls :=.type "list",data :=.seq its.toArray its.length }:=(I5.pin (D,_) (by simp)).1;obtain⟨m5,hm5,_⟩:=I5.loc;have U:Un (frs X.stack) fp H2 H4 s2.heap s5.heap:=I5.base;have nC:∀b o,s2.heap.get? b=some o->b≠C:=λb o e=>(below b (hDD ▸ Heap.lt_size e)).1;have nD:∀b o,s2.heap.get? b=some o->b≠D:=λb o e=>(below b (hDD ▸ Heap.lt_size e)).2;have U':Un (frs X.stack) fp H2 (upd H4 D (.lst ys)) s2.heap s5.heap:=⟨U.keep,U.slot,λb o e n hx'=>by rw[z0f (nD b o e)]; exact U.free b o e n hx',U.there,λb xs e=>by rw[z0f (z0D (U.tups b xs e) hn4)]; exact U.tups b xs e,λb o xs e=>by rw[z0f (z0D (U.frzs b o xs e) hn4)]; exact U.frzs b o xs e,λb ps e=>by
      obtain⟨more,q⟩:=U.tbls b ps e;exact⟨more,by rw[z0f (z0D q hn4)]; exact q⟩⟩
    have ok2:HOk X.prog X.w (upd H4 D (.lst ys)) s5.heap:=HOk.track I5.hok hn4 ⟨Nat.le_of_lt hsz,its,_,hv4,hD5⟩;have I6:Inv X pins σ (upd H4 D (.lst ys)) s5:=I2.call' (s':=s5) I5.os U' ok2 I5.bare (λb hb=>⟨(f2 b hb).2.2.2.1,(f2 b hb).2.1,(f2 b hb).2.2.2.2.1,(f2 b hb).2.2.2.2.2⟩);show wpAny _ X.A (assign (.Name y py) X.env (.ref D)) _ _ _;refine wpAny_assign_Name (z8V I6 hN hiy (.inl hly) (show RelV (.ref D) (.ref D) from rfl) (λs7 I7 hs7 =>?_) (.inr hly));obtain⟨c7,sb7,hc7⟩:=hs7;have lt2:X.env.locals<D:=by rw[<- hDD]; exact I2.lt
    have c7C:c7≠C:=by
     rcases hc7 with z | z
     ·rw[z]; exact Nat.ne_of_lt (Nat.lt_of_lt_of_le lt2 hCge)
     ·exact Nat.ne_of_lt (Nat.lt_of_lt_of_le (cellD _ _ z) hCge)
    refine⟨m5,hm5.sameBut sb7 (Ne.symm c7C),λh' sb =>?_⟩;refine⟨_,_,I7.turned (it:=C) (t':=s7.toks) (λb o n e=>sb.extBut b o n e) (by rw[z0f (Ne.symm hDC)]; exact I5.free) (Nat.ne_of_gt (Nat.lt_of_lt_of_le lt2 hCge)) (.inr (Nat.le_trans I2.sz (by rw[hDD]; exact hCge))) (λx a e z =>?_) (λp hp z =>?_),qn D hn4⟩
    ·have:=cellD x a e;rw[z] at this;exact absurd (Nat.lt_of_lt_of_le this hCge) (Nat.lt_irrefl _)
    ·have:=Heap.lt_size (I2.pin p hp).1;rw[z,hDD] at this;exact absurd (Nat.lt_of_lt_of_le this hCge) (Nat.lt_irrefl _)
   ·refine wpAny_mono (T.item Y rfl rfl rfl hc i _ s4 σ4 H4 (λ_ _=>False) I4p (stat fr4 one) st4 go) (λr s5 hr =>?_) λ_ _ z=>z.elim;obtain⟨u,rfl,h5⟩:=hr;refine wpAny_mono h5 (λ_ s6 h6 =>?_) λ_ _ z=>z.elim;obtain⟨xv,H6,I6,r6,y6,st6,fr6⟩:=h6;have I6p:=I6.pinned (stat fr6 one) (T.obj _ _ st6);have after:∀{σ8:St}{H8:Hp}{s8:Shared},Inv Y _ σ8 H8 s8->_:=λ{σ8 H8 s8} (I8:Inv Y ([(D,{ cls :=.type "list",data :=.seq its.toArray its.length })]++z68 fp s6.heap) σ8 H8 s8)=>
     (show (s8.heap.get? D=some { cls :=.type "list",data :=.seq its.toArray its.length }/\H8 D=none)/\tn (i+1) s8.heap/\(∀b∈fp,H8 b=none)/\Inv Y [] σ8 H8 s8 from by
      have pD:=I8.pin (D,{ cls :=.type "list",data :=.seq its.toArray its.length }) (by simp);refine⟨⟨pD.1,pD.2.1⟩,T.keep _ _ _ st6 λb hb o e=>(I8.pin (b,o) (List.mem_append_right _ (List.mem_append_right _ (z2y hb e)))).1,λb hb =>?_,I8.pins_of (pins':=[]) λp hp=>by simp at hp⟩;obtain⟨o,e,d⟩:=T.obj _ _ st6 b hb;exact(I8.pin (b,o) (List.mem_append_right _ (List.mem_append_right _ (z2y hb e)))).2.1)
    refine wpAny_mono (hg C s2 H2 fp _ s6 σ4 H6 xv u _ I6p r6 (step xv H6 y6)) (λ_ s7 h7 =>?_) λ_ _ z=>z.elim;obtain⟨σ7,H7,I7,q7⟩:=h7;have yes:∀s7' H7',Inv Y _ σ7 H7' s7'->(te σ7 H7' λy H3=>∃m',m'<n/\W (i+1) m' (ys++[y]) σ7 H3)->_:=λs7' H7' (I7':Inv Y ([(D,{ cls :=.type "list",data :=.seq its.toArray its.length })]++z68 fp s6.heap) σ7 H7' s7') qe=>
     wpAny_mono (Q':=λyv s8=>wpAny (model X.prog X.w) X.A (call (.builtin "list.append") [.ref D,yv]) (λ_ s6=>∃m,m<n/\∃i ys its σ' H',Inv Y [] σ' H' s6/\s6.heap.get? D=some { cls :=.type "list",data :=.seq (its:List Value).toArray its.length }/\Vals ys its/\H' D=none/\tn i s6.heap/\(∀b∈fp,H' b=none)/\W i m ys σ' H') (notedBy (model X.prog X.w) X.A (compEnvC scope (z3T X.env scope.names []) C X.env) λe s'=>compPost (model X.prog X.w) X.A X.xe (some (assign (.Name y py) X.env)) (λ_ s'=>SP X pins Dn .next s') (.ref D) C (.error e) s') s8) (he C s2 H2 fp _ s7' σ7 H7' _ I7' qe) (λyv s8 h8=>by
      obtain⟨y,H8,I8,r8,m',hm',w8⟩:=h8;obtain⟨⟨pD1,pD2⟩,st8,fr8,I8u⟩:=after I8;refine append_at (hsz:=by rw[List.size_toArray, <- hl4]; exact Nat.le_of_lt hsz) pD1 λh9 sb9 hD9 =>?_;refine⟨m',hm',i+1,ys++[y],its++[yv],σ7,H8,I8u.turned (it:=D) (t':=s8.toks) (λb o n e=>sb9.extBut b o n e) pD2 hDC (.inr (by rw[hDD]; exact Nat.le_refl _)) (λy a e z=>by
        have:=cellD y a (cp.clo I2 e).1;rw[z] at this;exact Nat.lt_irrefl _ this) (λp hp=>by simp[Y] at hp),?_,Vals.append hv4 (.cons r8 .nil),pD2,T.keep _ _ _ st8 λb hb o e=>sb9.extBut b o (fpD b hb) e,fr8,w8⟩
      show h9.get? D=_;rw[hD9];simp) (E':=notedBy (model X.prog X.w) X.A (compEnvC scope (z3T X.env scope.names []) C X.env) λe s'=>compPost (model X.prog X.w) X.A X.xe (some (assign (.Name y py) X.env)) (λ_ s'=>SP X pins Dn .next s') (.ref D) C (.error e) s') (λ_ _ z=>z.elim)
    cases ct with
    | none=>
     have ht':tc=z6C:=ht;subst ht';simp only[zeF,if_true];have q7':if true=true then te σ7 H7 λy H3=>∃m',m'<n/\W (i+1) m' (ys++[y]) σ7 H3 else ∃m',m'<n/\W (i+1) m' ys σ7 H7:=q7
     rw[if_pos rfl] at q7';exact yes s7 H7 I7 q7'
    | some c=>
     refine wpAny_mono (ht C s2 H2 fp _ s7 σ7 H7 _ I7 q7) (λb s8 h8 =>?_) λ_ _ z=>z.elim;obtain⟨H8,I8,q8⟩:=h8
     cases b with
     | true=>
      rw[if_pos rfl] at q8 ⊢;exact yes s8 H8 I8 q8
     | false=>
      rw[if_neg Bool.false_ne_true] at q8 ⊢;obtain⟨m',hm',w8⟩:=q8;obtain⟨⟨pD1,pD2⟩,st8,fr8,I8u⟩:=after I8;exact⟨m',hm',i+1,ys,its,σ7,H8,I8u,pD1,hv4,pD2,st8,fr8,w8⟩
  ·rw[e3]; exact hacc
  ·rw[e3]; exact T.keep _ _ _ st2 λb _ o e=>old b o e
 exact codeAny_compStart_list (loop _ rfl) (T.self _ 0 _ _ _ (T.keep _ _ _ st2 λb _ o e=>old b o e) (loop _ rfl))
theorem zhy {elt iter target:Expr}{ct:Option Expr}{pos spos py:Pos}{y:Str}{iy:Nat}(hN:X.N.Nodup)(hiy:X.N[iy]? = some y)(hly:X.env.scope.names.lookup y=some .local){scope:Scope}{wi:TI}{g:TG}{tc:TT}{te:TE}{N':List Str}{nt:Nat}{js:List Nat}(hc:X.calm=true)(hi:QI X target iter wi)(hk:scope.kind = .function)(cp:z5z X N' nt js scope)
  (hg:∀(C:Addr) (s:Shared) (H:Hp) (fp:List Addr),QG (X.compG scope N' C s H fp) target g)
  (ht:match ct with
   | none=>tc=z6C
   | some c=>∀(C:Addr) (s:Shared) (H:Hp) (fp:List Addr),QT (X.compG scope N' C s H fp) c tc)
  (he:∀(C:Addr) (s:Shared) (H:Hp) (fp:List Addr),QE (X.compG scope N' C s H fp) elt te) (hsw:swapsWith (.ListComp elt [⟨target,iter,ct.toList,0⟩] scope pos) (some (.Name y py)) spos.line X.env=pure true:=by rfl) (hs:∀x,foldedSetIterable iter X.env x=pure x:=by intro _; rfl):QS X (.Assign [.Name y py] (.ListComp elt [⟨target,iter,ct.toList,0⟩] scope pos) spos) (tAsg (tLcG wi g tc te nt js) (z5Y iy)):=by
 refine⟨zhQ hN hiy hly hc hi.p hk cp (λC s H fp=>(hg C s H fp).p) ?_ (λC s H fp=>(he C s H fp).p) hsw hs⟩
 cases ct with
 | none=>exact ht
 | some c=>exact λC s H fp=>(ht C s H fp).p
end
end L2
namespace Pu
open PySem PySem.Spec PyProof.Rows L2
inductive D where
 | non | bl (b:Bool) | int (i:Int) | str (x:Str) | tup (l:List D) | lst (l:List D) | dct (ks vs:List D) | fn (n:Nat) | exc (x:Str)
instance:Inhabited D:=⟨.non⟩
noncomputable def z7g:Nat->Str
 | 0=>"turn_by" | 1=>"turn_among" | 2=>"step_of" | 3=>"step_among" | _=>""
noncomputable def kD:Key->D
 | .inl i =>.int i
 | .inr x =>.str x
section
variable (K:W.Frag)(mg:Str->Option Value)
mutual
/-- the value v stands for d,in the heap G -/
noncomputable def RD (G:Hp):D->V->Prop
 | .non,v=>v = .non
 | .bl b,v=>v = .bl b
 | .int i,v=>v = .int i
 | .str x,v=>v = .str x
 | .tup ds,v=>∃a xs,v = .ref a/\SqT K G a xs/\RDs G ds xs
 | .lst ds,v=>∃a xs,v = .ref a/\SqL K G a xs/\RDs G ds xs
 | .dct ks vs,v=>∃a xs,v = .ref a/\RDs G vs xs/\((∃kvs:List (Key × V),G a=some (.dK kvs)/\ks=kvs.map (λp=>kD p.1)/\xs=kvs.map (·.2))\/∃kvs:List (List Key × V),G a=some (.dT kvs)/\ks=kvs.map (λp =>.tup (p.1.map kD))/\xs=kvs.map (·.2))
 | .fn n,v=>∃f,v = .ref f/\mg (z7g n)=some (.ref f)
 | .exc x,v=>∃ea C,v = .ref ea/\G ea=some (.ext (zkf ea C))/\mg x=some (.ref C)
noncomputable def RDs (G:Hp):List D->List V->Prop
 | [],xs=>xs=[]
 | d::ds,xs=>∃x r,xs=x::r/\RD G d x/\RDs G ds r
end
end
section
variable {K:W.Frag}{mg:Str->Option Value}{G G' H H':Hp}
theorem Same.refl':Same H H:=λ_ _ h=>h
theorem z07 {A B C:Hp}(h:Same A B)(h':Same B C):Same A C:=λa o e=>h' a o (h a o e)
theorem z1K {a:Addr}{xs:List V}(e:Same G G')(h:SqL K G a xs):SqL K G' a xs:=by
 rcases h with (h | ⟨o,h⟩) | h
 ·exact .inl (.inl (e _ _ h))
 ·exact .inl (.inr ⟨o,e _ _ h⟩)
 ·exact .inr h
theorem z1c {a:Addr}{xs:List V}(e:Same G G')(h:SqT K G a xs):SqT K G' a xs:=by
 rcases h with (h | ⟨o,h⟩) | h
 ·exact .inl (.inl (e _ _ h))
 ·exact .inl (.inr ⟨o,e _ _ h⟩)
 ·exact .inr h
mutual
theorem RD.same (e:Same G G'):∀(d:D) {v:V},RD K mg G d v->RD K mg G' d v
 | .non,_,h=>by simpa[RD] using h
 | .bl _,_,h=>by simpa[RD] using h
 | .int _,_,h=>by simpa[RD] using h
 | .str _,_,h=>by simpa[RD] using h
 | .fn _,_,h=>by rw[RD] at h ⊢; exact h
 | .exc _,_,h=>by
  rw[RD] at h ⊢;obtain⟨ea,C,h1,h2,h3⟩:=h;exact⟨ea,C,h1,e _ _ h2,h3⟩
 | .tup ds,_,h=>by
  rw[RD] at h ⊢;obtain⟨a,xs,h1,h2,h3⟩:=h;exact⟨a,xs,h1,z1c e h2,RDs.same e ds h3⟩
 | .lst ds,_,h=>by
  rw[RD] at h ⊢;obtain⟨a,xs,h1,h2,h3⟩:=h;exact⟨a,xs,h1,z1K e h2,RDs.same e ds h3⟩
 | .dct ks vs,_,h=>by
  rw[RD] at h ⊢;obtain⟨a,xs,h1,h3,h4⟩:=h;refine⟨a,xs,h1,RDs.same e vs h3,?_⟩
  rcases h4 with ⟨kvs,q,r⟩ | ⟨kvs,q,r⟩
  ·exact .inl ⟨kvs,e _ _ q,r⟩
  ·exact .inr ⟨kvs,e _ _ q,r⟩
theorem RDs.same (e:Same G G'):∀(ds:List D) {xs:List V},RDs K mg G ds xs->RDs K mg G' ds xs
 | [],_,h=>by simpa[RDs] using h
 | d::ds,_,h=>by
  rw[RDs] at h ⊢;obtain⟨x,r,h1,h2,h3⟩:=h;exact⟨x,r,h1,RD.same e d h2,RDs.same e ds h3⟩
end
theorem RDs.nil:RDs K mg G [] []:=by rw[RDs]
theorem RDs.cons {d:D}{v:V}{ds:List D}{vs:List V}(h:RD K mg G d v)(t:RDs K mg G ds vs):RDs K mg G (d::ds) (v::vs):=by rw[RDs]; exact⟨v,vs,rfl,h,t⟩
theorem RDs.len:∀{ds:List D}{vs:List V},RDs K mg G ds vs->vs.length=ds.length
 | [],_,h=>by rw[RDs] at h; subst h; rfl
 | _::_,_,h=>by
  rw[RDs] at h;obtain⟨x,r,rfl,_,h3⟩:=h;simp[RDs.len h3]
theorem RDs.app:∀{ds es:List D}{vs us:List V},RDs K mg G ds vs->RDs K mg G es us->RDs K mg G (ds++es) (vs++us)
 | [],_,_,_,h,k=>by rw[RDs] at h; subst h; exact k
 | _::_,_,_,_,h,k=>by
  rw[RDs] at h;obtain⟨x,r,rfl,h2,h3⟩:=h;exact RDs.cons h2 (RDs.app h3 k)
theorem RDs.get:∀{ds:List D}{vs:List V}{i:Nat}{d:D},RDs K mg G ds vs->ds[i]? = some d->∃v,vs[i]? = some v/\RD K mg G d v
 | [],_,_,_,_,e=>by simp at e
 | _::_,_,0,_,h,e=>by
  rw[RDs] at h;obtain⟨x,r,rfl,h2,h3⟩:=h;simp at e; subst e;exact⟨x,rfl,h2⟩
 | _::_,_,i+1,_,h,e=>by
  rw[RDs] at h;obtain⟨x,r,rfl,h2,h3⟩:=h;obtain⟨v,e1,e2⟩:=RDs.get (i:=i) h3 (by simpa using e);exact⟨v,by simpa using e1,e2⟩
theorem RDs.take:∀{ds:List D}{vs:List V}(n:Nat),RDs K mg G ds vs->RDs K mg G (ds.take n) (vs.take n)
 | _,_,0,_=>by simp; exact RDs.nil
 | [],_,_+1,h=>by rw[RDs] at h; subst h; exact RDs.nil
 | _::_,_,n+1,h=>by
  rw[RDs] at h;obtain⟨x,r,rfl,h2,h3⟩:=h;exact RDs.cons h2 (RDs.take n h3)
theorem RDs.drop:∀{ds:List D}{vs:List V}(n:Nat),RDs K mg G ds vs->RDs K mg G (ds.drop n) (vs.drop n)
 | _,_,0,h=>by simpa using h
 | [],_,_+1,h=>by rw[RDs] at h; subst h; exact RDs.nil
 | _::_,_,n+1,h=>by
  rw[RDs] at h;obtain⟨x,r,rfl,h2,h3⟩:=h;exact RDs.drop n h3
theorem RDs.rev {ds:List D}{vs:List V}(h:RDs K mg G ds vs):RDs K mg G ds.reverse vs.reverse:=by
 induction ds generalizing vs with
 | nil=>rw[RDs] at h; subst h; exact RDs.nil
 | cons d ds ih=>
  rw[RDs] at h;obtain⟨x,r,rfl,h2,h3⟩:=h;rw[List.reverse_cons,List.reverse_cons];exact RDs.app (ih h3) (RDs.cons h2 RDs.nil)
theorem RDs.at {ds:List D}{vs:List V}{i:Int}{d:D}(h:RDs K mg G ds vs)(e:atI ds i=some d):∃v,atI vs i=some v/\RD K mg G d v:=by
 unfold atI at e ⊢;rw[h.len]
 cases q:ixN ds.length i with
 | none=>rw[q] at e; cases e
 | some j=>
  rw[q] at e;exact h.get e
theorem RDs.cut {ds:List D}{vs:List V}(lo hi:Option Int)(h:RDs K mg G ds vs):RDs K mg G ((ds.drop (HT.sIx ds.length 0 lo)).take (HT.sIx ds.length ds.length hi - HT.sIx ds.length 0 lo)) (cutV vs lo hi):=by
 unfold cutV;rw[h.len];exact(h.drop _).take _
end
inductive B where
 | n | s (d:D) | o (d:D)
noncomputable abbrev Env:=List B
noncomputable def B.get:B->Option D
 | .n=>none
 | .s d=>some d
 | .o d=>some d
noncomputable def Env.get (ρ:Env)(i:Nat):Option D:=match ρ,i with
 | [],_=>none
 | b::_,0=>b.get
 | _::r,i+1=>Env.get r i
theorem Env.get_eq:∀(ρ:Env) (i:Nat),Env.get ρ i=(ρ[i]?).bind B.get
 | [],i=>by simp[Env.get]
 | b::r,0=>by simp[Env.get]
 | b::r,i+1=>by simp[Env.get,Env.get_eq r i]
noncomputable abbrev DK:=D->Prop
noncomputable abbrev XP:=Str->Prop
structure Fn where
 run:List D->DK->XP->Prop
 mono:∀ds (Q Q':DK) (X X':XP),(∀d,Q d->Q' d)->(∀x,X x->X' x)->run ds Q X->run ds Q' X'
structure Ex where
 run:Env->DK->XP->Prop
 mono:∀ρ (Q Q':DK) (X X':XP),(∀d,Q d->Q' d)->(∀x,X x->X' x)->run ρ Q X->run ρ Q' X'
structure Sm where
 run:Env->(Env->Prop)->DK->XP->Prop
 mono:∀ρ (N N':Env->Prop) (Q Q':DK) (X X':XP),(∀ρ,N ρ->N' ρ)->(∀d,Q d->Q' d)->(∀x,X x->X' x)->run ρ N Q X->run ρ N' Q' X'
noncomputable def onV (o:Option D)(Q:DK):Prop:=match o with
 | some d=>Q d
 | none=>False
noncomputable def Ex.c (d:D):Ex:=⟨λ_ Q _=>Q d,λ_ _ _ _ _ m _ q=>m _ q⟩
noncomputable def Ex.v (i:Nat):Ex:=⟨λρ Q _=>onV (ρ.get i) Q,λρ Q Q' _ _ m _ q=>by
 show onV (ρ.get i) Q';have q':onV (ρ.get i) Q:=q
 cases e:ρ.get i with
 | none=>rw[e] at q'; exact q'
 | some d=>rw[e] at q'; exact m _ q'⟩
noncomputable def runs:List Ex->Env->(List D->Prop)->XP->Prop
 | [],_,Q,_=>Q []
 | e::es,ρ,Q,X=>e.run ρ (λd=>runs es ρ (λds=>Q (d::ds)) X) X
theorem z3V:∀(es:List Ex) (ρ:Env) (Q Q':List D->Prop) (X X':XP),(∀d,Q d->Q' d)->(∀x,X x->X' x)->runs es ρ Q X->runs es ρ Q' X'
 | [],_,_,_,_,_,m,_,q=>m _ q
 | e::es,ρ,Q,Q',X,X',m,mx,q=>e.mono ρ _ _ X X' (λd q1=>z3V es ρ _ _ X X' (λds q2=>m _ q2) mx q1) mx q
noncomputable def Ex.op (f:Fn)(es:List Ex):Ex:=⟨λρ Q X=>runs es ρ (λds=>f.run ds Q X) X,λρ Q Q' X X' m mx q=>z3V es ρ _ _ X X' (λds q1=>f.mono ds Q Q' X X' m mx q1) mx q⟩
noncomputable def tst (d:D)(A B:Prop):Prop:=match d with
 | .bl b=>(b=true->A)/\(b=false->B)
 | _=>False
theorem z2V {d:D}{A A' B B':Prop}(ha:A->A')(hb:B->B')(h:tst d A B):tst d A' B':=by
 cases d with
 | bl b=>exact⟨λe=>ha (h.1 e),λe=>hb (h.2 e)⟩
 | _=>exact h.elim
theorem z8T {d:D}{A B:Prop}(h:tst d A B):∃b,d = .bl b/\(b=true->A)/\(b=false->B):=by
 cases d with
 | bl b=>exact⟨b,rfl,h⟩
 | _=>exact h.elim
noncomputable def Ex.and (a b:Ex):Ex:=⟨λρ Q X=>a.run ρ (λd=>tst d (b.run ρ Q X) (Q (.bl false))) X,λρ Q Q' X X' m mx q=>a.mono ρ _ _ X X' (λd q1=>z2V (b.mono ρ Q Q' X X' m mx) (m _) q1) mx q⟩
noncomputable def Ex.or (a b:Ex):Ex:=⟨λρ Q X=>a.run ρ (λd=>tst d (Q (.bl true)) (b.run ρ Q X)) X,λρ Q Q' X X' m mx q=>a.mono ρ _ _ X X' (λd q1=>z2V (m _) (b.mono ρ Q Q' X X' m mx) q1) mx q⟩
noncomputable def Ex.not (a:Ex):Ex:=⟨λρ Q X=>a.run ρ (λd=>match d with | .bl b=>Q (.bl (!b)) | _=>False) X,λρ Q Q' X X' m mx q=>a.mono ρ _ _ X X' (λd q1=>by
 cases d with
 | bl b=>exact m _ q1
 | _=>exact q1.elim) mx q⟩
noncomputable def Ex.ifx (c a b:Ex):Ex:=⟨λρ Q X=>c.run ρ (λd=>tst d (a.run ρ Q X) (b.run ρ Q X)) X,λρ Q Q' X X' m mx q=>c.mono ρ _ _ X X' (λd q1=>z2V (a.mono ρ Q Q' X X' m mx) (b.mono ρ Q Q' X X' m mx) q1) mx q⟩
inductive Tg where
 | nm (i:Nat) | tp (is:List Nat)
noncomputable def z6H:List Nat->List D->Env->Env
 | i::is,d::ds,ρ=>z6H is ds (ρ.set i (.s d))
 | _,_,ρ=>ρ
noncomputable def Tg.put (t:Tg)(d:D)(ρ:Env)(K:Env->Prop):Prop:=match t,d with
 | .nm i,d=>K (ρ.set i (.s d))
 | .tp is,.tup ds=>is.length=ds.length/\K (z6H is ds ρ)
 | _,_=>False
theorem Tg.put_mono {t:Tg}{d:D}{ρ:Env}{K K':Env->Prop}(m:∀ρ,K ρ->K' ρ)(h:t.put d ρ K):t.put d ρ K':=by
 cases t with
 | nm i=>exact m _ h
 | tp is=>
  cases d with
  | tup ds=>exact⟨h.1,m _ h.2⟩
  | _=>exact h.elim
noncomputable def z06:D->Option (List D)
 | .lst l=>some l
 | .tup l=>some l
 | .str x=>some (x.cps.toList.map λc =>.str ⟨#[c]⟩)
 | _=>none
noncomputable def onL (o:Option (List D))(Q:List D->Prop):Prop:=match o with
 | some l=>Q l
 | none=>False
theorem zaI {o:Option (List D)}{Q Q':List D->Prop}(m:∀l,Q l->Q' l)(h:onL o Q):onL o Q':=by
 cases o with
 | none=>exact h
 | some l=>exact m _ h
noncomputable def z5u (f:D->(Option D->Prop)->Prop):List D->(List D->Prop)->Prop
 | [],N=>N []
 | x::xs,N=>f x λo=>z5u f xs λr=>N (o.toList++r)
theorem z4r {f f':D->(Option D->Prop)->Prop}(hf:∀x K K',(∀o,K o->K' o)->f x K->f' x K'):∀(xs:List D) (N N':List D->Prop),(∀l,N l->N' l)->z5u f xs N->z5u f' xs N'
 | [],_,_,m,q=>m _ q
 | x::xs,N,N',m,q=>hf x _ _ (λo q1=>z4r hf xs _ _ (λr q2=>m _ q2) q1) q
noncomputable def z1s (nt:Nat)(js:List Nat)(ρ:Env):Env:=List.replicate nt .n++js.map λj=>(ρ[j]?).getD .n
noncomputable def z5v (t:Tg)(c:Option Ex)(elt:Ex)(ρ:Env)(x:D)(K:Option D->Prop):Prop:=
 t.put x ρ λρ'=>match c with
  | none=>elt.run ρ' (λd=>K (some d)) (λ_=>False)
  | some c=>c.run ρ' (λb=>tst b (elt.run ρ' (λd=>K (some d)) (λ_=>False)) (K none)) (λ_=>False)
theorem z60 {t:Tg}{c:Option Ex}{elt:Ex}{ρ:Env}(x:D)(K K':Option D->Prop)(m:∀o,K o->K' o)(h:z5v t c elt ρ x K):z5v t c elt ρ x K':=by
 refine Tg.put_mono (λρ' q =>?_) h
 cases c with
 | none=>exact elt.mono ρ' _ _ _ _ (λd q1=>m _ q1) (λ_ z=>z) q
 | some c=>exact c.mono ρ' _ _ _ _ (λb q1=>z2V (elt.mono ρ' _ _ _ _ (λd q2=>m _ q2) (λ_ z=>z)) (m _) q1) (λ_ z=>z) q
noncomputable def Ex.comp (nt:Nat)(js:List Nat)(t:Tg)(src:Ex)(c:Option Ex)(elt:Ex):Ex:=
 ⟨λρ Q X=>src.run ρ (λd=>onL (z06 d) λl=>l.length<sizeLine/\z5u (z5v t c elt (z1s nt js ρ)) l λr=>Q (.lst r)) X,λρ Q Q' X X' m mx q=>
  src.mono ρ _ _ X X' (λd q1=>zaI (λl q2=>⟨q2.1,z4r z60 l _ _ (λr q3=>m _ q3) q2.2⟩) q1) mx q⟩
noncomputable def Sm.skip:Sm:=⟨λρ N _ _=>N ρ,λ_ _ _ _ _ _ _ m _ _ q=>m _ q⟩
noncomputable def Sm.seq (a b:Sm):Sm:=⟨λρ N Q X=>a.run ρ (λρ'=>b.run ρ' N Q X) Q X,λρ N N' Q Q' X X' mn m mx q=>a.mono ρ _ _ Q Q' X X' (λρ' q1=>b.mono ρ' N N' Q Q' X X' mn m mx q1) m mx q⟩
mutual
noncomputable def noL:D->Bool
 | .lst _=>false
 | .tup l=>noLs l
 | .dct ks vs=>noLs vs
 | _=>true
noncomputable def noLs:List D->Bool
 | []=>true
 | d::ds=>noL d && noLs ds
end
mutual
noncomputable def noD:D->Bool
 | .dct _ _=>false
 | .tup l=>noDs l
 | .lst l=>noDs l
 | _=>true
noncomputable def noDs:List D->Bool
 | []=>true
 | d::ds=>noD d && noDs ds
end
noncomputable def zh8 (d:D):B->Prop
 | .o (.lst _)=>noL d=true
 | .o (.dct _ _)=>noD d=true
 | _=>True
noncomputable def Safe (d:D):Env->Prop
 | []=>True
 | b::r=>zh8 d b/\Safe d r
noncomputable def zeG (d:D)(ρ:Env):Prop:=match d with
 | .lst l=>∀x∈l,Safe x ρ
 | .dct _ vs=>∀x∈vs,Safe x ρ
 | _=>False
noncomputable def Sm.set (i:Nat)(e:Ex):Sm:=⟨λρ N _ X=>e.run ρ (λd=>Safe d (ρ.set i .n)/\N (ρ.set i (.s d))) X,λρ N N' Q Q' X X' mn m mx q=>e.mono ρ _ _ X X' (λd q1=>⟨q1.1,mn _ q1.2⟩) mx q⟩
noncomputable def Sm.own (i:Nat)(e:Ex):Sm:=⟨λρ N _ X=>e.run ρ (λd=>zeG d (ρ.set i .n)/\N (ρ.set i (.o d))) X,λρ N N' Q Q' X X' mn m mx q=>e.mono ρ _ _ X X' (λd q1=>⟨q1.1,mn _ q1.2⟩) mx q⟩
noncomputable def demB:B->B
 | .o d =>.s d
 | b=>b
noncomputable def dem:List Nat->Env->Env
 | [],ρ=>ρ
 | j::js,ρ=>dem js (ρ.set j (demB ((ρ[j]?).getD .n)))
noncomputable def visB:B->B
 | .o _ =>.n
 | b=>b
noncomputable def vis (ρ:Env):Env:=ρ.map visB
noncomputable def Sm.setx (js:List Nat)(i:Nat)(e:Ex):Sm:=⟨λρ N _ X=>e.run (vis (dem js ρ)) (λd=>N ((dem js ρ).set i (.s d))) X,λρ N N' Q Q' X X' mn m mx q=>e.mono _ _ _ X X' (λd q1=>mn _ q1) mx q⟩
noncomputable def Sm.ifs (c:Ex)(a b:Sm):Sm:=⟨λρ N Q X=>c.run ρ (λd=>tst d (a.run ρ N Q X) (b.run ρ N Q X)) X,λρ N N' Q Q' X X' mn m mx q=>c.mono ρ _ _ X X' (λd q1=>z2V (a.mono ρ N N' Q Q' X X' mn m mx) (b.mono ρ N N' Q Q' X X' mn m mx) q1) mx q⟩
noncomputable def Sm.ret (e:Ex):Sm:=⟨λρ _ Q X=>e.run ρ Q X,λρ N N' Q Q' X X' mn m mx q=>e.mono ρ _ _ X X' m mx q⟩
noncomputable def Sm.retN:Sm:=⟨λ_ _ Q _=>Q .non,λρ N N' Q Q' X X' mn m mx q=>m _ q⟩
noncomputable def Sm.ex (e:Ex):Sm:=⟨λρ N _ X=>e.run ρ (λ_=>N ρ) X,λρ N N' Q Q' X X' mn m mx q=>e.mono ρ _ _ X X' (λ_ q1=>mn _ q1) mx q⟩
noncomputable def Sm.raise (x:Str):Sm:=⟨λ_ _ _ X=>X x,λρ N N' Q Q' X X' mn m mx q=>mx _ q⟩
noncomputable def wh (c:Ex)(b:Sm)(N:Env->Prop)(Q:DK)(X:XP):Nat->Env->Prop
 | 0,_=>False
 | n+1,ρ=>c.run ρ (λd=>tst d (b.run ρ (wh c b N Q X n) Q X) (N ρ)) X
theorem zbN {c:Ex}{b:Sm}{N N':Env->Prop}{Q Q':DK}{X X':XP}(mn:∀ρ,N ρ->N' ρ)(m:∀d,Q d->Q' d)(mx:∀x,X x->X' x):∀(n:Nat) (ρ:Env),wh c b N Q X n ρ->wh c b N' Q' X' n ρ
 | 0,_,q=>q
 | n+1,ρ,q=>c.mono ρ _ _ X X' (λd q1=>z2V (b.mono ρ _ _ Q Q' X X' (λρ' q2=>zbN mn m mx n ρ' q2) m mx) (mn ρ) q1) mx q
noncomputable def Sm.wh (c:Ex)(b:Sm):Sm:=⟨λρ N Q X=>∃n,Pu.wh c b N Q X n ρ,λρ N N' Q Q' X X' mn m mx ⟨n,q⟩=>⟨n,zbN mn m mx n ρ q⟩⟩
noncomputable def forL (t:Tg)(b:Sm)(N:Env->Prop)(Q:DK)(X:XP):List D->Env->Prop
 | [],ρ=>N ρ
 | x::xs,ρ=>t.put x ρ λρ'=>b.run ρ' (forL t b N Q X xs) Q X
theorem z7f {t:Tg}{b:Sm}{N N':Env->Prop}{Q Q':DK}{X X':XP}(mn:∀ρ,N ρ->N' ρ)(m:∀d,Q d->Q' d)(mx:∀x,X x->X' x):∀(l:List D) (ρ:Env),forL t b N Q X l ρ->forL t b N' Q' X' l ρ
 | [],_,q=>mn _ q
 | x::xs,ρ,q=>Tg.put_mono (λρ' q1=>b.mono ρ' _ _ Q Q' X X' (λρ2 q2=>z7f mn m mx xs ρ2 q2) m mx q1) q
noncomputable def Sm.for_ (js:List Nat)(t:Tg)(src:Ex)(b:Sm):Sm:=⟨λρ N Q X=>src.run (vis (dem js ρ)) (λd=>onL (z06 d) λl=>forL t b N Q X l (dem js ρ)) X,λρ N N' Q Q' X X' mn m mx q=>src.mono _ _ _ X X' (λd q1=>zaI (λl q2=>z7f mn m mx l _ q2) q1) mx q⟩
noncomputable def onR (ds:List D)(K:List D->Prop):Prop:=match ds with
 | [.int j]=>(-(2 ^ 62)<=j/\j<2 ^ 62)/\K ((List.range j.toNat).map λ(k:Nat) =>.int (k:Int))
 | [.int i,.int j]=>((-(2 ^ 62)<=i/\i<2 ^ 62) /\ -(2 ^ 62)<=j/\j<2 ^ 62)/\K ((List.range (j - i).toNat).map λ(k:Nat) =>.int (i+(k:Int)))
 | _=>False
theorem zaG {ds:List D}{K K':List D->Prop}(m:∀l,K l->K' l)(h:onR ds K):onR ds K':=by
 unfold onR at h ⊢
 split at h
 ·exact⟨h.1,m _ h.2⟩
 ·exact⟨h.1,m _ h.2⟩
 ·exact h.elim
noncomputable def Sm.forr (es:List Ex)(t:Tg)(b:Sm):Sm:=⟨λρ N Q X=>runs es ρ (λds=>onR ds λl=>forL t b N Q X l ρ) X,λρ N N' Q Q' X X' mn m mx q=>z3V es ρ _ _ X X' (λd q1=>zaG (λl q2=>z7f mn m mx l _ q2) q1) mx q⟩
noncomputable def ownL (ρ:Env)(i:Nat)(K:List D->Prop):Prop:=match ρ[i]? with
 | some (.o (.lst l))=>K l
 | _=>False
theorem z6Q {ρ:Env}{i:Nat}{K K':List D->Prop}(m:∀l,K l->K' l)(h:ownL ρ i K):ownL ρ i K':=by
 unfold ownL at h ⊢
 split <;> rename_i e
 ·rw[e] at h; exact m _ h
 ·split at h
  ·rename_i l e'; exact(e l e').elim
  ·exact h
noncomputable def Sm.app (i:Nat)(e:Ex):Sm:=⟨λρ N _ X=>ownL ρ i λl=>e.run ρ (λd=>l.length<sizeLine/\Safe d ρ/\N (ρ.set i (.o (.lst (l++[d]))))) X,λρ N N' Q Q' X X' mn m mx q=>z6Q (λl q1=>e.mono ρ _ _ X X' (λd q2=>⟨q2.1,q2.2.1,mn _ q2.2.2⟩) mx q1) q⟩
noncomputable def popL (l:List D)(K:List D->D->Prop):Prop:=match l[l.length - 1]? with
 | some d=>K l.dropLast d
 | none=>False
theorem zck {l:List D}{K K':List D->D->Prop}(m:∀l d,K l d->K' l d)(h:popL l K):popL l K':=by
 unfold popL at h ⊢
 split <;> rename_i e
 ·rw[e] at h; exact m _ _ h
 ·rw[e] at h; exact h
noncomputable def Sm.pop (i:Nat):Sm:=⟨λρ N _ _=>ownL ρ i λl=>popL l λl' _=>N (ρ.set i (.o (.lst l'))),λρ N N' Q Q' X X' mn m mx q=>z6Q (λl q1=>zck (λ_ _ q2=>mn _ q2) q1) q⟩
noncomputable def isLs (d:D)(K:List D->Prop):Prop:=match d with
 | .lst l=>K l
 | _=>False
theorem z9h {d:D}{K K':List D->Prop}(m:∀j,K j->K' j)(h:isLs d K):isLs d K':=by
 cases d with
 | lst l=>exact m _ h
 | _=>exact h.elim
noncomputable def Sm.ext (i:Nat)(e:Ex):Sm:=⟨λρ N _ X=>ownL ρ i λl=>e.run ρ (λd=>isLs d λm=>l.length+m.length<=sizeLine/\(∀x∈m,Safe x ρ)/\N (ρ.set i (.o (.lst (l++m))))) X,λρ N N' Q Q' X X' mn m mx q=>z6Q (λl q1=>e.mono ρ _ _ X X' (λd q2=>z9h (λm q3=>⟨q3.1,q3.2.1,mn _ q3.2.2⟩) q2) mx q1) q⟩
noncomputable def isI (d:D)(K:Int->Prop):Prop:=match d with
 | .int i=>K i
 | _=>False
theorem z8v {d:D}{K K':Int->Prop}(m:∀j,K j->K' j)(h:isI d K):isI d K':=by
 cases d with
 | int i=>exact m _ h
 | _=>exact h.elim
noncomputable def Fn.mk' (np nn:Nat)(b:Sm):Fn:=⟨λds Q X=>ds.length=np/\b.run (ds.map B.s++List.replicate (nn - np) .n) (λ_=>Q .non) Q X,λds Q Q' X X' m mx q=>⟨q.1,b.mono _ _ _ Q Q' X X' (λ_ q1=>m _ q1) m mx q.2⟩⟩
noncomputable def Fn.mkN (np nn:Nat)(b:Sm):Fn:=⟨λds Q _=>ds.length=np/\b.run (ds.map B.s++List.replicate (nn - np) .n) (λ_=>Q .non) Q (λ_=>False),λds Q Q' X X' m mx q=>⟨q.1,b.mono _ _ _ Q Q' _ _ (λ_ q1=>m _ q1) m (λ_ z=>z) q.2⟩⟩
noncomputable def Sm.calm (b:Sm):Sm:=⟨λρ N Q _=>b.run ρ N Q (λ_=>False),λρ N N' Q Q' X X' mn m mx q=>b.mono ρ N N' Q Q' _ _ mn m (λ_ z=>z) q⟩
end Pu
namespace Pu
open PySem PySem.Spec PyProof.Rows L2
noncomputable def AbE (K:W.Frag)(mg:Str->Option Value)(G:Hp)(ρ:Pu.Env)(σ:L2.St):Prop:=∀i d,ρ.get i=some d->∃v,σ[i]? = some (some v)/\RD K mg G d v
noncomputable def Gr (G H G':Hp):Prop:=Same G G'/\∀a o,G' a=some o->(∃u,G a=some u)\/H a=none
theorem Gr.refl {G H:Hp}:Gr G H G:=⟨Same.refl',λa o e =>.inl ⟨o,e⟩⟩
theorem Gr.trans {G H G1 H1 G2:Hp}(h:Gr G H G1)(k:Same H H1)(h':Gr G1 H1 G2):Gr G H G2:=⟨z07 h.1 h'.1,λa o e=>by
 rcases h'.2 a o e with ⟨u,q⟩ | q
 ·exact h.2 a u q
 ·refine .inr ?_
  cases z:H a with
  | none=>rfl
  | some w=>rw[k a w z] at q; cases q⟩
theorem Gr.new {G H:Hp}{p:Addr}{o:HO}(g:Same G H)(hp:H p=none):Gr G H (upd G p o):=by
 have gp:G p=none:=by
  cases e:G p with
  | none=>rfl
  | some u=>rw[g p u e] at hp; cases hp
 refine⟨z0B gp o,λa u e =>?_⟩
 by_cases ha:a=p
 ·subst ha; exact .inr hp
 ·rw[z0f ha] at e; exact .inl ⟨u,e⟩
noncomputable def Kt (K:W.Frag)(mg:Str->Option Value)(G H:Hp)(Q0:DK)(Q:VK):Prop:=∀d v G' H',Q0 d->Gr G H G'->Same G' H'->Same H H'->RD K mg G' d v->Q v H'
noncomputable def Kts (K:W.Frag)(mg:Str->Option Value)(G H:Hp)(Q0:List D->Prop)(Q:List V->Hp->Prop):Prop:=∀ds vs G' H',Q0 ds->Gr G H G'->Same G' H'->Same H H'->RDs K mg G' ds vs->Q vs H'
noncomputable def Kx (mg:Str->Option Value)(H:Hp)(X0:XP)(E:XK):Prop:=∀x C H',X0 x->mg x=some (.ref C)->Same H H'->E (.ref C) none H'
noncomputable def tx (K:W.Frag)(mg:Str->Option Value)(E:XK)(e:Ex):TE:=λσ H Q=>∃G ρ Q0 X0,Same G H/\AbE K mg G ρ σ/\e.run ρ Q0 X0/\Kt K mg G H Q0 Q/\Kx mg H X0 E
noncomputable def txa (K:W.Frag)(mg:Str->Option Value)(E:XK)(es:List Ex):TA:=λσ H Q=>∃G ρ Q0 X0,Same G H/\AbE K mg G ρ σ/\runs es ρ Q0 X0/\Kts K mg G H Q0 Q/\Kx mg H X0 E
noncomputable def tt (K:W.Frag)(mg:Str->Option Value)(E:XK)(e:Ex):TT:=λσ H Q=>∃G ρ Q0 X0,Same G H/\AbE K mg G ρ σ/\e.run ρ Q0 X0/\(∀d G' H',Q0 d->Gr G H G'->Same G' H'->Same H H'->∃b,d = .bl b/\Q b H')/\Kx mg H X0 E
section
variable {K:W.Frag}{mg:Str->Option Value}{G G' H H':Hp}{ρ:Pu.Env}{σ:L2.St}{Q0:DK}{Q:VK}{X0:XP}{E:XK}
theorem AbE.same (h:AbE K mg G ρ σ)(g:Same G G'):AbE K mg G' ρ σ:=λi d e=>by
 obtain⟨v,h1,h2⟩:=h i d e;exact⟨v,h1,h2.same g⟩
theorem Kt.same (h:Kt K mg G H Q0 Q)(g:Gr G H G')(k:Same H H'):Kt K mg G' H' Q0 Q:=λd v G1 H1 q a b c r=>h d v G1 H1 q (g.trans k a) b (z07 k c) r
theorem Kx.same (h:Kx mg H X0 E)(k:Same H H'):Kx mg H' X0 E:=λx C H1 q m c=>h x C H1 q m (z07 k c)
theorem Kx.no {E:XK}:Kx mg H (λ_=>False) E:=λ_ _ _ z=>z.elim
theorem Kt.now {d:D}{v:V}(h:Kt K mg G H Q0 Q)(g:Same G H)(q:Q0 d)(r:RD K mg G d v):Q v H:=h d v G H q Gr.refl g Same.refl' r
theorem Kt.new {d:D}{p:Addr}{o:HO}{v:V}(h:Kt K mg G H Q0 Q)(g:Same G H)(hp:H p=none)(q:Q0 d)(r:RD K mg (upd G p o) d v):Q v (upd H p o):=by
 have gp:G p=none:=by
  cases e:G p with
  | none=>rfl
  | some u=>rw[g p u e] at hp; cases hp
 refine h d v (upd G p o) (upd H p o) q (Gr.new g hp) (λb u e =>?_) (z0B hp o) r
 by_cases hb:b=p
 ·subst hb; rw[z0t] at e ⊢; exact e
 ·rw[z0f hb] at e ⊢; exact g b u e
theorem z1d (g:Same G H){p:Addr}(hp:H p=none):G p=none:=by
 cases e:G p with
 | none=>rfl
 | some u=>rw[g p u e] at hp; cases hp
end
noncomputable def Lk2 (K:W.Frag)(mg:Str->Option Value)(F:Fn)(r:R2):Prop:=∀(G H:Hp) (d1 d2:D) (v1 v2:V) (Q0:DK) (X0:XP) (Q:VK),Same G H->RD K mg G d1 v1->RD K mg G d2 v2->F.run [d1,d2] Q0 X0->Kt K mg G H Q0 Q->r v1 v2 H Q
noncomputable def Lk1 (K:W.Frag)(mg:Str->Option Value)(F:Fn)(r:V->Hp->VK->Prop):Prop:=∀(G H:Hp) (d:D) (v:V) (Q0:DK) (X0:XP) (Q:VK),Same G H->RD K mg G d v->F.run [d] Q0 X0->Kt K mg G H Q0 Q->r v H Q
noncomputable def LkN (K:W.Frag)(mg:Str->Option Value)(F:Fn)(r:List V->Hp->VK->Prop):Prop:=∀(G H:Hp) (ds:List D) (vs:List V) (Q0:DK) (X0:XP) (Q:VK),Same G H->RDs K mg G ds vs->F.run ds Q0 X0->Kt K mg G H Q0 Q->r vs H Q
section
variable {K:W.Frag}{mg:Str->Option Value}{E:XK}{σ:L2.St}{H:Hp}{Q:VK}{a b c:Ex}{F:Fn}{es:List Ex}
theorem tx2 {r:R2}(lk:Lk2 K mg F r)(h:tx K mg E (.op F [a,b]) σ H Q):tOp r (tx K mg E a) (tx K mg E b) σ H Q:=by
 obtain⟨G,ρ,Q0,X0,hs,ab,hr,hk,hx⟩:=h;refine⟨G,ρ,λd=>b.run ρ (λd'=>F.run [d,d'] Q0 X0) X0,X0,hs,ab,hr,?_,hx⟩;intro d v G1 H1 hb g1 g2 g3 rd;refine⟨G1,ρ,λd'=>F.run [d,d'] Q0 X0,X0,g2,ab.same g1.1,hb,?_,hx.same g3⟩;intro d' v' G2 H2 hF k1 k2 k3 rd';exact lk G2 H2 d d' v v' Q0 X0 Q k2 (rd.same k1.1) rd' hF (hk.same (g1.trans g3 k1) (z07 g3 k3))
theorem tx1 {r:V->Hp->VK->Prop}(lk:Lk1 K mg F r)(h:tx K mg E (.op F [a]) σ H Q):tUn r (tx K mg E a) σ H Q:=by
 obtain⟨G,ρ,Q0,X0,hs,ab,hr,hk,hx⟩:=h;refine⟨G,ρ,λd=>F.run [d] Q0 X0,X0,hs,ab,hr,?_,hx⟩;intro d v G1 H1 hF g1 g2 g3 rd;exact lk G1 H1 d v Q0 X0 Q g2 rd hF (hk.same g1 g3)
theorem txN {r:List V->Hp->VK->Prop}(lk:LkN K mg F r)(h:tx K mg E (.op F es) σ H Q):tCB r (txa K mg E es) σ H Q:=by
 obtain⟨G,ρ,Q0,X0,hs,ab,hr,hk,hx⟩:=h;refine⟨G,ρ,λds=>F.run ds Q0 X0,X0,hs,ab,hr,?_,hx⟩;intro ds vs G1 H1 hF g1 g2 g3 rd;exact lk G1 H1 ds vs Q0 X0 Q g2 rd hF (hk.same g1 g3)
end
theorem QE.imp {X:Cx}{e:Expr}{t t':TE}(h:QE X e t)(i:∀σ H Q,t' σ H Q->t σ H Q):QE X e t':=⟨h.p.imp i⟩
theorem QT.imp {X:Cx}{e:Expr}{t t':TT}(h:QT X e t)(i:∀σ H Q,t' σ H Q->t σ H Q):QT X e t':=⟨λpins s σ H Q I q=>h.p pins s σ H Q I (i σ H Q q)⟩
theorem QA.imp {X:Cx}{e:List Expr}{t t':TA}(h:QA X e t)(i:∀σ H Q,t' σ H Q->t σ H Q):QA X e t':=⟨λpos pins s σ H Q I q=>h.p pos pins s σ H Q I (i σ H Q q)⟩
theorem QW.imp {X:Cx}{e:Expr}{t t':TT}(h:QW X e t)(i:∀σ H Q,t' σ H Q->t σ H Q):QW X e t':=⟨λw pins s σ H Q I q=>h.p w pins s σ H Q I (i σ H Q q)⟩
theorem QS.imp {X:Cx}{e:Stmt}{t t':TS}(h:QS X e t)(i:∀D σ H,t' D σ H->t D σ H):QS X e t':=⟨λpins s σ H D I q=>h.p pins s σ H D I (i D σ H q)⟩
theorem QSs.imp {X:Cx}{e:List Stmt}{t t':TS}(h:QSs X e t)(i:∀D σ H,t' D σ H->t D σ H):QSs X e t':=⟨λpins s σ H D I q=>h.p pins s σ H D I (i D σ H q)⟩
theorem QI.imp {X:Cx}{tg e:Expr}{t t':TI}(h:QI X tg e t)(i:∀σ H R,t' σ H R->t σ H R):QI X tg e t':=⟨λpins s σ H R I q=>h.p pins s σ H R I (i σ H R q)⟩
noncomputable abbrev QX (X:Cx)(E:XK)(e:Expr)(x:Ex):Prop:=QE X e (tx X.K X.mg E x)
noncomputable abbrev QXT (X:Cx)(E:XK)(e:Expr)(x:Ex):Prop:=QT X e (tt X.K X.mg E x)
noncomputable abbrev QXW (X:Cx)(E:XK)(e:Expr)(x:Ex):Prop:=QW X e (tt X.K X.mg E x)
noncomputable abbrev QXA (X:Cx)(E:XK)(es:List Expr)(x:List Ex):Prop:=QA X es (txa X.K X.mg E x)
section
variable {X:Cx}{E:XK}{e a b c:Expr}{x y z:Ex}{pos:Pos}{es:List Expr}{xs:List Ex}{rest:List Expr}
theorem qx_c {d:D}{v:V}(h:QE X e (tC v))(r:∀G,RD X.K X.mg G d v):QX X E e (.c d):=QE.imp h λσ H Q ⟨G,ρ,Q0,X0,hs,ab,hr,hk,hx⟩=>hk.now hs hr (r G)
theorem qx_v {i:Nat}(h:QE X e (tVar i)):QX X E e (.v i):=QE.imp h λσ H Q ⟨G,ρ,Q0,X0,hs,ab,hr,hk,hx⟩=>by
 have hr':onV (ρ.get i) Q0:=hr
 cases q:ρ.get i with
 | none=>rw[q] at hr'; exact hr'.elim
 | some d=>
  rw[q] at hr';obtain⟨v,h1,h2⟩:=ab i d q;exact⟨v,h1,hk.now hs hr' h2⟩
theorem z03 {i:Int}{j:Nat}:QX X E (.Constant (.int i) j pos) (.c (.int i)):=qx_c zhG λ_=>by rw[RD]
theorem zbe {i:Bool}{j:Nat}:QX X E (.Constant (.bool i) j pos) (.c (.bl i)):=qx_c zjt λ_=>by rw[RD]
theorem zeS {j:Nat}:QX X E (.Constant .none j pos) (.c .non):=qx_c zhD λ_=>by rw[RD]
theorem z05 {op:Operator}{F:Fn}{r:R2}(ho:OpR X (binaryOp op) r)(lk:Lk2 X.K X.mg F r)(ha:QX X E a x)(hb:QX X E b y):QX X E (.BinOp a op b pos) (.op F [x,y]):=QE.imp (zhB ho ha hb) λ_ _ _ h=>tx2 lk h
theorem z8g {op:UnaryOp}{F:Fn}{r:V->Hp->VK->Prop}(ho:UnR X (unaryOp op) r)(lk:Lk1 X.K X.mg F r)(ha:QX X E a x):QX X E (.UnaryOp op a pos) (.op F [x]):=QE.imp (zjq ho ha) λ_ _ _ h=>tx1 lk h
theorem z67 {op:CmpOp}{F:Fn}{r:R2}(ho:OpR X (compareOp op) r)(lk:Lk2 X.K X.mg F r)(ha:QX X E a x)(hb:QX X E b y)(hm:behindInMarks op b=false):QX X E (.Compare a [op] [b] pos) (.op F [x,y]):=QE.imp (zfS ho ha hb hm) λ_ _ _ h=>tx2 lk h
theorem zfp {t:TE}{σ:L2.St}{H:Hp}{Q:Bool->Hp->Prop}(m:∀Q,tx X.K X.mg E x σ H Q->t σ H Q)(h:tt X.K X.mg E x σ H Q):zfv t σ H Q:=by
 obtain⟨G,ρ,Q0,X0,hs,ab,hr,hk,hx⟩:=h;refine m _ ⟨G,ρ,Q0,X0,hs,ab,hr,λd v G' H' q g1 g2 g3 rd =>?_,hx⟩;obtain⟨b,rfl,q'⟩:=hk d G' H' q g1 g2 g3;rw[RD] at rd;exact⟨b,rd,q'⟩
theorem z1t {op:CmpOp}{F:Fn}{r:R2}(ho:OpR X (compareOp op) r)(lk:Lk2 X.K X.mg F r)(ha:QX X E a x)(hb:QX X E b y)(hm:behindInMarks op b=false):QXT X E (.Compare a [op] [b] pos) (.op F [x,y]):=QT.imp (zfK ho ha hb hm) λσ H Q h=>zfp (λ_ h=>tx2 lk h) h
theorem z3x (h:QX X E e x)(he:∀whole,isTrue e X.env whole=(do let v <- whole; standAt e.pos; holding [v] (truthy v)):=by intro _; rfl):QXT X E e x:=QT.imp (zhv h he) λσ H Q h=>by
 obtain⟨G,ρ,Q0,X0,hs,ab,hr,hk,hx⟩:=h;refine⟨G,ρ,Q0,X0,hs,ab,hr,λd v G' H' q g1 g2 g3 rd =>?_,hx⟩;obtain⟨b,rfl,q'⟩:=hk d G' H' q g1 g2 g3;rw[RD] at rd;exact⟨b,rd,q'⟩
theorem z5E (ha:QXT X E a x):QXT X E (.UnaryOp .Not a pos) (.not x):=QT.imp (zhw ha) λσ H Q ⟨G,ρ,Q0,X0,hs,ab,hr,hk,hx⟩=>by
 refine⟨G,ρ,_,X0,hs,ab,hr,λd G' H' q g1 g2 g3 =>?_,hx⟩
 cases d with
 | bl b=>
  obtain⟨b',e,q'⟩:=hk (.bl !b) G' H' q g1 g2 g3
  cases e
  exact⟨b,rfl,q'⟩
 | _=>exact q.elim
theorem zhr {op}(h:QX X E a x):QX X E (.BoolOp op [a] pos) x:=zhC h
theorem zhs (ha:QX X E a x)(hb:QX X E (.BoolOp .And (b::rest) pos) y):QX X E (.BoolOp .And (a::b::rest) pos) (.and x y):=QE.imp (zhJ ha hb) λσ H Q ⟨G,ρ,Q0,X0,hs,ab,hr,hk,hx⟩=>by
 refine⟨G,ρ,_,X0,hs,ab,hr,λd v G' H' q g1 g2 g3 rd =>?_,hx⟩;obtain⟨k,rfl,q1,q2⟩:=z8T q;rw[RD] at rd;refine⟨k,rd,?_⟩
 cases k with
 | true=>exact iteT ⟨G',ρ,Q0,X0,g2,ab.same g1.1,q1 rfl,hk.same g1 g3,hx.same g3⟩
 | false=>exact iteF (hk (.bl false) (.bl false) G' H' (q2 rfl) g1 g2 g3 (by rw[RD]))
theorem z8h (ha:QXT X E a x):QXW X E (.BoolOp .And [a] pos) x:=zfJ ha
theorem z9Q (ha:QXT X E a x):QXW X E (.BoolOp .Or [a] pos) x:=zht ha
theorem z9R (ha:QXT X E a x)(hb:QXW X E (.BoolOp .And (b::rest) pos) y):QXW X E (.BoolOp .And (a::b::rest) pos) (.and x y):=QW.imp (zhu ha hb) λσ H Q ⟨G,ρ,Q0,X0,hs,ab,hr,hk,hx⟩=>by
 refine⟨G,ρ,_,X0,hs,ab,hr,λd G' H' q g1 g2 g3 =>?_,hx⟩;obtain⟨k,rfl,q1,q2⟩:=z8T q;refine⟨k,rfl,?_⟩
 cases k with
 | true=>exact iteT ⟨G',ρ,Q0,X0,g2,ab.same g1.1,q1 rfl,λd G2 H2 q k1 k2 k3=>hk d G2 H2 q (g1.trans g3 k1) k2 (z07 g3 k3),hx.same g3⟩
 | false=>
  obtain⟨b',e,q'⟩:=hk (.bl false) G' H' (q2 rfl) g1 g2 g3
  cases e
  exact iteF q'
theorem zcd (ha:QXT X E a x)(hb:QXW X E (.BoolOp .Or (b::rest) pos) y):QXW X E (.BoolOp .Or (a::b::rest) pos) (.or x y):=QW.imp (zjn ha hb) λσ H Q ⟨G,ρ,Q0,X0,hs,ab,hr,hk,hx⟩=>by
 refine⟨G,ρ,_,X0,hs,ab,hr,λd G' H' q g1 g2 g3 =>?_,hx⟩;obtain⟨k,rfl,q1,q2⟩:=z8T q;refine⟨k,rfl,?_⟩
 cases k with
 | false=>exact iteF ⟨G',ρ,Q0,X0,g2,ab.same g1.1,q2 rfl,λd G2 H2 q k1 k2 k3=>hk d G2 H2 q (g1.trans g3 k1) k2 (z07 g3 k3),hx.same g3⟩
 | true=>
  obtain⟨b',e,q'⟩:=hk (.bl true) G' H' (q1 rfl) g1 g2 g3
  cases e
  exact iteT q'
theorem z02:QXA X E [] []:=QA.imp z94 λσ H Q ⟨G,ρ,Q0,X0,hs,ab,hr,hk,hx⟩=>hk [] [] G H hr Gr.refl hs Same.refl' RDs.nil
theorem z00 (ha:QX X E e x)(hr:QXA X E es xs)(hs:starEach (e::es) X.env=(false,eval e X.env)::starEach es X.env:=by rfl):QXA X E (e::es) (x::xs):=QA.imp (z5G ha hr hs) λσ H Q ⟨G,ρ,Q0,X0,hs,ab,hr,hk,hx⟩=>by
 refine⟨G,ρ,_,X0,hs,ab,hr,λd v G' H' q g1 g2 g3 rd =>?_,hx⟩;refine⟨G',ρ,_,X0,g2,ab.same g1.1,q,λds vs G2 H2 q' k1 k2 k3 rds =>?_,hx.same g3⟩;exact hk (d::ds) (v::vs) G2 H2 q' (g1.trans g3 k1) k2 (z07 g3 k3) (RDs.cons (rd.same k1.1) rds)
noncomputable def spP (K:W.Frag)(mg:Str->Option Value)(F:Fn):Sp:=λvs H Q E=>∃G ds Q0 X0,Same G H/\RDs K mg G ds vs/\F.run ds Q0 X0/\Kt K mg G H Q0 Q/\Kx mg H X0 E
theorem z0y {CX:CXT}{k:Nat}{ps:List Str}{F:Fn}{f:Str}{pp:Pos}(C:Cal X.prog X.w X.K X.mg X.base CX k f ps (spP X.K X.mg F))(hr:Room k X.A)(hx:z6f CX X E)(ha:QXA X E (e::es) xs)(hg:Gl X f:=by rfl)
  (hdb:(f == ("__debug__":Str))=false:=by decide) (he:starEach (e::es) X.env=(false,eval e X.env)::starEach es X.env:=by rfl) (hpl:(backTo pos (starEach es X.env)).any (·.1)=false:=by rfl):QX X E (.Call (.Name f pp) (e::es) [] pos) (.op F xs):=
 QE.imp (zjs C hr hx ha hg hdb he hpl) λσ H Q ⟨G,ρ,Q0,X0,hs,ab,hr,hk,hx⟩=>by
  refine⟨G,ρ,_,X0,hs,ab,hr,λds vs G' H' q g1 g2 g3 rds =>?_,hx⟩;show spP X.K X.mg F (vs++[]) H' Q E;rw[List.append_nil];exact⟨G',ds,Q0,X0,g2,rds,q,hk.same g1 g3,hx.same g3⟩
theorem z3w {f:Str}{pp:Pos}{id:String}{F:Fn}{r:List V->Hp->VK->Prop}(hc:z1l X (.builtin id) r)(lk:LkN X.K X.mg F r)(hg:Gl X f)(hm:X.mg f=none)(hv:bootBuiltins f=some (.builtin id))(ha:QXA X E (e::es) xs)(hn:f≠"__name__":=by decide)(hdb:(f == ("__debug__":Str))=false:=by decide)
  (he:starEach (e::es) X.env=(false,eval e X.env)::starEach es X.env:=by rfl) (hpl:(backTo pos (starEach es X.env)).any (·.1)=false:=by rfl):QX X E (.Call (.Name f pp) (e::es) [] pos) (.op F xs):=
 QE.imp (z6s hc hg hm hv ha hn hdb he hpl) λ_ _ _ h=>txN lk h
theorem z3X {f:Str}{pp:Pos}{id:String}{F:Fn}{r:List V->Hp->VK->Prop}(hc:z1l X (.type id) r)(lk:LkN X.K X.mg F r)(hg:Gl X f)(hm:X.mg f=none)(hv:bootBuiltins f=some (.type id))(ha:QXA X E (e::es) xs)(hn:f≠"__name__":=by decide)(hdb:(f == ("__debug__":Str))=false:=by decide)
  (he:starEach (e::es) X.env=(false,eval e X.env)::starEach es X.env:=by rfl) (hpl:(backTo pos (starEach es X.env)).any (·.1)=false:=by rfl):QX X E (.Call (.Name f pp) (e::es) [] pos) (.op F xs):=
 QE.imp (z58 hc hg hm hv ha hn hdb he hpl) λ_ _ _ h=>txN lk h
end
end Pu
namespace Pu
open PySem PySem.Spec PyProof.Rows L2
noncomputable def z7o (K:W.Frag)(mg:Str->Option Value)(G H:Hp)(a:Addr):D->Prop
 | .lst ds=>∃xs,H a=some (.lst xs)/\RDs K mg G ds xs
 | .dct ks vs=>∃xs,RDs K mg G vs xs/\((∃kvs:List (Key × V),H a=some (.dK kvs)/\ks=kvs.map (λp=>kD p.1)/\xs=kvs.map (·.2))\/∃kvs:List (List Key × V),H a=some (.dT kvs)/\ks=kvs.map (λp =>.tup (p.1.map kD))/\xs=kvs.map (·.2))
 | _=>False
structure AbS (K:W.Frag)(mg:Str->Option Value)(H0 G0 G:Hp)(ρ:Pu.Env)(σ:L2.St)(H:Hp):Prop where
 len:σ.length=ρ.length
 s0:Same H0 H
 g0:Same G0 G
 g:Same G H
 nw:∀a o,G a=some o->(∃u,G0 a=some u)\/H0 a=none
 sh:∀(i:Nat) (d:D),ρ[i]? = some (B.s d)->∃v,σ[i]? = some (some v)/\RD K mg G d v
 ow:∀(i:Nat) (d:D),ρ[i]? = some (B.o d)->∃a,σ[i]? = some (some (V.ref a))/\G a=none/\H0 a=none/\z7o K mg G H a d
 ne:∀(i j:Nat) (d d':D) (a:Addr),i≠j->ρ[i]? = some (B.o d)->ρ[j]? = some (B.o d')->σ[i]? = some (some (V.ref a))->σ[j]? = some (some (V.ref a))->False
open Classical in
noncomputable def plus (G H:Hp)(O:Addr->Prop):Hp:=λa=>if O a then H a else G a
open Classical in
noncomputable def minus (G:Hp)(O:Addr->Prop):Hp:=λa=>if O a then none else G a
section
variable {K:W.Frag}{mg:Str->Option Value}{H0 G0 G G' H H' H1:Hp}{ρ:Pu.Env}{σ:L2.St}{O:Addr->Prop}
theorem z4V (g:Same G H):Same (plus G H O) H:=λa o e=>by
 unfold plus at e
 split at e
 ·exact e
 ·exact g a o e
theorem z38 (h:∀a,O a->G a=none):Same G (plus G H O):=λa o e=>by
 unfold plus
 split
 ·rename_i z; rw[h a z] at e; cases e
 ·exact e
theorem zcl {a:Addr}(h:O a):plus G H O a=H a:=by unfold plus; rw[if_pos h]
theorem z2X:Same (minus G O) G:=λa o e=>by
 unfold minus at e
 split at e
 ·cases e
 ·exact e
theorem z6u {a:Addr}(h:O a):minus G O a=none:=by unfold minus; rw[if_pos h]
theorem z9f {a:Addr}(h:¬ O a):minus G O a=G a:=by unfold minus; rw[if_neg h]
theorem z4p (g:Same G G')(h:∀a,O a->G a=none):Same G (minus G' O):=λa o e=>by
 by_cases z:O a
 ·rw[h a z] at e; cases e
 ·rw[z9f z]; exact g a o e
theorem z7o.same {a:Addr}{d:D}(h:z7o K mg G H a d)(g:Same G G')(k:∀o,H a=some o->H1 a=some o):z7o K mg G' H1 a d:=by
 cases d with
 | lst ds=>
  obtain⟨xs,h1,h2⟩:=h;exact⟨xs,k _ h1,h2.same g⟩
 | dct ks vs=>
  obtain⟨xs,h1,h2⟩:=h;refine⟨xs,h1.same g,?_⟩
  rcases h2 with ⟨kvs,q,r⟩ | ⟨kvs,q,r⟩
  ·exact .inl ⟨kvs,k _ q,r⟩
  ·exact .inr ⟨kvs,k _ q,r⟩
 | _=>exact h.elim
theorem z7o.some {a:Addr}{d:D}(h:z7o K mg G H a d):∃o,H a=some o:=by
 cases d with
 | lst ds=>obtain⟨xs,h1,h2⟩:=h; exact⟨_,h1⟩
 | dct ks vs=>
  obtain⟨xs,h1,h2⟩:=h
  rcases h2 with ⟨kvs,q,r⟩ | ⟨kvs,q,r⟩ <;> exact⟨_,q⟩
 | _=>exact h.elim
theorem z7o.rd {a:Addr}{d:D}(h:z7o K mg G H a d)(g:Same G G')(e:G' a=H a):RD K mg G' d (.ref a):=by
 cases d with
 | lst ds=>
  obtain⟨xs,h1,h2⟩:=h;rw[RD];exact⟨a,xs,rfl,SqL.of (e.trans h1),h2.same g⟩
 | dct ks vs=>
  obtain⟨xs,h1,h2⟩:=h;rw[RD];refine⟨a,xs,rfl,h1.same g,?_⟩
  rcases h2 with ⟨kvs,q,r⟩ | ⟨kvs,q,r⟩
  ·exact .inl ⟨kvs,e.trans q,r⟩
  ·exact .inr ⟨kvs,e.trans q,r⟩
 | _=>exact h.elim
noncomputable def OK1 (G:Hp)(O:Addr->Prop)(bL bD:Prop):Prop:=∀a,O a->G a=none\/((∃xs,G a=some (.lst xs))/\bL)\/(((∃kvs,G a=some (.dK kvs))\/∃kvs,G a=some (.dT kvs))/\bD)
theorem z3C {a:Addr}{o u:HO}{bL bD:Prop}(hO:OK1 G O bL bD)(h:G a=some o)(h1:∀xs,o = .lst xs->¬ bL)(h2:∀k,o = .dK k->¬ bD)(h3:∀k,o = .dT k->¬ bD):minus G O a=some o:=by
 by_cases z:O a
 ·rcases hO a z with q | ⟨⟨xs,q⟩,b⟩ | ⟨⟨k,q⟩ | ⟨k,q⟩,b⟩
  ·rw[q] at h; cases h
  ·rw[q] at h; cases h; exact(h1 _ rfl b).elim
  ·rw[q] at h; cases h; exact(h2 _ rfl b).elim
  ·rw[q] at h; cases h; exact(h3 _ rfl b).elim
 ·rw[z9f z]; exact h
mutual
theorem RD.minus {bL bD:Prop}(hO:OK1 G O bL bD):∀(d:D) {v:V},(bL->noL d=true)->(bD->noD d=true)->RD K mg G d v->RD K mg (Pu.minus G O) d v
 | .non,_,_,_,h=>by simpa[RD] using h
 | .bl _,_,_,_,h=>by simpa[RD] using h
 | .int _,_,_,_,h=>by simpa[RD] using h
 | .str _,_,_,_,h=>by simpa[RD] using h
 | .fn _,_,_,_,h=>by rw[RD] at h ⊢; exact h
 | .exc _,_,_,_,h=>by
  rw[RD] at h ⊢;obtain⟨ea,C,h1,h2,h3⟩:=h;exact⟨ea,C,h1,z3C (u :=.lst []) hO h2 (λ_ z=>by cases z) (λ_ z=>by cases z) (λ_ z=>by cases z),h3⟩
 | .tup ds,_,nl,nd,h=>by
  rw[RD] at h ⊢;obtain⟨a,xs,h1,h2,h3⟩:=h;refine⟨a,xs,h1,?_,RDs.minus hO ds (λb=>by have:=nl b; rwa [noL] at this) (λb=>by have:=nd b; rwa [noD] at this) h3⟩
  rcases h2 with (h2 | ⟨o,h2⟩) | h2
  ·exact .inl (.inl (z3C (u :=.lst []) hO h2 (λ_ z=>by cases z) (λ_ z=>by cases z) (λ_ z=>by cases z)))
  ·exact .inl (.inr ⟨o,z3C (u :=.lst []) hO h2 (λ_ z=>by cases z) (λ_ z=>by cases z) (λ_ z=>by cases z)⟩)
  ·exact .inr h2
 | .lst ds,_,nl,nd,h=>by
  rw[RD] at h ⊢;obtain⟨a,xs,h1,h2,h3⟩:=h;have nb:¬ bL:=λb=>by have:=nl b; rw[noL] at this; cases this
  refine⟨a,xs,h1,?_,RDs.minus hO ds (λb=>(nb b).elim) (λb=>by have:=nd b; rwa [noD] at this) h3⟩
  rcases h2 with (h2 | ⟨o,h2⟩) | h2
  ·exact .inl (.inl (z3C (u :=.lst []) hO h2 (λ_ _=>nb) (λ_ z=>by cases z) (λ_ z=>by cases z)))
  ·exact .inl (.inr ⟨o,z3C (u :=.lst []) hO h2 (λ_ z=>by cases z) (λ_ z=>by cases z) (λ_ z=>by cases z)⟩)
  ·exact .inr h2
 | .dct ks vs,_,nl,nd,h=>by
  rw[RD] at h ⊢;obtain⟨a,xs,h1,h3,h4⟩:=h;have nb:¬ bD:=λb=>by have:=nd b; rw[noD] at this; cases this
  refine⟨a,xs,h1,RDs.minus hO vs (λb=>by have:=nl b; rwa [noL] at this) (λb=>(nb b).elim) h3,?_⟩
  rcases h4 with ⟨kvs,q,r⟩ | ⟨kvs,q,r⟩
  ·exact .inl ⟨kvs,z3C (u :=.lst []) hO q (λ_ z=>by cases z) (λ_ _=>nb) (λ_ _=>nb),r⟩
  ·exact .inr ⟨kvs,z3C (u :=.lst []) hO q (λ_ z=>by cases z) (λ_ _=>nb) (λ_ _=>nb),r⟩
theorem RDs.minus {bL bD:Prop}(hO:OK1 G O bL bD):∀(ds:List D) {xs:List V},(bL->noLs ds=true)->(bD->noDs ds=true)->RDs K mg G ds xs->RDs K mg (Pu.minus G O) ds xs
 | [],_,_,_,h=>by simpa[RDs] using h
 | d::ds,_,nl,nd,h=>by
  rw[RDs] at h ⊢;obtain⟨x,r,h1,h2,h3⟩:=h;exact⟨x,r,h1,RD.minus hO d (λb=>by have:=nl b; rw[noLs,Bool.and_eq_true] at this; exact this.1) (λb=>by have:=nd b; rw[noDs,Bool.and_eq_true] at this; exact this.1) h2,
   RDs.minus hO ds (λb=>by have:=nl b; rw[noLs,Bool.and_eq_true] at this; exact this.2) (λb=>by have:=nd b; rw[noDs,Bool.and_eq_true] at this; exact this.2) h3⟩
end
noncomputable def z2h (ρ:Pu.Env)(σ:L2.St)(a:Addr):Prop:=∃(j:Nat) (d:D),ρ[j]? = some (B.o d)/\σ[j]? = some (some (V.ref a))
theorem AbS.free (h:AbS K mg H0 G0 G ρ σ H):∀a,z2h ρ σ a->G a=none:=λa ⟨j,d,e,q⟩=>by
 obtain⟨b,q',hb,_⟩:=h.ow j d e;rw[q] at q'; cases q';exact hb
theorem AbS.owned0 (h:AbS K mg H0 G0 G ρ σ H):∀a,z2h ρ σ a->H0 a=none:=λa ⟨j,d,e,q⟩=>by
 obtain⟨b,q',hb,h0,_⟩:=h.ow j d e;rw[q] at q'; cases q';exact h0
theorem AbS.nw1 {G1:Hp}(h:AbS K mg H0 G0 G ρ σ H)(g:Gr (plus G H (z2h ρ σ)) H G1):∀a o,G1 a=some o->(∃u,G0 a=some u)\/H0 a=none:=λa o e=>by
 rcases g.2 a o e with ⟨u,q⟩ | q
 ·by_cases z:z2h ρ σ a
  ·exact .inr (h.owned0 a z)
  ·unfold plus at q; rw[if_neg z] at q; exact h.nw a u q
 ·refine .inr ?_
  cases z:H0 a with
  | none=>rfl
  | some w=>rw[h.s0 a w z] at q; cases q
theorem AbS.nw2 {G1:Hp}(h:AbS K mg H0 G0 G ρ σ H)(g:Gr G H G1):∀a o,G1 a=some o->(∃u,G0 a=some u)\/H0 a=none:=λa o e=>by
 rcases g.2 a o e with ⟨u,q⟩ | q
 ·exact h.nw a u q
 ·refine .inr ?_
  cases z:H0 a with
  | none=>rfl
  | some w=>rw[h.s0 a w z] at q; cases q
theorem AbS.abe (h:AbS K mg H0 G0 G ρ σ H):AbE K mg (plus G H (z2h ρ σ)) ρ σ:=λi d e=>by
 rw[Env.get_eq] at e
 cases q:ρ[i]? with
 | none=>rw[q] at e; cases e
 | some b=>
  rw[q] at e
  cases b with
  | n=>cases e
  | s d'=>
   cases e
   obtain⟨v,h1,h2⟩:=h.sh i d q;exact⟨v,h1,h2.same (z38 h.free)⟩
  | o d'=>
   cases e
   obtain⟨a,h1,h2,h3,h4⟩:=h.ow i d q;exact⟨.ref a,h1,h4.rd (z38 h.free) (zcl ⟨i,d,q,h1⟩)⟩
theorem AbS.vis (h:AbS K mg H0 G0 G ρ σ H):AbE K mg G (vis ρ) σ:=λi d e=>by
 rw[Env.get_eq] at e;unfold Pu.vis at e;rw[List.getElem?_map] at e
 cases q:ρ[i]? with
 | none=>rw[q] at e; cases e
 | some b=>
  rw[q] at e
  cases b with
  | n=>cases e
  | s d'=>
   cases e
   exact h.sh i d q
  | o d'=>cases e
theorem Safe.get {d:D}:∀{ρ:Pu.Env}{j:Nat}{b:B},Safe d ρ->ρ[j]? = some b->zh8 d b
 | [],_,_,_,e=>by simp at e
 | c::r,0,b,h,e=>by simp at e; subst e; exact h.1
 | c::r,j+1,b,h,e=>Safe.get (j:=j) h.2 (by simpa using e)
theorem zeX {G1:Hp}{d:D}{I:Nat->Prop}(h:AbS K mg H0 G0 G ρ σ H)(g2:Same G1 H1)(g3:Same H H1):
  OK1 G1 (λa=>∃(j:Nat) (d:D),I j/\ρ[j]? = some (B.o d)/\σ[j]? = some (some (V.ref a))) (∃(j:Nat) (l:List D),I j/\ρ[j]? = some (B.o (.lst l))) (∃(j:Nat) (k v:List D),I j/\ρ[j]? = some (B.o (.dct k v))):=λa ⟨j,d',hI,e,q⟩=>by
 obtain⟨b,q',hb,h0,hw⟩:=h.ow j d' e;rw[q] at q'; cases q'
 cases e1:G1 a with
 | none=>exact .inl rfl
 | some o=>
  have e2:=g2 a o e1
  cases d' with
  | lst ds=>
   obtain⟨xs,h1,h2⟩:=hw;rw[g3 a _ h1] at e2
   cases e2
   exact .inr (.inl ⟨⟨xs,rfl⟩,j,ds,hI,e⟩)
  | dct ks vs=>
   obtain⟨xs,h1,h2⟩:=hw
   rcases h2 with ⟨kvs,z,r⟩ | ⟨kvs,z,r⟩
   ·rw[g3 a _ z] at e2
    cases e2
    exact .inr (.inr ⟨.inl ⟨kvs,rfl⟩,j,ks,vs,hI,e⟩)
   ·rw[g3 a _ z] at e2
    cases e2
    exact .inr (.inr ⟨.inr ⟨kvs,rfl⟩,j,ks,vs,hI,e⟩)
  | _=>exact hw.elim
theorem z7P {G1:Hp}{d:D}{v:V}{i:Nat}(h:AbS K mg H0 G0 G ρ σ H)(g2:Same G1 H1)(g3:Same H H1)(sf:Safe d (ρ.set i .n))(rd:RD K mg G1 d v):
  RD K mg (Pu.minus G1 (λa=>∃(j:Nat) (d:D),j≠i/\ρ[j]? = some (B.o d)/\σ[j]? = some (some (V.ref a)))) d v:=by
 refine RD.minus (zeX (d:=d) (I:=λj=>j≠i) h g2 g3) d (λ⟨j,l,hj,e⟩ =>?_) (λ⟨j,k,v,hj,e⟩ =>?_) rd
 ·exact Safe.get sf (j:=j) (b :=.o (.lst l)) (by rw[List.getElem?_set_ne (Ne.symm hj)]; exact e)
 ·exact Safe.get sf (j:=j) (b :=.o (.dct k v)) (by rw[List.getElem?_set_ne (Ne.symm hj)]; exact e)
theorem z9P {G1:Hp}{d:D}{v:V}(h:AbS K mg H0 G0 G ρ σ H)(g2:Same G1 H1)(g3:Same H H1)(sf:Safe d ρ)(rd:RD K mg G1 d v):
  RD K mg (Pu.minus G1 (λa=>∃(j:Nat) (d:D),True/\ρ[j]? = some (B.o d)/\σ[j]? = some (some (V.ref a)))) d v:=by
 refine RD.minus (zeX (d:=d) (I:=λ_=>True) h g2 g3) d (λ⟨j,l,hj,e⟩ =>?_) (λ⟨j,k,v,hj,e⟩ =>?_) rd
 ·exact Safe.get sf (j:=j) (b :=.o (.lst l)) e
 ·exact Safe.get sf (j:=j) (b :=.o (.dct k v)) e
theorem AbS.put {G1:Hp}{i:Nat}{d:D}{v:V}(h:AbS K mg H0 G0 G ρ σ H)(nw:∀a o,G1 a=some o->(∃u,G0 a=some u)\/H0 a=none)(g1:Same G G1)(g2:Same G1 H1)(g3:Same H H1)(hO:∀(j:Nat) (d':D) (a:Addr),j≠i->ρ[j]? = some (B.o d')->σ[j]? = some (some (V.ref a))->G1 a=none)(rd:RD K mg G1 d v):
  AbS K mg H0 G0 G1 (ρ.set i (.s d)) (σ.set i (some v)) H1 where
 len:=by simp[h.len]
 s0:=z07 h.s0 g3
 g0:=z07 h.g0 g1
 g:=g2
 nw:=nw
 sh:=λj e q=>by
  by_cases hj:j=i
  ·subst hj;have hl:j < ρ.length:=by
    have:=(List.getElem?_eq_some_iff.mp q).1;simpa using this
   rw[List.getElem?_set_self hl] at q
   cases q
   exact⟨v,by rw[List.getElem?_set_self (by rw[h.len]; exact hl)],rd⟩
  ·rw[List.getElem?_set_ne (Ne.symm hj)] at q;obtain⟨w,h1,h2⟩:=h.sh j e q;exact⟨w,by rw[List.getElem?_set_ne (Ne.symm hj)]; exact h1,h2.same g1⟩
 ow:=λj e q=>by
  by_cases hj:j=i
  ·subst hj;have hl:j < ρ.length:=by
    have:=(List.getElem?_eq_some_iff.mp q).1;simpa using this
   rw[List.getElem?_set_self hl] at q
   cases q
  ·rw[List.getElem?_set_ne (Ne.symm hj)] at q;obtain⟨a,h1,h2,h3,h4⟩:=h.ow j e q;exact⟨a,by rw[List.getElem?_set_ne (Ne.symm hj)]; exact h1,hO j e a hj q h1,h3,h4.same g1 (g3 a)⟩
 ne:=λj k e e' a hjk q q' s s'=>by
  have hl:∀{j:Nat}{e:D},(ρ.set i (.s d))[j]? = some (B.o e)->j≠i:=λ{j e} q hj=>by
   subst hj;have hl:j < ρ.length:=by
    have:=(List.getElem?_eq_some_iff.mp q).1;simpa using this
   rw[List.getElem?_set_self hl] at q
   cases q
  have hj:=hl q;have hk:=hl q';rw[List.getElem?_set_ne (Ne.symm hj)] at q s;rw[List.getElem?_set_ne (Ne.symm hk)] at q' s';exact h.ne j k e e' a hjk q q' s s'
theorem AbS.own {G1:Hp}{i:Nat}{d:D}{a:Addr}(h:AbS K mg H0 G0 G ρ σ H)(nw:∀a o,G1 a=some o->(∃u,G0 a=some u)\/H0 a=none)(g1:Same G G1)(g2:Same G1 H1)(g3:Same H H1)(hO:∀(j:Nat) (d':D) (a:Addr),j≠i->ρ[j]? = some (B.o d')->σ[j]? = some (some (V.ref a))->G1 a=none)(hn:H a=none)(ga:G1 a=none)(hw:z7o K mg G1 H1 a d):
  AbS K mg H0 G0 G1 (ρ.set i (.o d)) (σ.set i (some (.ref a))) H1 where
 len:=by simp[h.len]
 s0:=z07 h.s0 g3
 g0:=z07 h.g0 g1
 g:=g2
 nw:=nw
 sh:=λj e q=>by
  by_cases hj:j=i
  ·subst hj;have hl:j < ρ.length:=by
    have:=(List.getElem?_eq_some_iff.mp q).1;simpa using this
   rw[List.getElem?_set_self hl] at q
   cases q
  ·rw[List.getElem?_set_ne (Ne.symm hj)] at q;obtain⟨w,h1,h2⟩:=h.sh j e q;exact⟨w,by rw[List.getElem?_set_ne (Ne.symm hj)]; exact h1,h2.same g1⟩
 ow:=λj e q=>by
  by_cases hj:j=i
  ·subst hj;have hl:j < ρ.length:=by
    have:=(List.getElem?_eq_some_iff.mp q).1;simpa using this
   rw[List.getElem?_set_self hl] at q
   cases q
   refine⟨a,by rw[List.getElem?_set_self (by rw[h.len]; exact hl)],ga,?_,hw⟩;exact z1d h.s0 hn
  ·rw[List.getElem?_set_ne (Ne.symm hj)] at q;obtain⟨b,h1,h2,h3,h4⟩:=h.ow j e q;exact⟨b,by rw[List.getElem?_set_ne (Ne.symm hj)]; exact h1,hO j e b hj q h1,h3,h4.same g1 (g3 b)⟩
 ne:=λj k e e' b hjk q q' s s'=>by
  have old:∀{j:Nat}{e:D},j≠i->(ρ.set i (.o d))[j]? = some (B.o e)->(σ.set i (some (.ref a)))[j]? = some (some (V.ref b))->ρ[j]? = some (B.o e)/\σ[j]? = some (some (V.ref b)):=λ{j e} hj q s=>by
   rw[List.getElem?_set_ne (Ne.symm hj)] at q s;exact⟨q,s⟩
  have new:∀{j:Nat}{e:D},j=i->(ρ.set i (.o d))[j]? = some (B.o e)->(σ.set i (some (.ref a)))[j]? = some (some (V.ref b))->b=a:=λ{j e} hj q s=>by
   subst hj;have hl:j < σ.length:=by
    have:=(List.getElem?_eq_some_iff.mp s).1;simpa using this
   rw[List.getElem?_set_self hl] at s
   cases s; rfl
  have none:∀{j:Nat}{e:D},ρ[j]? = some (B.o e)->σ[j]? = some (some (V.ref b))->b≠a:=λ{j e} q s z=>by
   obtain⟨b',h1,h2,h3,h4⟩:=h.ow j e q;rw[s] at h1; cases h1;obtain⟨o,ho⟩:=h4.some;rw[z,hn] at ho; cases ho
  by_cases hj:j=i
  ·have hb:=new hj q s;have hk:k≠i:=λz=>hjk (hj.trans z.symm);obtain⟨q1,s1⟩:=old hk q' s';exact none q1 s1 hb
  ·obtain⟨q1,s1⟩:=old hj q s
   by_cases hk:k=i
   ·exact none q1 s1 (new hk q' s')
   ·obtain⟨q2,s2⟩:=old hk q' s';exact h.ne j k e e' b hjk q1 q2 s1 s2
theorem AbS.wr {G1:Hp}{i:Nat}{d d':D}{a:Addr}{o:HO}(h:AbS K mg H0 G0 G ρ σ H)(nw:∀a o,G1 a=some o->(∃u,G0 a=some u)\/H0 a=none)(g1:Same G G1)(g2:Same G1 H1)(g3:Same H H1)(hO:∀(j:Nat) (d':D) (a:Addr),ρ[j]? = some (B.o d')->σ[j]? = some (some (V.ref a))->G1 a=none)(hi:ρ[i]? = some (B.o d))(hs:σ[i]? = some (some (V.ref a)))
  (hw:z7o K mg G1 (upd H1 a o) a d'):AbS K mg H0 G0 G1 (ρ.set i (.o d')) σ (upd H1 a o):=by
 obtain⟨a',e1,ga,h0a,hw0⟩:=h.ow i d hi;rw[hs] at e1; cases e1;have hl:i < ρ.length:=(List.getElem?_eq_some_iff.mp hi).1;refine⟨by simp[h.len],λb u e =>?_,z07 h.g0 g1,λb u e =>?_,nw,λj e q =>?_,λj e q =>?_,λj k e e' b hjk q q' s s' =>?_⟩
 ·have hb:b≠a:=λz=>by rw[z,h0a] at e; cases e
  rw[z0f hb]; exact g3 b u (h.s0 b u e)
 ·have hb:b≠a:=λz=>by rw[z,hO i d a hi hs] at e; cases e
  rw[z0f hb]; exact g2 b u e
 ·by_cases hj:j=i
  ·subst hj;rw[List.getElem?_set_self hl] at q; cases q
  ·rw[List.getElem?_set_ne (Ne.symm hj)] at q;obtain⟨w,h1,h2⟩:=h.sh j e q;exact⟨w,h1,h2.same g1⟩
 ·by_cases hj:j=i
  ·subst hj;rw[List.getElem?_set_self hl] at q; cases q;exact⟨a,hs,hO j d a hi hs,h0a,hw⟩
  ·rw[List.getElem?_set_ne (Ne.symm hj)] at q;obtain⟨b,h1,h2,h3,h4⟩:=h.ow j e q;have hb:b≠a:=λz=>by subst z; exact h.ne j i e d b hj q hi h1 hs
   exact⟨b,h1,hO j e b q h1,h3,h4.same g1 (λu e=>by rw[z0f hb]; exact g3 b u e)⟩
 ·have old:∀{j:Nat}{e:D},(ρ.set i (.o d'))[j]? = some (B.o e)->∃e',ρ[j]? = some (B.o e'):=λ{j e} q=>by
   by_cases hj:j=i
   ·subst hj; exact⟨d,hi⟩
   ·rw[List.getElem?_set_ne (Ne.symm hj)] at q; exact⟨e,q⟩
  obtain⟨x,q1⟩:=old q;obtain⟨y,q2⟩:=old q';exact h.ne j k x y b hjk q1 q2 s s'
theorem AbS.dem1 (h:AbS K mg H0 G0 G ρ σ H)(j:Nat):∃G',AbS K mg H0 G0 G' (ρ.set j (demB ((ρ[j]?).getD .n))) σ H/\Same G G':=by
 cases q:ρ[j]? with
 | none=>
  have:ρ.set j (demB ((none:Option B).getD .n))=ρ:=by
   apply List.set_eq_of_length_le;exact List.getElem?_eq_none_iff.mp q
  rw[this];exact⟨G,h,Same.refl'⟩
 | some b=>
  have hl:j < ρ.length:=(List.getElem?_eq_some_iff.mp q).1;have same:∀b',b=b'->demB b'=b'->∃G',AbS K mg H0 G0 G' (ρ.set j (demB ((some b).getD .n))) σ H/\Same G G':=λb' e e'=>by
   subst e;have:ρ.set j (demB ((some b).getD .n))=ρ:=by
    show ρ.set j (demB b)=ρ;rw[e'];apply List.ext_getElem?;intro k
    by_cases hk:k=j
    ·subst hk; rw[List.getElem?_set_self hl,q]
    ·rw[List.getElem?_set_ne (Ne.symm hk)]
   rw[this];exact⟨G,h,Same.refl'⟩
  cases b with
  | n=>exact same .n rfl rfl
  | s d=>exact same (.s d) rfl rfl
  | o d=>
   obtain⟨a,s1,ga,h0a,hw⟩:=h.ow j d q;show ∃G',AbS K mg H0 G0 G' (ρ.set j (.s d)) σ H/\Same G G';have lp:Same G (plus G H (· = a)):=z38 (λb z=>by rw[z]; exact ga);refine⟨plus G H (· = a),⟨by simp[h.len],h.s0,z07 h.g0 lp,z4V h.g,λb o e=>(by
     by_cases hb:b=a
     ·exact .inr (by rw[hb]; exact h0a)
     ·unfold plus at e; rw[if_neg hb] at e; exact h.nw b o e),λk e z =>?_,λk e z =>?_,λk l e e' b hkl z z' s s' =>?_⟩,lp⟩
   ·by_cases hk:k=j
    ·subst hk;rw[List.getElem?_set_self hl] at z; cases z;exact⟨.ref a,s1,hw.rd lp (zcl rfl)⟩
    ·rw[List.getElem?_set_ne (Ne.symm hk)] at z;obtain⟨w,h1,h2⟩:=h.sh k e z;exact⟨w,h1,h2.same lp⟩
   ·by_cases hk:k=j
    ·subst hk;rw[List.getElem?_set_self hl] at z; cases z
    ·rw[List.getElem?_set_ne (Ne.symm hk)] at z;obtain⟨b,h1,h2,h3,h4⟩:=h.ow k e z;have hb:b≠a:=λy=>by subst y; exact h.ne k j e d b hk z q h1 s1
     refine⟨b,h1,?_,h3,h4.same lp (λ_ e=>e)⟩;unfold plus;rw[if_neg hb]; exact h2
   ·have old:∀{k:Nat}{e:D},(ρ.set j (.s d))[k]? = some (B.o e)->ρ[k]? = some (B.o e):=λ{k e} z=>by
     by_cases hk:k=j
     ·subst hk; rw[List.getElem?_set_self hl] at z; cases z
     ·rw[List.getElem?_set_ne (Ne.symm hk)] at z; exact z
    exact h.ne k l e e' b hkl (old z) (old z') s s'
theorem AbS.dem (js:List Nat):∀{G:Hp}{ρ:Pu.Env},AbS K mg H0 G0 G ρ σ H->∃G',AbS K mg H0 G0 G' (dem js ρ) σ H/\Same G G':=by
 induction js with
 | nil=>intro G ρ h; exact⟨G,h,Same.refl'⟩
 | cons j js ih=>
  intro G ρ h;obtain⟨G1,h1,g1⟩:=h.dem1 j;obtain⟨G2,h2,g2⟩:=ih h1;exact⟨G2,h2,z07 g1 g2⟩
end
end Pu
namespace Pu
open PySem PySem.Spec PyProof.Rows L2
noncomputable def Kn (K:W.Frag)(mg:Str->Option Value)(H0 G0 G:Hp)(N0:Pu.Env->Prop)(N:L2.St->Hp->Prop):Prop:=∀ρ' σ' H' G',N0 ρ'->AbS K mg H0 G0 G' ρ' σ' H'->Same G G'->N σ' H'
noncomputable def Kr (K:W.Frag)(mg:Str->Option Value)(H0 G0:Hp)(R0:DK)(R:VK):Prop:=∀d v G' H',R0 d->Gr G0 H0 G'->Same G' H'->Same H0 H'->RD K mg G' d v->R v H'
noncomputable def ts (K:W.Frag)(mg:Str->Option Value)(E:XK)(t:Sm):TS:=λD σ H=>∃H0 G0 G ρ N0 R0 X0,AbS K mg H0 G0 G ρ σ H/\t.run ρ N0 R0 X0/\Kn K mg H0 G0 G N0 D.nx/\Kr K mg H0 G0 R0 D.rt/\Kx mg H0 X0 E
theorem Kn.same {K:W.Frag}{mg:Str->Option Value}{H0 G0 G G1:Hp}{N0:Pu.Env->Prop}{N:L2.St->Hp->Prop}(h:Kn K mg H0 G0 G N0 N)(g:Same G G1):Kn K mg H0 G0 G1 N0 N:=λρ' σ' H' G' a b c=>h ρ' σ' H' G' a b (z07 g c)
noncomputable abbrev QZ (X:Cx)(E:XK)(st:Stmt)(t:Sm):Prop:=QS X st (ts X.K X.mg E t)
noncomputable abbrev QZs (X:Cx)(E:XK)(st:List Stmt)(t:Sm):Prop:=QSs X st (ts X.K X.mg E t)
section
variable {X:Cx}{E:XK}{st:Stmt}{rest body la lb:List Stmt}{t u:Sm}{e a b c:Expr}{x y z:Ex}{pos:Pos}
theorem z1L:QZs X E [] .skip:=QSs.imp zfM λD σ H ⟨H0,G0,G,ρ,N0,R0,X0,ab,hr,hn,hR,hx⟩=>hn ρ σ H G hr ab Same.refl'
theorem z0a (h:QZ X E st t):QZs X E [st] t:=zfL h
theorem z04 (h:QZ X E st t)(h':QZs X E rest u):QZs X E (st::rest) (.seq t u):=QSs.imp (zdM h h') λD σ H ⟨H0,G0,G,ρ,N0,R0,X0,ab,hr,hn,hR,hx⟩=>
 ⟨H0,G0,G,ρ,λρ'=>u.run ρ' N0 R0 X0,R0,X0,ab,hr,λρ' σ' H' G' q ab' g=>⟨H0,G0,G',ρ',N0,R0,X0,ab',q,hn.same g,hR,hx⟩,hR,hx⟩
theorem zgT {K:W.Frag}{mg:Str->Option Value}{H0 G0 G H:Hp}{ρ:Pu.Env}{σ:L2.St}{Q0:DK}{X0:XP}{Q:VK}(ab:AbS K mg H0 G0 G ρ σ H)(hr:x.run ρ Q0 X0)(hx:Kx mg H0 X0 E)(hk:Kt K mg (plus G H (z2h ρ σ)) H Q0 Q):tx K mg E x σ H Q:=
 ⟨plus G H (z2h ρ σ),ρ,Q0,X0,z4V ab.g,ab.abe,hr,hk,hx.same ab.s0⟩
theorem AbS.back {K:W.Frag}{mg:Str->Option Value}{H0 G0 G G1 H H1:Hp}{ρ:Pu.Env}{σ:L2.St}(ab:AbS K mg H0 G0 G ρ σ H)(g1:Gr (plus G H (z2h ρ σ)) H G1)(g2:Same G1 H1)(g3:Same H H1):AbS K mg H0 G0 (minus G1 (z2h ρ σ)) ρ σ H1/\Same G (minus G1 (z2h ρ σ)):=by
 have hf:=ab.free;have lm:Same G (minus G1 (z2h ρ σ)):=z4p (z07 (z38 hf) g1.1) hf;exact⟨⟨ab.len,z07 ab.s0 g3,z07 ab.g0 lm,z07 z2X g2,λa o e=>ab.nw1 g1 a o (z2X a o e),λi d e=>by
   obtain⟨v,h1,h2⟩:=ab.sh i d e;exact⟨v,h1,h2.same lm⟩,λi d e=>by
   obtain⟨a,h1,h2,h3,h4⟩:=ab.ow i d e;exact⟨a,h1,z6u ⟨i,d,e,h1⟩,h3,h4.same lm (g3 a)⟩,ab.ne⟩,lm⟩
theorem zgU {K:W.Frag}{mg:Str->Option Value}{H0 G0 G H:Hp}{ρ:Pu.Env}{σ:L2.St}{A B:Prop}{X0:XP}{Q:Bool->Hp->Prop}(ab:AbS K mg H0 G0 G ρ σ H)(hr:x.run ρ (λd=>tst d A B) X0)(hx:Kx mg H0 X0 E)
  (ha:A->∀H' G',AbS K mg H0 G0 G' ρ σ H'->Same G G'->Q true H') (hb:B->∀H' G',AbS K mg H0 G0 G' ρ σ H'->Same G G'->Q false H'):tt K mg E x σ H Q:=by
 refine⟨plus G H (z2h ρ σ),ρ,_,X0,z4V ab.g,ab.abe,hr,λd G1 H1 q g1 g2 g3 =>?_,hx.same ab.s0⟩;obtain⟨b,rfl,q1,q2⟩:=z8T q;refine⟨b,rfl,?_⟩;obtain⟨ab',lm⟩:=ab.back g1 g2 g3
 cases b with
 | true=>exact ha (q1 rfl) H1 _ ab' lm
 | false=>exact hb (q2 rfl) H1 _ ab' lm
theorem z3v (hc:QXT X E c z)(ha:QZs X E la t)(hb:QZs X E lb u):QZ X E (.If c la lb pos) (.ifs z t u):=QS.imp (zjo hc ha hb) λD σ H ⟨H0,G0,G,ρ,N0,R0,X0,ab,hr,hn,hR,hx⟩=>by
 refine zgU ab hr hx (λq H' G' ab' g =>?_) (λq H' G' ab' g =>?_)
 ·exact iteT ⟨H0,G0,G',ρ,N0,R0,X0,ab',q,hn.same g,hR,hx⟩
 ·exact iteF ⟨H0,G0,G',ρ,N0,R0,X0,ab',q,hn.same g,hR,hx⟩
theorem z0q (he:QX X E e x):QZ X E (.Return (some e) pos) (.ret x):=QS.imp (zhx he) λD σ H ⟨H0,G0,G,ρ,N0,R0,X0,ab,hr,hn,hR,hx⟩=>
 zgT ab hr hx λd v G1 H1 q g1 g2 g3 rd=>hR d v G1 H1 q ⟨z07 ab.g0 (z07 (z38 ab.free) g1.1),ab.nw1 g1⟩ g2 (z07 ab.s0 g3) rd
noncomputable def z4s (i:Nat)(ρ:Pu.Env)(σ:L2.St)(a:Addr):Prop:=∃(j:Nat) (d:D),j≠i/\ρ[j]? = some (B.o d)/\σ[j]? = some (some (V.ref a))
theorem z0m {i:Nat}{tg:Expr}(h:QS X (.Assign [tg] e pos) (tAsg (tx X.K X.mg E x) (z5Y i))):QZ X E (.Assign [tg] e pos) (.set i x):=QS.imp h λD σ H ⟨H0,G0,G,ρ,N0,R0,X0,ab,hr,hn,hR,hx⟩=>
 zgT ab hr hx λd v G1 H1 q g1 g2 g3 rd=>by
  have hf:∀a,z4s i ρ σ a->G a=none:=λa ⟨j,d,_,h1,h2⟩=>ab.free a ⟨j,d,h1,h2⟩;have lm:Same G (minus G1 (z4s i ρ σ)):=z4p (z07 (z38 ab.free) g1.1) hf;exact hn (ρ.set i (.s d)) (σ.set i (some v)) H1 _ q.2 (ab.put (λa o e=>ab.nw1 g1 a o (z2X a o e)) lm (z07 z2X g2) g3 (λj d' a hj e s=>z6u ⟨j,d',hj,e,s⟩) (z7P ab g2 g3 q.1 rd)) lm
noncomputable def Kf (K:W.Frag)(mg:Str->Option Value)(G H:Hp)(Q0:DK)(Q:VK):Prop:=∀d a G' H',Q0 d->Gr G H G'->Same G' H'->Same H H'->H a=none->G' a=none->z7o K mg G' H' a d->Q (.ref a) H'
noncomputable def tf (K:W.Frag)(mg:Str->Option Value)(E:XK)(e:Ex):TE:=λσ H Q=>∃G ρ Q0 X0,Same G H/\AbE K mg G ρ σ/\e.run ρ Q0 X0/\Kf K mg G H Q0 Q/\Kx mg H X0 E
noncomputable abbrev QF (X:Cx)(E:XK)(e:Expr)(x:Ex):Prop:=QE X e (tf X.K X.mg E x)
theorem Kt.kf {K:W.Frag}{mg:Str->Option Value}{G H:Hp}{Q0:DK}{Q:VK}(h:Kt K mg G H Q0 Q):Kf K mg G H Q0 Q:=λd a G' H' q g1 g2 g3 hn gn hw=>by
 obtain⟨o,ho⟩:=hw.some;have lp:Same G' (upd G' a o):=z0B gn o;refine h d (.ref a) (upd G' a o) H' q ⟨z07 g1.1 lp,λb u e =>?_⟩ (λb u e =>?_) g3 (hw.rd lp (by rw[z0t]; exact ho.symm))
 ·by_cases hb:b=a
  ·subst hb; exact .inr hn
  ·rw[z0f hb] at e; exact g1.2 b u e
 ·by_cases hb:b=a
  ·subst hb; rw[z0t] at e; rw[ho]; exact e
  ·rw[z0f hb] at e; exact g2 b u e
theorem QF.qx (h:QF X E e x):QX X E e x:=QE.imp h λσ H Q ⟨G,ρ,Q0,X0,hs,ab,hr,hk,hx⟩=>⟨G,ρ,Q0,X0,hs,ab,hr,hk.kf,hx⟩
theorem z3W {i:Nat}{tg:Expr}(h:QS X (.Assign [tg] e pos) (tAsg (tf X.K X.mg E x) (z5Y i))):QZ X E (.Assign [tg] e pos) (.own i x):=QS.imp h λD σ H ⟨H0,G0,G,ρ,N0,R0,X0,ab,hr,hn,hR,hx⟩=>by
 refine⟨plus G H (z2h ρ σ),ρ,_,X0,z4V ab.g,ab.abe,hr,λd a G1 H1 q g1 g2 g3 ha ga hw =>?_,hx.same ab.s0⟩;have hf:∀a,z4s i ρ σ a->G a=none:=λa ⟨j,d,_,h1,h2⟩=>ab.free a ⟨j,d,h1,h2⟩;have lm:Same G (minus G1 (z4s i ρ σ)):=z4p (z07 (z38 ab.free) g1.1) hf;have z06:∀(l:List Pu.D) (xs:List V),(∀x∈l,Safe x (ρ.set i .n))->RDs X.K X.mg G1 l xs->RDs X.K X.mg (minus G1 (z4s i ρ σ)) l xs:=by
  intro l
  induction l with
  | nil=>intro xs _ h; rw[RDs] at h ⊢; exact h
  | cons y l ih=>
   intro xs hs h;rw[RDs] at h ⊢;obtain⟨v,r,h1,h2,h3⟩:=h;exact⟨v,r,h1,z7P ab g2 g3 (hs y List.mem_cons_self) h2,ih r (λz hz=>hs z (List.mem_cons_of_mem _ hz)) h3⟩
 have na:minus G1 (z4s i ρ σ) a=none:=by
  unfold minus
  split
  ·rfl
  ·exact ga
 refine hn (ρ.set i (.o d)) (σ.set i (some (.ref a))) H1 _ q.2 (ab.own (λa o e=>ab.nw1 g1 a o (z2X a o e)) lm (z07 z2X g2) g3 (λj d' a hj e s=>z6u ⟨j,d',hj,e,s⟩) ha na ?_) lm;have q1:=q.1
 cases d with
 | lst l=>
  obtain⟨xs,h1,h2⟩:=hw;exact⟨xs,h1,z06 l xs q1 h2⟩
 | dct ks vs=>
  obtain⟨xs,h1,h2⟩:=hw;exact⟨xs,z06 vs xs q1 h1,h2⟩
 | _=>exact q1.elim
end
end Pu
namespace Pu
open PySem PySem.Spec PyProof.Rows L2
section
variable {X:Cx}{E:XK}{st:Stmt}{rest body la lb:List Stmt}{t u:Sm}{e a b c tg iter:Expr}{x y z:Ex}{pos:Pos}
theorem zaH {o:Option (List D)}{Q:List D->Prop}(h:onL o Q):∃l,o=some l/\Q l:=by
 cases o with
 | none=>exact h.elim
 | some l=>exact⟨l,rfl,h⟩
theorem z57 (hp:PassesOwn (model X.prog X.w) X.A X.env X.xe)(hc:QXT X E c z)(hb:QZs X E body t):QZ X E (.While c body [] pos) (.wh z t):=QS.imp (zdN hp hc hb) λD σ H ⟨H0,G0,G,ρ,N0,R0,X0,ab,⟨n,hr⟩,hn,hR,hx⟩=>by
 refine⟨λm σ' H'=>∃G' ρ',AbS X.K X.mg H0 G0 G' ρ' σ' H'/\Same G G'/\wh z t N0 R0 X0 m ρ',⟨n,G,ρ,ab,Same.refl',hr⟩,?_⟩;rintro m σ1 H1 ⟨G1,ρ1,ab1,g1,h1⟩
 cases m with
 | zero=>exact h1.elim
 | succ m=>
  refine zgU ab1 h1 hx (λq H2 G2 ab2 g2 =>?_) (λq H2 G2 ab2 g2 =>?_)
  ·refine iteT ⟨λσ' H'=>∃G' ρ',AbS X.K X.mg H0 G0 G' ρ' σ' H'/\Same G G'/\wh z t N0 R0 X0 m ρ',λσ' H' w=>⟨m,Nat.lt_succ_self _,w⟩,?_⟩;exact⟨H0,G0,G2,ρ1,wh z t N0 R0 X0 m,R0,X0,ab2,q,λρ' σ' H' G' w ab' g'=>⟨G',ρ',ab',z07 g1 (z07 g2 g'),w⟩,hR,hx⟩
  ·exact iteF (hn ρ1 σ1 H2 G2 q ab2 (z07 g1 g2))
noncomputable def Walk (K:W.Frag)(mg:Str->Option Value)(G:Hp)(l:List D)(J:It):Prop:=∀(i:Nat) (G1 H:Hp),Same G G1->Same G1 H->
 (∀d,l[i]? = some d->J.go i H/\∀v H',J.yld i H v H'->Same H H'/\∃G2,Gr G1 H G2/\Same G2 H'/\RD K mg G2 d v)/\(l.length<=i->J.stop i H)
noncomputable def ti (K:W.Frag)(mg:Str->Option Value)(E:XK)(e:Ex):TI:=λσ H R=>∃G ρ Q0 X0,Same G H/\AbE K mg G ρ σ/\e.run ρ Q0 X0/\(∀d,Q0 d->∃l,z06 d=some l)/\(∀d G' H',Q0 d->Gr G H G'->Same G' H'->Same H H'->∀l J,z06 d=some l->Walk K mg G' l J->R J H')/\Kx mg H X0 E
noncomputable abbrev QXI (X:Cx)(E:XK)(tg e:Expr)(x:Ex):Prop:=QI X tg e (ti X.K X.mg E x)
noncomputable def tgt (K:W.Frag):Tg->TG
 | .nm i=>z5Y i
 | .tp is=>gTup K is.length (is.foldr (λi r=>zeu (z5Y i) r) gNil)
theorem z76 {K:W.Frag}:∀(is:List Nat) (vs:List V) (σ:L2.St) (H:Hp) (Q:L2.St->Hp->Prop),is.length=vs.length->Q ((is.zip vs).foldl (λσ p=>σ.set p.1 (some p.2)) σ) H->(is.foldr (λi r=>zeu (z5Y i) r) gNil) vs σ H Q
 | [],[],_,_,_,_,q=>⟨rfl,q⟩
 | [],_::_,_,_,_,h,_=>by simp at h
 | _::_,[],_,_,_,h,_=>by simp at h
 | i::is,v::vs,σ,H,Q,h,q=>⟨v,vs,rfl,z76 (K:=K) is vs _ H Q (by simpa using h) q⟩
theorem AbS.putAll {K:W.Frag}{mg:Str->Option Value}{H0 G0 H:Hp}:∀(is:List Nat) (ds:List D) (vs:List V) {G:Hp}{ρ:Pu.Env}{σ:L2.St},is.length=ds.length->RDs K mg G ds vs->AbS K mg H0 G0 G ρ σ H->
  AbS K mg H0 G0 G (z6H is ds ρ) ((is.zip vs).foldl (λσ p=>σ.set p.1 (some p.2)) σ) H
 | [],[],vs,G,ρ,σ,_,h,ab=>by rw[RDs] at h; subst h; exact ab
 | [],_::_,_,_,_,_,h,_,_=>by simp at h
 | _::_,[],_,_,_,_,h,_,_=>by simp at h
 | i::is,d::ds,vs,G,ρ,σ,h,r,ab=>by
  rw[RDs] at r;obtain⟨v,vs',rfl,h1,h2⟩:=r;exact AbS.putAll is ds vs' (by simpa using h) h2 (ab.put ab.nw Same.refl' ab.g Same.refl' (λj d' a hj e s=>ab.free a ⟨j,d',e,s⟩) h1)
theorem zfr {K:W.Frag}{mg:Str->Option Value}{H0 G0 G H:Hp}{ρ:Pu.Env}{σ:L2.St}{tg:Tg}{d:D}{v:V}{N0:Pu.Env->Prop}{N:L2.St->Hp->Prop}(ab:AbS K mg H0 G0 G ρ σ H)(rd:RD K mg G d v)(hp:tg.put d ρ N0)(hn:∀ρ' σ',N0 ρ'->AbS K mg H0 G0 G ρ' σ' H->N σ' H):tgt K tg v σ H N:=by
 cases tg with
 | nm i=>exact hn _ _ hp (ab.put ab.nw Same.refl' ab.g Same.refl' (λj d' a hj e s=>ab.free a ⟨j,d',e,s⟩) rd)
 | tp is=>
  cases d with
  | tup ds=>
   obtain⟨hl,hp⟩:=hp;rw[RD] at rd;obtain⟨a,xs,rfl,h1,h2⟩:=rd;exact⟨a,xs,rfl,z1c ab.g h1,by rw[h2.len,hl],z76 (K:=K) is xs σ H N (by rw[h2.len,hl]) (hn _ _ hp (ab.putAll is ds xs hl h2))⟩
  | _=>exact hp.elim
theorem AbS.over {K:W.Frag}{mg:Str->Option Value}{H0 G0 G G2 H H2:Hp}{ρ:Pu.Env}{σ:L2.St}(ab:AbS K mg H0 G0 G ρ σ H)(g2:Gr G H G2)(k2:Same G2 H2)(s2:Same H H2):AbS K mg H0 G0 G2 ρ σ H2 where
 len:=ab.len
 s0:=z07 ab.s0 s2
 g0:=z07 ab.g0 g2.1
 g:=k2
 nw:=ab.nw2 g2
 sh:=λi d e=>by
  obtain⟨v,h1,h2⟩:=ab.sh i d e;exact⟨v,h1,h2.same g2.1⟩
 ow:=λi d e=>by
  obtain⟨a,h1,h2,h3,h4⟩:=ab.ow i d e;refine⟨a,h1,?_,h3,h4.same g2.1 (s2 a)⟩
  cases z:G2 a with
  | none=>rfl
  | some o=>
   obtain⟨u,hu⟩:=h4.some
   rcases g2.2 a o z with ⟨w,q⟩ | q
   ·rw[h2] at q; cases q
   ·rw[hu] at q; cases q
 ne:=ab.ne
theorem z7e {K:W.Frag}{mg:Str->Option Value}{H0 G0 G H:Hp}{ρ:Pu.Env}{σ:L2.St}{l:List D}{J:It}{tg:Tg}{N0:Pu.Env->Prop}{R0:DK}{X0:XP}{De:Ends}(ab:AbS K mg H0 G0 G ρ σ H)(hw:Walk K mg G l J)(hr:forL tg t N0 R0 X0 l ρ)
  (hn:Kn K mg H0 G0 G N0 De.nx) (hR:Kr K mg H0 G0 R0 De.rt) (hx:Kx mg H0 X0 E):
  ∃W:Nat->Nat->L2.St->Hp->Prop,(∃m,W 0 m σ H)/\∀i m σ H,W i m σ H->
   (J.stop i H/\De.nx σ H)\/(J.go i H/\∃N:L2.St->Hp->Prop,(∀σ' H',N σ' H'->∃m',m'<m/\W (i+1) m' σ' H')/\∀x H',J.yld i H x H'->tgt K tg x σ H' λσ2 H2=>ts K mg E t { De with nx:=N,ct:=N,bk:=De.nx } σ2 H2):=by
 refine⟨λi m σ H=>m=l.length - i/\i<=l.length/\∃G1 ρ1,AbS K mg H0 G0 G1 ρ1 σ H/\Same G G1/\forL tg t N0 R0 X0 (l.drop i) ρ1,⟨l.length,by simp,Nat.zero_le _,G,ρ,ab,Same.refl',by simpa using hr⟩,?_⟩;rintro i m σ1 H1 ⟨rfl,hi,G1,ρ1,ab1,g1,h1⟩;obtain⟨w1,w2⟩:=hw i G1 H1 g1 ab1.g
 by_cases hlt:i<l.length
 ·have e:l[i]? = some l[i]:=by simp[hlt]
  obtain⟨go,yl⟩:=w1 _ e;rw[List.drop_eq_getElem_cons hlt] at h1;refine .inr ⟨go,λσ' H'=>∃G2 ρ2,AbS K mg H0 G0 G2 ρ2 σ' H'/\Same G G2/\forL tg t N0 R0 X0 (l.drop (i+1)) ρ2,λσ' H' w=>⟨l.length - (i+1),by omega,rfl,hlt,w⟩,λv H2 y =>?_⟩;obtain⟨s2,G2,g2,k2,rd⟩:=yl v H2 y;have ab2:=ab1.over g2 k2 s2;refine zfr ab2 rd h1 λρ3 σ3 hb ab3 =>?_;exact⟨H0,G0,G2,ρ3,_,R0,X0,ab3,hb,λρ' σ' H' G' w ab' g'=>⟨G',ρ',ab',z07 g1 (z07 g2.1 g'),w⟩,hR,hx⟩
 ·have e:i=l.length:=by omega
  subst e;rw[List.drop_length] at h1;exact .inl ⟨w2 (Nat.le_refl _),hn ρ1 σ1 H1 G1 h1 ab1 g1⟩
theorem z65 {js:List Nat}{g:Tg}(hp:PassesOwn (model X.prog X.w) X.A X.env X.xe)(hc:X.calm=true)(hi:QXI X E tg iter x)(hg:QG X tg (tgt X.K g))(hb:QZs X E body t)(hs:∀x,foldedSetIterable iter X.env x=pure x:=by intro _; rfl):
  QZ X E (.For tg iter body [] pos) (.for_ js g x t):=QS.imp (zeT hp hc hi hg hb hs) λD σ H ⟨H0,G0,G,ρ,N0,R0,X0,ab,hr,hn,hR,hx⟩=>by
 obtain⟨G',ab',g'⟩:=ab.dem js;refine⟨G',vis (dem js ρ),_,X0,ab'.g,ab'.vis,hr,λd q=>(zaH q).imp λ_ z=>z.1,λd G1 H1 q g1 g2 g3 l J el hw =>?_,hx.same ab.s0⟩;have q':onL (z06 d) λl=>forL g t N0 R0 X0 l (dem js ρ):=q;rw[el] at q';exact z7e (E:=E) (ab'.over g1 g2 g3) hw q' (hn.same (z07 g' g1.1)) hR hx
theorem z4n {K:W.Frag}{mg:Str->Option Value}{G:Hp}{lo:Int}{n:Nat}:Walk K mg G ((List.range n).map λ(k:Nat)=>D.int (lo+(k:Int))) (Itr lo n):=λi G1 H g1 g2=>by
 refine⟨λd e =>?_,λhi=>(show n<=i by simpa using hi)⟩;obtain⟨h,e'⟩:=List.getElem?_eq_some_iff.mp e;have hi:i<n:=by simpa using h
 refine⟨hi,λv H' y =>?_⟩;obtain⟨rfl,rfl⟩:=y;refine⟨Same.refl',G1,Gr.refl,g2,?_⟩;rw[<- e'];simp only[List.getElem_map,List.getElem_range];rw[RD]
noncomputable def z96:Fn:=⟨λds Q _=>onR ds λl=>Q (.lst l),λds Q Q' X X' m _ q=>zaG (λ_ q=>m _ q) q⟩
theorem z0S {K:W.Frag}{mg:Str->Option Value}{G:Hp}{i:Int}{v:V}(h:RD K mg G (.int i) v):v = .int i:=by rw[RD] at h; exact h
theorem rds1 {K:W.Frag}{mg:Str->Option Value}{G:Hp}{d:D}{vs:List V}(h:RDs K mg G [d] vs):∃v,vs=[v]/\RD K mg G d v:=by
 rw[RDs] at h;obtain⟨x,r,rfl,h1,h2⟩:=h;rw[RDs] at h2;subst h2;exact⟨x,rfl,h1⟩
theorem rds2 {K:W.Frag}{mg:Str->Option Value}{G:Hp}{d e:D}{vs:List V}(h:RDs K mg G [d,e] vs):∃v w,vs=[v,w]/\RD K mg G d v/\RD K mg G e w:=by
 rw[RDs] at h;obtain⟨x,r,rfl,h1,h2⟩:=h;obtain⟨y,rfl,h3⟩:=rds1 h2;exact⟨x,y,rfl,h1,h3⟩
theorem zaF {K:W.Frag}{mg:Str->Option Value}{G:Hp}{ds:List D}{vs:List V}{Kk:List D->Prop}(rds:RDs K mg G ds vs)(h:onR ds Kk):
  (∃j:Int,vs=[.int j] /\ -(2 ^ 62)<=j/\j<2 ^ 62/\Kk ((List.range j.toNat).map λ(k:Nat)=>D.int (0+(k:Int))))\/∃i j:Int,vs=[.int i,.int j]/\(-(2 ^ 62)<=i/\i<2 ^ 62 /\ -(2 ^ 62)<=j/\j<2 ^ 62)/\Kk ((List.range (j - i).toNat).map λ(k:Nat)=>D.int (i+(k:Int))):=by
 unfold onR at h
 split at h
 ·obtain⟨v,rfl,r1⟩:=rds1 rds;refine .inl ⟨_,by rw[z0S r1],h.1.1,h.1.2,?_⟩;simpa using h.2
 ·obtain⟨v,w,rfl,r1,r2⟩:=rds2 rds;exact .inr ⟨_,_,by rw[z0S r1,z0S r2],⟨h.1.1.1,h.1.1.2,h.1.2.1,h.1.2.2⟩,h.2⟩
 ·exact h.elim
theorem zdt {K:W.Frag}{mg:Str->Option Value}{es:List Ex}{σ:L2.St}{H:Hp}{R:It->Hp->Prop}(h:ti K mg E (.op z96 es) σ H R):txa K mg E es σ H λvs H1=>(∃j:Int,vs=[.int j] /\ -(2 ^ 62)<=j/\j<2 ^ 62/\R (Itr 0 j.toNat) H1)\/∃i j:Int,vs=[.int i,.int j]/\(-(2 ^ 62)<=i/\i<2 ^ 62 /\ -(2 ^ 62)<=j/\j<2 ^ 62)/\R (Itr i (j - i).toNat) H1:=by
 obtain⟨G,ρ,Q0,X0,hs,ab,hr,_,hk,hx⟩:=h;refine⟨G,ρ,λds=>z96.run ds Q0 X0,X0,hs,ab,hr,λds vs G1 H1 q g1 g2 g3 rds =>?_,hx⟩
 rcases zaF rds (show onR ds (λl=>Q0 (.lst l)) from q) with ⟨j,e,h1,h2,q'⟩ | ⟨i,j,e,h1,q'⟩
 ·exact .inl ⟨j,e,h1,h2,hk _ G1 H1 q' g1 g2 g3 _ _ rfl z4n⟩
 ·exact .inr ⟨i,j,e,h1,hk _ G1 H1 q' g1 g2 g3 _ _ rfl z4n⟩
theorem zbR {K:W.Frag}{mg:Str->Option Value}{es:List Ex}{n:Nat}{σ:L2.St}{H:Hp}{Q Q':List V->Hp->Prop}(hl:es.length=n)(m:∀vs H1,vs.length=n->Q vs H1->Q' vs H1)(h:txa K mg E es σ H Q):txa K mg E es σ H Q':=by
 obtain⟨G,ρ,Q0,X0,hs,ab,hr,hk,hx⟩:=h;have len:∀(es:List Ex) (Q:List D->Prop),runs es ρ Q X0->runs es ρ (λds=>ds.length=es.length/\Q ds) X0:=by
  intro es
  induction es with
  | nil=>intro Q h; exact⟨rfl,h⟩
  | cons e es ih=>
   intro Q h;exact e.mono ρ _ _ X0 X0 (λd q=>z3V es ρ _ _ X0 X0 (λds q=>⟨by simp[q.1],q.2⟩) (λ_ z=>z) (ih _ q)) (λ_ z=>z) h
 exact⟨G,ρ,_,X0,hs,ab,len es Q0 hr,λds vs G1 H1 q g1 g2 g3 rds=>m vs H1 (by rw[rds.len,q.1,hl]) (hk ds vs G1 H1 q.2 g1 g2 g3 rds),hx⟩
theorem zbf {p:Pos}(hg:Gl X "range")(hm:X.mg "range"=none)(ha:QXA X E [a] [x])(hs:starEach [a] X.env=[(false,eval a X.env)]:=by rfl):QXI X E tg (.Call (.Name "range" p) [a] [] pos) (.op z96 [x]):=QI.imp (z93 hg hm ha hs) λσ H R h=>
 zbR (n:=1) rfl (λvs H1 hl q=>by
  rcases q with q | ⟨i,j,e,_⟩
  ·exact q
  ·rw[e] at hl; simp at hl) (zdt h)
theorem zfI {g:Tg}{es:List Ex}{wi:TI}(hp:PassesOwn (model X.prog X.w) X.A X.env X.xe)(hc:X.calm=true)(hg:QG X tg (tgt X.K g))(hb:QZs X E body t)
  (hri:∀σ H R,(txa X.K X.mg E es σ H λvs H1=>(∃j:Int,vs=[.int j] /\ -(2 ^ 62)<=j/\j<2 ^ 62/\R (Itr 0 j.toNat) H1)\/∃i j:Int,vs=[.int i,.int j]/\(-(2 ^ 62)<=i/\i<2 ^ 62 /\ -(2 ^ 62)<=j/\j<2 ^ 62)/\R (Itr i (j - i).toNat) H1)->wi σ H R) (hi':QI X tg iter wi)
  (hs:∀x,foldedSetIterable iter X.env x=pure x:=by intro _; rfl):
  QZ X E (.For tg iter body [] pos) (.forr es g t):=QS.imp (zeT hp hc hi' hg hb hs) λDe σ H ⟨H0,G0,G,ρ,N0,R0,X0,ab,hr,hn,hR,hx⟩=>by
 refine hri σ H _ ⟨plus G H (z2h ρ σ),ρ,λds=>onR ds λl=>forL g t N0 R0 X0 l ρ,X0,z4V ab.g,ab.abe,hr,λds vs G1 H1 q g1 g2 g3 rds =>?_,hx.same ab.s0⟩;obtain⟨ab',lm⟩:=ab.back g1 g2 g3
 rcases zaF rds q with ⟨j,e,h1,h2,q'⟩ | ⟨i,j,e,h1,q'⟩
 ·exact .inl ⟨j,e,h1,h2,z7e (E:=E) ab' z4n q' (hn.same lm) hR hx⟩
 ·exact .inr ⟨i,j,e,h1,z7e (E:=E) ab' z4n q' (hn.same lm) hR hx⟩
theorem zdL {g:Tg}{p pos2:Pos}(hp:PassesOwn (model X.prog X.w) X.A X.env X.xe)(hc:X.calm=true)(hgr:Gl X "range")(hm:X.mg "range"=none)(ha:QXA X E [a] [x])(hg:QG X tg (tgt X.K g))(hb:QZs X E body t)(hst:starEach [a] X.env=[(false,eval a X.env)]:=by rfl)
  (hs:∀x,foldedSetIterable (.Call (.Name "range" p) [a] [] pos2) X.env x=pure x:=by intro _; rfl):QZ X E (.For tg (.Call (.Name "range" p) [a] [] pos2) body [] pos) (.forr [x] g t):=
 zfI hp hc hg hb (λσ H R h=>zbR (n:=1) rfl (λvs H1 hl q=>by
  rcases q with q | ⟨i,j,e,_⟩
  ·exact q
  ·rw[e] at hl; simp at hl) h) (z93 hgr hm ha hst) hs
noncomputable def iAny (K:W.Frag)(tl:TE):TI:=λσ H R=>tl σ H λx H1=>(∃a,x = .ref a/\(∃xs,SqL K H1 a xs)/\R (Itl K a) H1)\/(∃a,x = .ref a/\(∃xs,SqT K H1 a xs)/\R (Itt K a) H1)\/∃y,x = .str y/\R (Its y) H1
theorem zhz {l:Expr}{tl:TE}(hl:QE X l tl):QI X tg l (iAny X.K tl):=by
 constructor
 intro pins s σ H R I h;refine thn (hl.p pins s σ H _ I h) λv s1 ⟨x,H1,I1,r1,q1⟩ =>?_;have fp:∀b∈[s1.heap.objs.size],FpOk X pins H1 b:=λb hb=>by
  have e:b=s1.heap.objs.size:=by simpa using hb
  subst e;exact I1.fpOk (Nat.le_refl _) (I1.hok.fresh (Nat.le_refl _))
 rcases q1 with ⟨a,e,⟨xs,hq⟩,q⟩ | ⟨a,e,⟨xs,hq⟩,q⟩ | ⟨y,rfl,q⟩
 ·subst e
  cases r1
  obtain⟨its,rv,p,hz⟩:=I1.list hq;refine wpAny_pyIter_list p.isList ?_;exact⟨s1.heap.objs.size,[s1.heap.objs.size],_,_,H1,rfl,I1.kept (t':=s1.toks) λb o e=>Heap.get?_push_of_some _ e,zbT a _,⟨_,Heap.get?_push_size _ rfl,rfl,rfl⟩,fp,q⟩
 ·subst e
  cases r1
  obtain⟨its,rv,p,hz⟩:=I1.tuple hq;refine wpAny_pyIter_tuple (show s1.heap.IsTuple a its.toArray from p) ?_;exact⟨s1.heap.objs.size,[s1.heap.objs.size],_,_,H1,rfl,I1.kept (t':=s1.toks) λb o e=>Heap.get?_push_of_some _ e,zb4 a _,⟨_,Heap.get?_push_size _ rfl,rfl,rfl⟩,fp,q⟩
 ·obtain⟨t,rfl⟩:=r1
  cases ha:y.cps.all (· < 128)
  ·exact wpAny_pyIter_wide ha ⟨s1.heap.objs.size,[s1.heap.objs.size],_,_,H1,rfl,I1.kept (t':=s1.toks) λb o e=>Heap.get?_push_of_some _ e,zao y t _ (by decide) (λA' hA=>Walks.strWide hA _ y t) (λA i s Q E st h=>wpAny_pyIter_striter_wide st h),⟨Nat.zero_le _,_,Heap.get?_push_size _ rfl,rfl,rfl⟩,fp,q⟩
  ·exact wpAny_pyIter_ascii ha ⟨s1.heap.objs.size,[s1.heap.objs.size],_,_,H1,rfl,I1.kept (t':=s1.toks) λb o e=>Heap.get?_push_of_some _ e,zao y t _ (by decide) (λA' hA=>Walks.strAscii hA _ y t) (λA i s Q E st h=>wpAny_pyIter_striter_ascii st h),⟨Nat.zero_le _,_,Heap.get?_push_size _ rfl,rfl,rfl⟩,fp,q⟩
theorem zbO {K:W.Frag}{mg:Str->Option Value}{G:Hp}{a:Addr}{xs:List V}{l:List D}(h:SqL K G a xs)(r:RDs K mg G l xs):Walk K mg G l (Itl K a):=λi G1 H g1 g2=>by
 have hH:=z1K (z07 g1 g2) h;refine⟨λd e =>?_,λhi=>⟨xs,hH,by rw[r.len]; exact hi⟩⟩;obtain⟨v,ev,rv⟩:=r.get e;refine⟨⟨xs,v,hH,ev⟩,λv' H' y =>?_⟩;obtain⟨rfl,y⟩:=y;have:=y xs hH;rw[ev] at this
 cases this
 exact⟨Same.refl',G1,Gr.refl,g2,rv.same g1⟩
theorem zdq {K:W.Frag}{mg:Str->Option Value}{G:Hp}{a:Addr}{xs:List V}{l:List D}(h:SqT K G a xs)(r:RDs K mg G l xs):Walk K mg G l (Itt K a):=λi G1 H g1 g2=>by
 have hH:=z1c (z07 g1 g2) h;refine⟨λd e =>?_,λhi=>⟨xs,hH,by rw[r.len]; exact hi⟩⟩;obtain⟨v,ev,rv⟩:=r.get e;refine⟨⟨xs,v,hH,ev⟩,λv' H' y =>?_⟩;obtain⟨rfl,y⟩:=y;have:=y xs hH;rw[ev] at this
 cases this
 exact⟨Same.refl',G1,Gr.refl,g2,rv.same g1⟩
theorem zdr {K:W.Frag}{mg:Str->Option Value}{G:Hp}{y:Str}:Walk K mg G (y.cps.toList.map λc =>.str ⟨#[c]⟩) (Its y):=λi G1 H g1 g2=>by
 refine⟨λd e =>?_,λhi=>(show y.cps.size<=i by simpa using hi)⟩;rw[List.getElem?_map] at e
 cases q:y.cps.toList[i]? with
 | none=>rw[q] at e; cases e
 | some c=>
  rw[q] at e
  cases e
  have hi:i<y.cps.size:=by
   have:=(List.getElem?_eq_some_iff.mp q).1;simpa using this
  refine⟨hi,λv H' yl =>?_⟩;obtain⟨rfl,c',ec,rfl⟩:=yl;have:c'=c:=by
   have q':y.cps[i]? = some c:=by simpa using q
   rw[q'] at ec; exact(Option.some.inj ec).symm
  subst this;exact⟨Same.refl',G1,Gr.refl,g2,by rw[RD]⟩
theorem qi_x (h:QX X E iter x):QXI X E tg iter x:=QI.imp (zhz h) λσ H R ⟨G,ρ,Q0,X0,hs,ab,hr,hz,hk,hx⟩=>by
 refine⟨G,ρ,Q0,X0,hs,ab,hr,λd v G1 H1 q g1 g2 g3 rd =>?_,hx⟩
 cases d with
 | lst l=>
  rw[RD] at rd;obtain⟨a,xs,rfl,h1,h2⟩:=rd;exact .inl ⟨a,rfl,⟨xs,z1K g2 h1⟩,hk _ G1 H1 q g1 g2 g3 l _ rfl (zbO h1 h2)⟩
 | tup l=>
  rw[RD] at rd;obtain⟨a,xs,rfl,h1,h2⟩:=rd;exact .inr (.inl ⟨a,rfl,⟨xs,z1c g2 h1⟩,hk _ G1 H1 q g1 g2 g3 l _ rfl (zdq h1 h2)⟩)
 | str y=>
  rw[RD] at rd;subst rd;exact .inr (.inr ⟨y,rfl,hk _ G1 H1 q g1 g2 g3 _ _ rfl zdr⟩)
 | _=>
  obtain⟨l,e⟩:=hz _ q
  cases e
end
end Pu
namespace Pu
open PySem PySem.Spec PyProof.Rows L2
section
variable {K:W.Frag}{mg:Str->Option Value}{H0 G0 G G1 H H1:Hp}{ρ:Pu.Env}{σ:L2.St}{i:Nat}
theorem z6P {Kk:List D->Prop}(h:ownL ρ i Kk):∃l,ρ[i]? = some (B.o (.lst l))/\Kk l:=by
 unfold ownL at h
 split at h
 ·rename_i l e; exact⟨l,e,h⟩
 ·exact h.elim
theorem ze1:(λa=>∃(j:Nat) (d:D),True/\ρ[j]? = some (B.o d)/\σ[j]? = some (some (V.ref a)))=z2h ρ σ:=by
 funext a
 exact propext ⟨λ⟨j,d,_,h⟩=>⟨j,d,h⟩,λ⟨j,d,h⟩=>⟨j,d,trivial,h⟩⟩
theorem z7O {d:D}{v:V}(h:AbS K mg H0 G0 G ρ σ H)(g2:Same G1 H1)(g3:Same H H1)(sf:Safe d ρ)(rd:RD K mg G1 d v):RD K mg (minus G1 (z2h ρ σ)) d v:=by
 have:=z9P h g2 g3 sf rd;rw[ze1] at this;exact this
theorem zdB {l:List D}(h:AbS K mg H0 G0 G ρ σ H)(g2:Same G1 H1)(g3:Same H H1):∀{xs:List V},(∀x∈l,Safe x ρ)->RDs K mg G1 l xs->RDs K mg (minus G1 (z2h ρ σ)) l xs:=by
 induction l with
 | nil=>intro xs _ h; rw[RDs] at h ⊢; exact h
 | cons y l ih=>
  intro xs hs hr;rw[RDs] at hr ⊢;obtain⟨v,r,h1,h2,h3⟩:=hr;exact⟨v,r,h1,z7O h g2 g3 (hs y List.mem_cons_self) h2,ih (λz hz=>hs z (List.mem_cons_of_mem _ hz)) h3⟩
theorem AbS.wrB {l l':List D}{a:Addr}{ys:List V}(ab:AbS K mg H0 G0 G ρ σ H)(g1:Gr (plus G H (z2h ρ σ)) H G1)(g2:Same G1 H1)(g3:Same H H1)(hi:ρ[i]? = some (B.o (.lst l)))(hs:σ[i]? = some (some (V.ref a)))(hr:RDs K mg (minus G1 (z2h ρ σ)) l' ys):
  AbS K mg H0 G0 (minus G1 (z2h ρ σ)) (ρ.set i (.o (.lst l'))) σ (upd H1 a (.lst ys))/\Same G (minus G1 (z2h ρ σ)):=by
 have lm:Same G (minus G1 (z2h ρ σ)):=z4p (z07 (z38 ab.free) g1.1) ab.free;exact⟨ab.wr (λa o e=>ab.nw1 g1 a o (z2X a o e)) lm (z07 z2X g2) g3 (λj d' a e s=>z6u ⟨j,d',e,s⟩) hi hs ⟨ys,z0t,hr⟩,lm⟩
end
section
variable {X:Cx}{E:XK}{st:Stmt}{t:Sm}{e o tg:Expr}{x y z:Ex}{pos cpos apos:Pos}{i j:Nat}
theorem z66 (ho:QE X o (tVar i))(ha:QXA X E [e] [x])
  (hs:swapsWith (.Call (.Attribute o "append" apos) [e] [] cpos) none pos.line X.env=pure false:=by rfl)
  (hbase:attributeBase o "append" X.env (eval o X.env)=eval o X.env:=by rfl)
  (hfew:((backTo cpos (starEach [e] X.env)).all (λx => !x.1) && (backToKw cpos (keywordEach [] X.env)).all (λx=>x.1.isSome)
   && decide ([e].length+([]:List Keyword).length+(if ([]:List Keyword).isEmpty then 0 else 1)<30))=true:=by rfl)
  (hline:(apos.endLine == cpos.line)=true:=by rfl) (hst:starEach [e] X.env=(false,eval e X.env)::starEach [] X.env:=by rfl) (hplain:(backTo cpos (starEach [] X.env)).any (·.1)=false:=by rfl):
  QZ X E (.Expr (.Call (.Attribute o "append" apos) [e] [] cpos) pos) (.app i x):=
 QS.imp (z9S (zhI PySem.F.plainAttrs_list PySem.F.slot_list_append PySem.F.type_list_append z7z ho ha hbase hfew hline hst hplain) hs) λDe σ H ⟨H0,G0,G,ρ,N0,R0,X0,ab,hr,hn,hR,hx⟩=>by
  obtain⟨l,hl,hr⟩:=z6P hr;obtain⟨a,s1,ga,h0,xs,hw,hrd⟩:=ab.ow i _ hl;refine⟨.ref a,s1,.inl ⟨rfl,xs,SqL.of hw⟩,?_⟩;refine⟨plus G H (z2h ρ σ),ρ,λds=>∃d,ds=[d]/\l.length<sizeLine/\Safe d ρ/\N0 (ρ.set i (.o (.lst (l++[d])))),X0,z4V ab.g,ab.abe,x.mono ρ _ _ X0 X0 (λd q=>⟨d,rfl,q⟩) (λ_ z=>z) hr,?_,hx.same ab.s0⟩;rintro ds vs G1 H1 ⟨d,rfl,hsz,sf,hN⟩ g1 g2 g3 rds;obtain⟨v,rfl,rd⟩:=rds1 rds;refine⟨a,xs,v,rfl,rfl,g3 _ _ hw,by rw[hrd.len]; exact hsz,?_⟩;have lm:Same G (minus G1 (z2h ρ σ)):=z4p (z07 (z38 ab.free) g1.1) ab.free;obtain⟨ab',g'⟩:=ab.wrB (i:=i) (l':=l++[d]) (ys:=xs++[v]) g1 g2 g3 hl s1 ((hrd.same lm).app (RDs.cons (z7O ab g2 g3 sf rd) RDs.nil));exact hn _ σ _ _ hN ab' g'
theorem zhp (ho:QE X o (tVar i))(hf:QF X E e x)
  (hs:swapsWith (.Call (.Attribute o "extend" apos) [e] [] cpos) none pos.line X.env=pure false:=by rfl)
  (hbase:attributeBase o "extend" X.env (eval o X.env)=eval o X.env:=by rfl)
  (hfew:((backTo cpos (starEach [e] X.env)).all (λx => !x.1) && (backToKw cpos (keywordEach [] X.env)).all (λx=>x.1.isSome)
   && decide ([e].length+([]:List Keyword).length+(if ([]:List Keyword).isEmpty then 0 else 1)<30))=true:=by rfl)
  (hline:(apos.endLine == cpos.line)=true:=by rfl) (hst:starEach [e] X.env=(false,eval e X.env)::starEach [] X.env:=by rfl) (hplain:(backTo cpos (starEach [] X.env)).any (·.1)=false:=by rfl):
  QZ X E (.Expr (.Call (.Attribute o "extend" apos) [e] [] cpos) pos) (.ext i x):=by
 refine QS.imp (z9S (zhI PySem.F.plainAttrs_list PySem.F.slot_list_extend PySem.F.type_list_extend zcD ho (z5G hf z94 hst) hbase hfew hline hst hplain) hs) λDe σ H ⟨H0,G0,G,ρ,N0,R0,X0,ab,hr,hn,hR,hx⟩ =>?_;obtain⟨l,hl,hr⟩:=z6P hr;obtain⟨a,s1,ga,h0,xs,hw,hrd⟩:=ab.ow i _ hl;refine⟨.ref a,s1,.inl ⟨rfl,xs,SqL.of hw⟩,?_⟩;refine⟨plus G H (z2h ρ σ),ρ,_,X0,z4V ab.g,ab.abe,hr,λd b G1 H1 q g1 g2 g3 hb gb how =>?_,hx.same ab.s0⟩
 cases d with
 | lst m=>
  obtain⟨zs,hz,hzr⟩:=how;obtain⟨q1,q2,q3⟩:=q;refine⟨a,b,xs,zs,rfl,rfl,g3 _ _ hw,hz,by rw[hrd.len,hzr.len]; exact q1,?_⟩;have lm:Same G (minus G1 (z2h ρ σ)):=z4p (z07 (z38 ab.free) g1.1) ab.free;obtain⟨ab',g'⟩:=ab.wrB (i:=i) (l':=l++m) (ys:=xs++zs) g1 g2 g3 hl s1 ((hrd.same lm).app (zdB ab g2 g3 q2 hzr));exact hn _ σ _ _ q3 ab' g'
 | _=>exact q.elim
theorem RDs.last {K:W.Frag}{mg:Str->Option Value}{G:Hp}{l:List D}{xs:List V}(h:RDs K mg G l xs):RDs K mg G l.dropLast xs.dropLast:=by
 rw[List.dropLast_eq_take,List.dropLast_eq_take,h.len];exact h.take _
theorem zcj {l:List D}{Kk:List D->D->Prop}(h:popL l Kk):∃d,l[l.length - 1]? = some d/\Kk l.dropLast d:=by
 unfold popL at h
 split at h
 ·rename_i d e; exact⟨d,e,h⟩
 ·exact h.elim
theorem zgO {K:W.Frag}{mg:Str->Option Value}{H0 G0 G H:Hp}{ρ:Pu.Env}{σ:L2.St}{l l':List D}{a:Addr}{ys:List V}(ab:AbS K mg H0 G0 G ρ σ H)(hi:ρ[i]? = some (B.o (.lst l)))(hs:σ[i]? = some (some (V.ref a)))(hr:RDs K mg G l' ys):AbS K mg H0 G0 G (ρ.set i (.o (.lst l'))) σ (upd H a (.lst ys)):=
 ab.wr ab.nw Same.refl' ab.g Same.refl' (λj d' a e s=>ab.free a ⟨j,d',e,s⟩) hi hs ⟨ys,z0t,hr⟩
theorem zeR (ho:QE X o (tVar i))(hs:swapsWith (.Call (.Attribute o "pop" apos) [] [] cpos) none pos.line X.env=pure false:=by rfl)(hbase:attributeBase o "pop" X.env (eval o X.env)=eval o X.env:=by rfl)(hline:(apos.endLine == cpos.line)=true:=by rfl):
  QZ X E (.Expr (.Call (.Attribute o "pop" apos) [] [] cpos) pos) (.pop i):=
 QS.imp (z9S (zhH PySem.F.plainAttrs_list PySem.F.slot_list_pop PySem.F.type_list_pop ziI ho hbase hline) hs) λDe σ H ⟨H0,G0,G,ρ,N0,R0,X0,ab,hr,hn,hR,hx⟩=>by
  obtain⟨l,hl,hr⟩:=z6P hr;obtain⟨d,hd,hN⟩:=zcj hr;obtain⟨a,s1,ga,h0,xs,hw,hrd⟩:=ab.ow i _ hl;refine⟨.ref a,s1,.inl ⟨rfl,xs,SqL.of hw⟩,?_⟩;obtain⟨v,hv,rv⟩:=hrd.get hd;exact⟨a,xs,v,rfl,rfl,hw,by rw[hrd.len]; exact hv,hn _ σ _ G hN (zgO ab hl s1 hrd.last) Same.refl'⟩
theorem zen {d:D}{Kk:Int->Prop}(h:isI d Kk):∃k,d = .int k/\Kk k:=by
 cases d with
 | int k=>exact⟨k,rfl,h⟩
 | _=>exact h.elim
end
section
variable {P:Program}{w:World}{K:W.Frag}{mg:Str->Option Value}{base:Heap}{N:List Str}{qual:Str}{f:Addr}
theorem zdw {G H:Hp}{ds:List D}{vs:List V}{np nn:Nat}(hs:Same G H)(r:RDs K mg G ds vs)(hl:ds.length=np)(hN:N.length=nn):AbS K mg H G G (ds.map B.s++List.replicate (nn - np) .n) (L2.z1Z N vs) H:=by
 have hn:∀(i:Nat) (b:B),(ds.map B.s++List.replicate (nn - np) .n)[i]? = some b->(∃d,b = .s d/\ds[i]? = some d)\/b = .n:=λi b e=>by
  by_cases hi:i<ds.length
  ·rw[List.getElem?_append_left (by simpa using hi),List.getElem?_map] at e;rw[List.getElem?_eq_getElem hi] at e ⊢
   cases e
   exact .inl ⟨_,rfl,rfl⟩
  ·rw[List.getElem?_append_right (by simpa using hi)] at e;have:=List.getElem?_eq_some_iff.mp e;obtain⟨h1,h2⟩:=this;simp at h2;exact .inr h2.symm
 refine⟨?_,Same.refl',Same.refl',hs,λa o e =>.inl ⟨o,e⟩,λi d e =>?_,λi d e =>?_,λi j d d' a _ e =>?_⟩
 ·unfold L2.z1Z;rw[List.length_append,List.length_append,List.length_map,List.length_map,List.length_replicate,List.length_replicate,r.len,hl,hN]
 ·rcases hn i _ e with ⟨d',e1,e2⟩ | e1
  ·cases e1
   obtain⟨v,h1,h2⟩:=r.get e2;refine⟨v,?_,h2⟩;unfold L2.z1Z;have hi:i<vs.length:=(List.getElem?_eq_some_iff.mp h1).1;rw[List.getElem?_append_left (by simpa using hi),List.getElem?_map,h1]
   rfl
  ·cases e1
 ·rcases hn i _ e with ⟨d',e1,e2⟩ | e1 <;> cases e1
 ·rcases hn i _ e with ⟨d',e1,e2⟩ | e1 <;> cases e1
theorem fnN {x:Str}{st:Stmt}{fd:FuncData}{ps:List Str}{k np nn:Nat}{b:Sm}(F:Fun K x qual st f fd)(S:z0p N ps (z01 st))(hp:ps.length=np)(hN:N.length=nn)
  (hb:∀(cdv:Value) (A:Around) (outer:List PySem.Env) (s:Shared) (H:Hp) (E:XK),Room k (A.deeper (envOfC qual (z01 st) s.heap.objs.size f cdv))->QZs ((cxOf (CXe P w) P w K mg base N qual (z01 st) f cdv A outer s H E).wish λ_ _=>False) E0 (z3d st) b):
  FnOk P w K mg base (CXe P w) (k+1) f fd ps (spP K mg (Fn.mkN np nn b)):=by
 refine F.okN S (λvs H Q E ⟨G,ds,Q0,X0,hs,rds,⟨hl,hr⟩,hk,hx⟩=>by rw[rds.len,hl,hp]) λcdv A outer s H vs Q E hroom ⟨G,ds,Q0,X0,hs,rds,⟨hl,hr⟩,hk,hx⟩=>⟨_,hb cdv A outer s H E hroom,?_⟩
 refine⟨H,G,G,_,λ_=>Q0 .non,Q0,λ_=>False,zdw hs rds hl hN,hr,λρ' σ' H' G' q ab _ =>?_,hk,Kx.no⟩;exact hk .non .non G' H' q ⟨ab.g0,ab.nw⟩ ab.g ab.s0 (by rw[RD])
end
end Pu
namespace Pu
open PySem PySem.Spec PyProof.Rows L2
noncomputable def Tg.slots:Tg->List Nat
 | .nm i=>[i]
 | .tp is=>is
section
variable {K:W.Frag}{mg:Str->Option Value}{G G1 H H1:Hp}{ρ:Pu.Env}{σ:L2.St}
theorem AbE.put {i:Nat}{d:D}{v:V}(h:AbE K mg G ρ σ)(hi:i < σ.length)(r:RD K mg G d v):AbE K mg G (ρ.set i (.s d)) (σ.set i (some v)):=λj e q=>by
 rw[Env.get_eq] at q
 by_cases hj:j=i
 ·subst hj
  cases z:(ρ.set j (.s d))[j]? with
  | none=>rw[z] at q; cases q
  | some b=>
   have hl:j < ρ.length:=by
    have:=(List.getElem?_eq_some_iff.mp z).1;simpa using this
   rw[List.getElem?_set_self hl] at q
   cases q
   exact⟨v,by rw[List.getElem?_set_self hi],r⟩
 ·rw[List.getElem?_set_ne (Ne.symm hj), <- Env.get_eq] at q;obtain⟨w,h1,h2⟩:=h j e q;exact⟨w,by rw[List.getElem?_set_ne (Ne.symm hj)]; exact h1,h2⟩
theorem AbE.keep {i:Nat}{v:V}(h:AbE K mg G ρ σ)(hn:ρ.get i=none):AbE K mg G ρ (σ.set i (some v)):=λj e q=>by
 have hj:j≠i:=λz=>by rw[z,hn] at q; cases q
 obtain⟨w,h1,h2⟩:=h j e q;exact⟨w,by rw[List.getElem?_set_ne (Ne.symm hj)]; exact h1,h2⟩
theorem AbE.putAll {base:Pu.Env}:∀(is:List Nat) (ds:List D) (vs:List V) {ρ:Pu.Env}{σ:L2.St},is.length=ds.length->RDs K mg G ds vs->(∀i∈is,i < σ.length)->(∀i∈is,base.get i=none)->AbE K mg G ρ σ->AbE K mg G base σ->
  AbE K mg G (z6H is ds ρ) ((is.zip vs).foldl (λσ p=>σ.set p.1 (some p.2)) σ)/\AbE K mg G base ((is.zip vs).foldl (λσ p=>σ.set p.1 (some p.2)) σ)/\((is.zip vs).foldl (λσ p=>σ.set p.1 (some p.2)) σ).length=σ.length
 | [],[],vs,ρ,σ,_,h,_,_,ab,bb=>by rw[RDs] at h; subst h; exact⟨ab,bb,rfl⟩
 | [],_::_,_,_,_,h,_,_,_,_,_=>by simp at h
 | _::_,[],_,_,_,h,_,_,_,_,_=>by simp at h
 | i::is,d::ds,vs,ρ,σ,h,r,hl,hn,ab,bb=>by
  rw[RDs] at r;obtain⟨v,vs',rfl,h1,h2⟩:=r;obtain⟨a1,a2,a3⟩:=AbE.putAll (base:=base) is ds vs' (ρ:=ρ.set i (.s d)) (σ:=σ.set i (some v)) (by simpa using h) h2 (λj hj=>by rw[List.length_set]; exact hl j (List.mem_cons_of_mem _ hj)) (λj hj=>hn j (List.mem_cons_of_mem _ hj)) (ab.put (hl i List.mem_cons_self) h1) (bb.keep (hn i List.mem_cons_self));exact⟨a1,a2,by rw[List.zip_cons_cons,List.foldl_cons,a3,List.length_set]⟩
theorem zdu {tg:Tg}{d:D}{v:V}{N0:Pu.Env->Prop}{N:L2.St->Hp->Prop}(ab:AbE K mg G ρ σ)(g:Same G H)(rd:RD K mg G d v)(hl:∀i∈tg.slots,i < σ.length)(hf:∀i∈tg.slots,ρ.get i=none)(hp:tg.put d ρ N0)
  (hn:∀ρ' σ',N0 ρ'->AbE K mg G ρ' σ'->AbE K mg G ρ σ'->σ'.length=σ.length->N σ' H):tgt K tg v σ H N:=by
 cases tg with
 | nm i=>
  have h1:=hl i (by simp[Tg.slots]);have h2:=hf i (by simp[Tg.slots]);exact hn _ _ hp (ab.put h1 rd) (ab.keep h2) (by simp)
 | tp is=>
  cases d with
  | tup ds=>
   obtain⟨hle,hp⟩:=hp;rw[RD] at rd;obtain⟨a,xs,rfl,h1,h2⟩:=rd;obtain⟨a1,a2,a3⟩:=AbE.putAll (base:=ρ) is ds xs (ρ:=ρ) (σ:=σ) hle h2 hl hf ab ab;exact⟨a,xs,rfl,z1c g h1,by rw[h2.len,hle],z76 (K:=K) is xs σ H N (by rw[h2.len,hle]) (hn _ _ hp a1 a2 a3)⟩
  | _=>exact hp.elim
theorem zbG {nt:Nat}{js:List Nat}(h:AbE K mg G ρ σ):AbE K mg G (z1s nt js ρ) (List.replicate nt none++js.map λj=>(σ[j]?).getD none):=λi d e=>by
 rw[Env.get_eq] at e;unfold z1s at e
 by_cases hi:i<nt
 ·rw[List.getElem?_append_left (by simpa using hi),List.getElem?_replicate,if_pos hi] at e
  cases e
 ·rw[List.getElem?_append_right (by simpa using hi),List.length_replicate,List.getElem?_map] at e;rw[List.getElem?_append_right (by simpa using hi),List.length_replicate,List.getElem?_map]
  cases q:js[i - nt]? with
  | none=>rw[q] at e; cases e
  | some j=>
   rw[q] at e;have e':((ρ[j]?).getD .n).get=some d:=e;have e2:ρ.get j=some d:=by
    rw[Env.get_eq]
    cases z:ρ[j]? with
    | none=>rw[z] at e'; cases e'
    | some b=>rw[z] at e'; exact e'
   obtain⟨v,h1,h2⟩:=h j d e2;refine⟨v,?_,h2⟩;show some ((σ[j]?).getD none)=some (some v);rw[h1]; rfl
theorem z9z {nt:Nat}{js:List Nat}{i:Nat}(hi:i<nt):(z1s nt js ρ).get i=none:=by
 rw[Env.get_eq];unfold z1s;rw[List.getElem?_append_left (by simpa using hi),List.getElem?_replicate,if_pos hi]
 rfl
noncomputable def TcOk (K:W.Frag)(mg:Str->Option Value)(c:Option Ex)(tc:TT):Prop:=match c with
 | none=>tc=z6C
 | some c=>tc=tt K mg E0 c
theorem zeg {nt:Nat}{js:List Nat}{tg:Tg}{c:Option Ex}{elt:Ex}{l:List D}{J:It}{tc:TT}{Q0:List D->Prop}{Q:VK}(hts:∀i∈tg.slots,i<nt)(ab:AbE K mg G ρ σ)(g:Same G H)(hw:Walk K mg G l J)(hsz:l.length<sizeLine)
  (hr:z5u (z5v tg c elt (z1s nt js ρ)) l Q0)
  (htc:TcOk K mg c tc)
  (hk:∀rs ys p G2 H2,Q0 rs->Gr G H G2->Same G2 H2->Same H H2->RDs K mg G2 rs ys->H2 p=none->Q (.ref p) (upd H2 p (.lst ys))):
  LcG J (tgt K tg) tc (tx K mg E0 elt) Q (List.replicate nt none++js.map λj=>(σ[j]?).getD none) H:=by
 refine⟨λi m ys σ' H'=>m=l.length - i/\i<=l.length/\ys.length<=i/\σ'.length=nt+js.length/\∃G' rs,Gr G H G'/\Same G' H'/\Same H H'/\RDs K mg G' rs ys/\AbE K mg G' (z1s nt js ρ) σ'/\z5u (z5v tg c elt (z1s nt js ρ)) (l.drop i) λr=>Q0 (rs++r),
  ⟨l.length,by simp,Nat.zero_le _,by simp,by simp,G,[],Gr.refl,g,Same.refl',RDs.nil,zbG ab,by simpa using hr⟩,?_⟩
 rintro i m ys σ1 H1 ⟨rfl,hi,hyl,hsl,G1,rs,g1,g2,g3,rds,ab1,h1⟩;refine⟨by omega,?_⟩;obtain⟨w1,w2⟩:=hw i G1 H1 g1.1 g2
 by_cases hlt:i<l.length
 ·have e:l[i]? = some l[i]:=by simp[hlt]
  obtain⟨go,yl⟩:=w1 _ e;rw[List.drop_eq_getElem_cons hlt] at h1;have h1':z5v tg c elt (z1s nt js ρ) l[i] (λo=>z5u (z5v tg c elt (z1s nt js ρ)) (l.drop (i+1)) λr=>Q0 (rs++(o.toList++r))):=h1;unfold z5v at h1';refine .inr ⟨go,λv H2 y =>?_⟩;obtain⟨s2,G2,k1,k2,rd⟩:=yl v H2 y;refine zdu (ab1.same k1.1) k2 rd (λj hj=>by rw[hsl]; have:=hts j hj; omega) (λj hj=>z9z (hts j hj)) h1' λρ3 σ3 hb ab3 bb3 hl3 =>?_;have el:∀{G3 H3:Hp},Gr G2 H2 G3->Same G3 H3->Same H2 H3->(elt.run ρ3 (λd=>z5u (z5v tg c elt (z1s nt js ρ)) (l.drop (i+1)) λr=>Q0 (rs++((some d:Option D).toList++r))) λ_=>False)->
    tx K mg E0 elt σ3 H3 λy H4=>∃m',m'<l.length - i/\m'=l.length - (i+1)/\i+1<=l.length/\(ys++[y]).length<=i+1/\σ3.length=nt+js.length/\∃G' rs',Gr G H G'/\Same G' H4/\Same H H4/\RDs K mg G' rs' (ys++[y])/\AbE K mg G' (z1s nt js ρ) σ3/\z5u (z5v tg c elt (z1s nt js ρ)) (l.drop (i+1)) λr=>Q0 (rs'++r):=λ{G3 H3} k3 k4 k5 he=>by
   refine⟨G3,ρ3,_,λ_=>False,k4,ab3.same k3.1,he,λd v' G4 H4 q n1 n2 n3 rd' =>?_,Kx.no⟩;refine⟨l.length - (i+1),by omega,rfl,hlt,by simp; omega,by rw[hl3,hsl],G4,rs++[d],g1.trans g3 (k1.trans s2 (k3.trans k5 n1)),n2,z07 g3 (z07 s2 (z07 k5 n3)),((rds.same (z07 k1.1 (z07 k3.1 n1.1))).app (RDs.cons rd' RDs.nil)),bb3.same (z07 k3.1 n1.1),?_⟩;refine z4r z60 _ _ _ (λr q =>?_) q;simpa using q
  cases c with
  | none=>
   have:tc=z6C:=htc;subst this;unfold z6C; dsimp only;rw[if_pos rfl];exact el Gr.refl k2 Same.refl' hb
  | some c=>
   have:tc=tt K mg E0 c:=htc;subst this;refine⟨G2,ρ3,_,λ_=>False,k2,ab3,hb,λd G3 H3 q k3 k4 k5 =>?_,Kx.no⟩;obtain⟨b,rfl,q1,q2⟩:=z8T q;refine⟨b,rfl,?_⟩
   cases b with
   | true=>exact iteT (el k3 k4 k5 (q1 rfl))
   | false=>
    refine iteF ⟨l.length - (i+1),by omega,rfl,hlt,by omega,by rw[hl3,hsl],G3,rs,g1.trans g3 (k1.trans s2 k3),k4,z07 g3 (z07 s2 k5),rds.same (z07 k1.1 k3.1),bb3.same k3.1,?_⟩;refine z4r z60 _ _ _ (λr q =>?_) (q2 rfl);simpa using q
 ·have e:i=l.length:=by omega
  subst e;rw[List.drop_length] at h1;refine .inl ⟨w2 (Nat.le_refl _),λp hp=>hk rs ys p G1 H1 ?_ g1 g2 g3 rds hp⟩;have h1':Q0 (rs++[]):=h1;simpa using h1'
theorem zbV {E:XK}{nt:Nat}{js:List Nat}{tg:Tg}{src:Ex}{c:Option Ex}{elt:Ex}{tc:TT}{Q:VK}(hts:∀i∈tg.slots,i<nt)(htc:TcOk K mg c tc)(h:tf K mg E (.comp nt js tg src c elt) σ H Q):tLcG (ti K mg E src) (tgt K tg) tc (tx K mg E0 elt) nt js σ H Q:=by
 obtain⟨G,ρ,Q0,X0,hs,ab,hr,hk,hx⟩:=h;refine⟨G,ρ,_,X0,hs,ab,hr,λd q=>(zaH q).imp λ_ z=>z.1,λd G1 H1 q g1 g2 g3 l J el hw =>?_,hx⟩;have q':onL (z06 d) λl=>l.length<sizeLine/\z5u (z5v tg c elt (z1s nt js ρ)) l λr=>Q0 (.lst r):=q;rw[el] at q';refine zeg hts (ab.same g1.1) g2 hw q'.1 q'.2 htc λrs ys p G2 H2 hq k1 k2 k3 rds hp =>?_;have hn:∀{A:Hp},Same A H2->A p=none:=λs=>z1d s hp;refine hk (.lst rs) p G2 (upd H2 p (.lst ys)) hq (g1.trans g3 k1) (z07 k2 (z0B hp _)) (z07 g3 (z07 k3 (z0B hp _))) (hn (z07 g3 k3)) (hn k2) ⟨ys,z0t,rds⟩
end
section
variable {X:Cx}{E:XK}{elt iter target:Expr}{ct:Option Expr}{pos spos py:Pos}{scope:Scope}{N':List Str}{nt:Nat}{js:List Nat}{tg:Tg}{src x:Ex}{c:Option Ex}{y:Str}{iy:Nat}
noncomputable def CtOk (X:Cx)(scope:Scope)(N':List Str)(ct:Option Expr)(c:Option Ex):Prop:=match ct,c with
 | none,none=>True
 | some e,some x=>∀(C:Addr) (s:Shared) (H:Hp) (fp:List Addr),QXT (X.compG scope N' C s H fp) E0 e x
 | _,_=>False
noncomputable def CtQ (X:Cx)(scope:Scope)(N':List Str)(ct:Option Expr)(tc:TT):Prop:=match ct with
      | none=>tc=z6C
      | some c=>∀(C:Addr) (s:Shared) (H:Hp) (fp:List Addr),QT (X.compG scope N' C s H fp) c tc
theorem zaZ (h:CtOk X scope N' ct c):∃tc:TT,CtQ X scope N' ct tc/\TcOk X.K X.mg c tc:=by
 cases ct with
 | none=>
  cases c with
  | none=>exact⟨z6C,rfl,rfl⟩
  | some c=>exact h.elim
 | some e=>
  cases c with
  | none=>exact h.elim
  | some c=>exact⟨tt X.K X.mg E0 c,h,rfl⟩
theorem z4T (hc:X.calm=true)(hi:QXI X E target iter src)(hk:scope.kind = .function)(cp:z5z X N' nt js scope)(hts:tg.slots.all (· < nt)=true)
  (hg:∀(C:Addr) (s:Shared) (H:Hp) (fp:List Addr),QG (X.compG scope N' C s H fp) target (tgt X.K tg)) (ht:CtOk X scope N' ct c)
  (he:∀(C:Addr) (s:Shared) (H:Hp) (fp:List Addr),QX (X.compG scope N' C s H fp) E0 elt x) (hs:∀x,foldedSetIterable iter X.env x=pure x:=by intro _; rfl):QF X E (.ListComp elt [⟨target,iter,ct.toList,0⟩] scope pos) (.comp nt js tg src c x):=by
 obtain⟨tc,h1,h2⟩:=zaZ ht;exact QE.imp (zhF hc hi hk cp hg h1 he hs) λσ H Q h=>zbV (λi hi=>of_decide_eq_true (List.all_eq_true.mp hts i hi)) h2 h
theorem zfN (hN:X.N.Nodup)(hiy:X.N[iy]? = some y)(hly:X.env.scope.names.lookup y=some .local)(hc:X.calm=true)(hi:QXI X E target iter src)(hk:scope.kind = .function)(cp:z5z X N' nt js scope)(hts:tg.slots.all (· < nt)=true)
  (hg:∀(C:Addr) (s:Shared) (H:Hp) (fp:List Addr),QG (X.compG scope N' C s H fp) target (tgt X.K tg)) (ht:CtOk X scope N' ct c)
  (he:∀(C:Addr) (s:Shared) (H:Hp) (fp:List Addr),QX (X.compG scope N' C s H fp) E0 elt x) (hsw:swapsWith (.ListComp elt [⟨target,iter,ct.toList,0⟩] scope pos) (some (.Name y py)) spos.line X.env=pure true:=by rfl) (hs:∀x,foldedSetIterable iter X.env x=pure x:=by intro _; rfl):
  QS X (.Assign [.Name y py] (.ListComp elt [⟨target,iter,ct.toList,0⟩] scope pos) spos) (tAsg (tf X.K X.mg E (.comp nt js tg src c x)) (z5Y iy)):=by
 obtain⟨tc,h1,h2⟩:=zaZ ht;exact QS.imp (zhy hN hiy hly hc hi hk cp hg h1 he hsw hs) λD σ H h=>zbV (λi hi=>of_decide_eq_true (List.all_eq_true.mp hts i hi)) h2 h
theorem z6O {i:Nat}{z:Str}{pos:Pos}(hN:X.N.Nodup)(hi:X.N[i]? = some z)(hx:X.env.scope.names.lookup z=some .local):QG X (.Name z pos) (tgt X.K (.nm i)):=zfR hN hi hx
noncomputable def pTup:Fn:=⟨λds Q _=>ds.length<=sizeLine/\Q (.tup ds),λds Q Q' X X' m _ q=>⟨q.1,m _ q.2⟩⟩
noncomputable def pLst:Fn:=⟨λds Q _=>ds.length<=sizeLine/\Q (.lst ds),λds Q Q' X X' m _ q=>⟨q.1,m _ q.2⟩⟩
theorem z1g {es:List Expr}{xs:List Ex}{x1}(h:QXA X E es xs):QX X E (.Tuple es x1 pos) (.op pTup xs):=QE.imp (⟨zhU h.p⟩:QE X (.Tuple es x1 pos) _) λσ H Q ⟨G,ρ,Q0,X0,hs,ab,hr,hk,hx⟩=>by
 refine⟨G,ρ,_,X0,hs,ab,hr,λds vs G1 H1 q g1 g2 g3 rds=>⟨by rw[rds.len]; exact q.1,λp hp =>?_⟩,hx⟩;refine(hk.same g1 g3).new g2 hp q.2 ?_;rw[RD];exact⟨p,vs,rfl,SqT.of z0t,rds.same (z0B (z1d g2 hp) _)⟩
theorem z2p {es:List Expr}{xs:List Ex}(h:QXA X E es xs):QF X E (.List es pos) (.op pLst xs):=QE.imp (zhE h) λσ H Q ⟨G,ρ,Q0,X0,hs,ab,hr,hk,hx⟩=>by
 refine⟨G,ρ,_,X0,hs,ab,hr,λds vs G1 H1 q g1 g2 g3 rds=>⟨by rw[rds.len]; exact q.1,λp hp =>?_⟩,hx⟩;exact hk (.lst ds) p G1 (upd H1 p (.lst vs)) q.2 g1 (z07 g2 (z0B hp _)) (z07 g3 (z0B hp _)) (z1d g3 hp) (z1d g2 hp) ⟨vs,z0t,rds⟩
end
end Pu
namespace Pu
open PySem PySem.Spec PyProof.Rows L2
noncomputable def fn2 (g:D->D->DK->Prop)(m:∀a b (Q Q':DK),(∀d,Q d->Q' d)->g a b Q->g a b Q'):Fn:=⟨λds Q _=>match ds with
 | [a,b]=>g a b Q
 | _=>False,λds Q Q' X X' mm _ q=>by
 match ds,q with
 | [a,b],q=>exact m a b Q Q' mm q
 | [],q=>exact q.elim
 | [_],q=>exact q.elim
 | _::_::_::_,q=>exact q.elim⟩
noncomputable def fn1 (g:D->DK->Prop)(m:∀a (Q Q':DK),(∀d,Q d->Q' d)->g a Q->g a Q'):Fn:=⟨λds Q _=>match ds with
 | [a]=>g a Q
 | _=>False,λds Q Q' X X' mm _ q=>by
 match ds,q with
 | [a],q=>exact m a Q Q' mm q
 | [],q=>exact q.elim
 | _::_::_,q=>exact q.elim⟩
theorem zaE {o:Option D}{Q Q':DK}(m:∀d,Q d->Q' d)(h:onV o Q):onV o Q':=by
 cases o with
 | none=>exact h
 | some d=>exact m _ h
theorem zaD {o:Option D}{Q:DK}(h:onV o Q):∃d,o=some d/\Q d:=by
 cases o with
 | none=>exact h.elim
 | some d=>exact⟨d,rfl,h⟩
noncomputable def gAdd (a b:D)(Q:DK):Prop:=match a,b with
 | .int i,.int j=>Q (.int (i+j))
 | .str x,.str y=>x.length+y.length<=sizeLine/\Q (.str (x++y))
 | .lst l,.lst m=>l.length+m.length<=sizeLine/\Q (.lst (l++m))
 | .tup l,.tup m=>l.length+m.length<=sizeLine/\Q (.tup (l++m))
 | _,_=>False
theorem zd1 (a b:D)(Q Q':DK)(m:∀d,Q d->Q' d)(h:gAdd a b Q):gAdd a b Q':=by
 unfold gAdd at h ⊢
 split at h
 ·exact m _ h
 ·exact⟨h.1,m _ h.2⟩
 ·exact⟨h.1,m _ h.2⟩
 ·exact⟨h.1,m _ h.2⟩
 ·exact h.elim
noncomputable def pAdd:Fn:=fn2 gAdd zd1
noncomputable def gI (g:Int->Int->DK->Prop)(a b:D)(Q:DK):Prop:=match a,b with
 | .int i,.int j=>g i j Q
 | _,_=>False
theorem zd0 {g:Int->Int->DK->Prop}(hg:∀i j (Q Q':DK),(∀d,Q d->Q' d)->g i j Q->g i j Q')(a b:D)(Q Q':DK)(m:∀d,Q d->Q' d)(h:gI g a b Q):gI g a b Q':=by
 unfold gI at h ⊢
 split at h
 ·exact hg _ _ _ _ m h
 ·exact h.elim
noncomputable def fnI (g:Int->Int->DK->Prop)(hg:∀i j (Q Q':DK),(∀d,Q d->Q' d)->g i j Q->g i j Q'):Fn:=fn2 (gI g) (zd0 hg)
noncomputable def pSub:Fn:=fnI (λi j Q=>Q (.int (i - j))) λ_ _ _ _ m h=>m _ h
noncomputable def z97:Fn:=fnI (λi j Q=>zj8 i j/\Q (.int (i.fdiv j))) λ_ _ _ _ m h=>⟨h.1,m _ h.2⟩
noncomputable def pMod:Fn:=fnI (λi j Q=>j≠0/\Q (.int (i.fmod j))) λ_ _ _ _ m h=>⟨h.1,m _ h.2⟩
noncomputable def pPow:Fn:=fnI (λi j Q=>CPow i j/\Q (.int (i ^ j.toNat))) λ_ _ _ _ m h=>⟨h.1,m _ h.2⟩
noncomputable def gNeg (a:D)(Q:DK):Prop:=match a with
 | .int i=>Q (.int (-i))
 | _=>False
noncomputable def pNeg:Fn:=fn1 gNeg λa Q Q' m h=>by
 unfold gNeg at h ⊢
 split at h
 ·exact m _ h
 ·exact h.elim
section
variable {X:Cx}{K:W.Frag}{mg:Str->Option Value}
noncomputable def r2 (K:W.Frag)(mg:Str->Option Value)(F:Fn):R2:=λv1 v2 H Q=>∃G d1 d2 Q0 X0,Same G H/\RD K mg G d1 v1/\RD K mg G d2 v2/\F.run [d1,d2] Q0 X0/\Kt K mg G H Q0 Q
noncomputable def r1 (K:W.Frag)(mg:Str->Option Value)(F:Fn):V->Hp->VK->Prop:=λv H Q=>∃G d Q0 X0,Same G H/\RD K mg G d v/\F.run [d] Q0 X0/\Kt K mg G H Q0 Q
noncomputable def rN (K:W.Frag)(mg:Str->Option Value)(F:Fn):List V->Hp->VK->Prop:=λvs H Q=>∃G ds Q0 X0,Same G H/\RDs K mg G ds vs/\F.run ds Q0 X0/\Kt K mg G H Q0 Q
theorem lk2 {F:Fn}:Lk2 K mg F (r2 K mg F):=λG H d1 d2 v1 v2 Q0 X0 Q a b c d e=>⟨G,d1,d2,Q0,X0,a,b,c,d,e⟩
theorem lk1 {F:Fn}:Lk1 K mg F (r1 K mg F):=λG H d v Q0 X0 Q a b c d=>⟨G,_,Q0,X0,a,b,c,d⟩
theorem lkN {F:Fn}:LkN K mg F (rN K mg F):=λG H d v Q0 X0 Q a b c d=>⟨G,_,Q0,X0,a,b,c,d⟩
theorem zez {prog:Program}{w:World}{A:Around}{E:Value->Shared->Prop}{s:Shared}{t b:Addr}{ws:List Value}{Q:Value->Shared->Prop}(ht:IsTup s.heap t ([]:List Value).toArray)(hb:IsTup s.heap b ws.toArray)(h:Q (.ref b) s):wpAny (model prog w) A (binaryOp .Add (.ref t) (.ref b)) Q E s:=by
 obtain⟨⟨cls,dd,data,sl⟩,ho,hc,n,hd⟩:=id ht;obtain⟨⟨cls2,dd2,data2,sl2⟩,ho2,hc2,n2,hd2⟩:=id hb;simp only at hc hd hc2 hd2;subst hc hd hc2 hd2;exact concat_meets ⟨_,ho,rfl⟩ ⟨_,ho2,rfl⟩ noFill_tuple_add seq_tuple_add PySem.F.slot_tuple_add PySem.F.entry_tuple_add (PySem.F.args_tuple_add_2 _ _)
   (tuple_addW0 t b _ ws.toArray n n2 dd dd2 sl sl2 (by simp)) ⟨ho,ho2,h⟩
theorem ze3:OpR X (binaryOp .Add) (λx y H Q=>∃a b ys,x = .ref a/\y = .ref b/\SqT X.K H a []/\SqT X.K H b ys/\Q (.ref b) H):=by
 intro pins s σ H x y v u Q I rx ry h;obtain⟨a,b,ys,rfl,rfl,ha,hb,q⟩:=h
 cases rx
 cases ry
 obtain⟨its,r1,p1,_⟩:=I.tuple ha;obtain⟨its2,r2,p2,_⟩:=I.tuple hb
 cases r1
 exact zez p1 p2 ⟨.ref b,H,I,rfl,q⟩
noncomputable def zjm (K:W.Frag):R2:=λx y H Q=>∃l b xs zs,x = .ref l/\y = .ref b/\SqL K H l xs/\SqL K H b zs/\xs.length+zs.length<=sizeLine/\∀p,H p=none->Q (.ref p) (upd H p (.lst (xs++zs)))
theorem zcv:OpR X (binaryOp .Add) (zjm X.K):=by
 intro pins s σ H x y v u Q I rx ry h;obtain⟨l,b,xs,zs,rfl,rfl,hH,hB,hz,q⟩:=h
 cases rx
 cases ry
 obtain⟨its,r,⟨⟨cls,dd,data,sl⟩,n,e,hc,_,hd⟩,z1⟩:=I.list hH;obtain⟨its2,r2,⟨⟨cls2,dd2,data2,sl2⟩,n2,e2,hc2,_,hd2⟩,z2⟩:=I.list hB;dsimp only at hc hd hc2 hd2;subst hc hd hc2 hd2;have l1:=r.length;have l2:=r2.length;have ea:its.toArray++its2.toArray=(its++its2).toArray:=by simp
 refine concat_meets ⟨_,e,rfl⟩ ⟨_,e2,rfl⟩ noFill_list_add seq_list_add PySem.F.slot_list_add PySem.F.entry_list_add (PySem.F.args_list_add_2 _ _) (list_addW l b its.toArray its2.toArray n n2 dd dd2 sl sl2 (by simp only[List.size_toArray]; omega)) ⟨e,e2,?_⟩;rw[ea];exact⟨.ref _,_,I.lnew (t':=s.toks) (r.append r2) (by rw[List.length_append]; omega),rfl,q _ I.fresh⟩
theorem z2n {G:Hp}{l:List D}{v:V}(h:RD K mg G (.tup l) v):∃a xs,v = .ref a/\SqT K G a xs/\RDs K mg G l xs:=by rw[RD] at h; exact h
theorem z2o {G:Hp}{l:List D}{v:V}(h:RD K mg G (.lst l) v):∃a xs,v = .ref a/\SqL K G a xs/\RDs K mg G l xs:=by rw[RD] at h; exact h
theorem z3K {G:Hp}{x:Str}{v:V}(h:RD K mg G (.str x) v):v = .str x:=by rw[RD] at h; exact h
theorem z92 {G:Hp}{x:Bool}{v:V}(h:RD K mg G (.bl x) v):v = .bl x:=by rw[RD] at h; exact h
theorem z91 {G:Hp}{v:V}(h:RD K mg G .non v):v = .non:=by rw[RD] at h; exact h
theorem RD.newT {G H:Hp}{p:Addr}{l:List D}{xs:List V}(r:RDs K mg G l xs)(g:Same G H)(hp:H p=none):RD K mg (upd G p (.tup xs)) (.tup l) (.ref p):=by
 rw[RD];exact⟨p,xs,rfl,SqT.of z0t,r.same (z0B (z1d g hp) _)⟩
theorem RD.newL {G H:Hp}{p:Addr}{l:List D}{xs:List V}(r:RDs K mg G l xs)(g:Same G H)(hp:H p=none):RD K mg (upd G p (.lst xs)) (.lst l) (.ref p):=by
 rw[RD];exact⟨p,xs,rfl,SqL.of z0t,r.same (z0B (z1d g hp) _)⟩
theorem RD.ofT {G:Hp}{a:Addr}{l:List D}{xs:List V}(h:SqT K G a xs)(r:RDs K mg G l xs):RD K mg G (.tup l) (.ref a):=by rw[RD]; exact⟨a,xs,rfl,h,r⟩
theorem RD.ofL {G:Hp}{a:Addr}{l:List D}{xs:List V}(h:SqL K G a xs)(r:RDs K mg G l xs):RD K mg G (.lst l) (.ref a):=by rw[RD]; exact⟨a,xs,rfl,h,r⟩
theorem RD.int' {G:Hp}{i:Int}:RD K mg G (.int i) (.int i):=by rw[RD]
theorem RD.bl' {G:Hp}{i:Bool}:RD K mg G (.bl i) (.bl i):=by rw[RD]
theorem RD.str' {G:Hp}{i:Str}:RD K mg G (.str i) (.str i):=by rw[RD]
theorem RDs.ne_nil {G:Hp}{l:List D}{xs:List V}(r:RDs K mg G l xs):xs=[]↔l=[]:=by
 have:=r.len
 constructor
 ·rintro rfl; exact List.length_eq_zero_iff.mp this.symm
 ·rintro rfl; exact List.length_eq_zero_iff.mp this
theorem z0M:OpR X (binaryOp .Add) (r2 X.K X.mg pAdd):=by
 intro pins s σ H x y v u Q I rx ry ⟨G,d1,d2,Q0,X0,g,h1,h2,hr,hk⟩;have hr':gAdd d1 d2 Q0:=hr;unfold gAdd at hr'
 split at hr'
 ·exact zif pins s σ H x y v u Q I rx ry ⟨_,_,z0S h1,z0S h2,hk.now g hr' RD.int'⟩
 ·exact zbj pins s σ H x y v u Q I rx ry ⟨_,_,z3K h1,z3K h2,hr'.1,hk.now g hr'.2 RD.str'⟩
 ·obtain⟨a,xs,rfl,s1,r1⟩:=z2o h1;obtain⟨b,zs,rfl,s2,r2⟩:=z2o h2;exact zcv pins s σ H _ _ v u Q I rx ry ⟨a,b,xs,zs,rfl,rfl,z1K g s1,z1K g s2,by rw[r1.len,r2.len]; exact hr'.1,λp hp=>hk.new g hp hr'.2 (RD.newL (r1.app r2) g hp)⟩
 ·obtain⟨a,xs,rfl,s1,r1⟩:=z2n h1;obtain⟨b,zs,rfl,s2,r2⟩:=z2n h2
  by_cases hx:xs=[]
  ·subst hx;have e:=r1.ne_nil.mp rfl;subst e;exact ze3 pins s σ H _ _ v u Q I rx ry ⟨a,b,zs,rfl,rfl,z1c g s1,z1c g s2,hk.now g hr'.2 (RD.ofT s2 r2)⟩
  ·refine zgh pins s σ H _ _ v u Q I rx ry ⟨a,b,xs,zs,rfl,rfl,z1c g s1,z1c g s2,hx,by rw[r1.len,r2.len]; exact hr'.1,λe =>?_,λe p hp=>hk.new g hp hr'.2 (RD.newT (r1.app r2) g hp)⟩;have e:=r2.ne_nil.mp e;subst e;refine hk.now g hr'.2 ?_;rw[List.append_nil];exact RD.ofT s1 r1
 ·exact hr'.elim
theorem zab {g:Int->Int->DK->Prop}{a b:D}{Q:DK}(h:gI g a b Q):∃i j,a = .int i/\b = .int j/\g i j Q:=by
 unfold gI at h
 split at h
 ·exact⟨_,_,rfl,rfl,h⟩
 ·exact h.elim
theorem ze7 {f:Value->Value->Sem Value}{C:Int->Int->Prop}{gv:Int->Int->Int}{hg}(h:OpR X f (rI C λi j =>.int (gv i j))):OpR X f (r2 X.K X.mg (fnI (λi j Q=>C i j/\Q (.int (gv i j))) hg)):=h.imp λx y H Q ⟨G,d1,d2,Q0,X0,g,h1,h2,hr,hk⟩=>by
 obtain⟨i,j,rfl,rfl,c,q⟩:=zab (show gI (λi j Q=>C i j/\Q (.int (gv i j))) d1 d2 Q0 from hr);exact⟨i,j,z0S h1,z0S h2,c,hk.now g q RD.int'⟩
theorem z3j:OpR X (binaryOp .Sub) (r2 X.K X.mg pSub):=zi7.imp λx y H Q ⟨G,d1,d2,Q0,X0,g,h1,h2,hr,hk⟩=>by
 obtain⟨i,j,rfl,rfl,q⟩:=zab (show gI (λi j Q=>Q (.int (i - j))) d1 d2 Q0 from hr);exact⟨i,j,z0S h1,z0S h2,hk.now g q RD.int'⟩
theorem z8s:OpR X (binaryOp .FloorDiv) (r2 X.K X.mg z97):=ze7 ze2
theorem z1N:OpR X (binaryOp .Mod) (r2 X.K X.mg pMod):=ze7 zgg
theorem z5d:OpR X (binaryOp .Pow) (r2 X.K X.mg pPow):=ze7 zi8
theorem z5c:UnR X (unaryOp .USub) (r1 X.K X.mg pNeg):=by
 intro pins s σ H x v Q I rx ⟨G,d,Q0,X0,g,h1,hr,hk⟩;have hr':gNeg d Q0:=hr;unfold gNeg at hr'
 split at hr'
 ·exact zgQ pins s σ H x v Q I rx ⟨_,z0S h1,hk.now g hr' RD.int'⟩
 ·exact hr'.elim
noncomputable def z1u:Fn:=fnI (λi j Q=>zgN i j/\Q (.int (i*j))) λ_ _ _ _ m h=>⟨h.1,m _ h.2⟩
theorem z29:OpR X (binaryOp .Mult) (r2 X.K X.mg z1u):=ze7 zgf
end
end Pu
namespace HT
open PySem PyProof.Rows
section
open PySem.SeqAt
open PySem.AutoSeq1 (wpAny_loadPart')
open PySem.MeetsSeq PySem.MeetsSeq2 PySem.MeetsSeq3
theorem zdI (A:Around)(s:Shared)(a:Int)(t:Tok)(c:Int)(u:Tok)(prog:Program)(w:World)(E:Value->Shared->Prop)(Q:Value->Shared->Prop)(h:Q (.bool (decide (c<a))) s):
  wpAny (model prog w) A (richCompare .Gt (.int a t) (.int c u)) Q E s:=
 (PyProof.Rows.gt_int h:wpAny (model prog w) A (compareOp .Gt (.int a t) (.int c u)) Q E s)
theorem z88 (l b:Addr)(z06 items2:Array Value)(n n2:Nat)(dd dd2:Option Addr)(sl sl2:Array (Option Value))(ns ms:List Int)(hi:IntsAre z06.toList ns)(hj:IntsAre items2.toList ms):
  Meets (Builtin.«tuple.__gt__» ⟨[.ref l,.ref b],[]⟩)
   (λ_ R s=>s.heap.get? l=some { cls :=.type "tuple",dict:=dd,data :=.seq z06 n,slots:=sl }/\s.heap.get? b=some { cls :=.type "tuple",dict:=dd2,data :=.seq items2 n2,slots:=sl2 }/\
    R (.ok (.ret (.bool (z0r ms ns)))) s):=
 .of_wp λprog w A R s h=>by
  obtain⟨hp,g,d,tk,os⟩:=s; obtain⟨hl,hb,h⟩:=h;have f2:=AutoSeq1.sub_tuple_tuple;have z1:z06.size=ns.length:=by rw[<- hi.length]; simp
  have z2:items2.size=ms.length:=by rw[<- hj.length]; simp
  wp_walk using wpAny_loadPart' hl,wpAny_loadPart' hb,wpAny_forIn_list _ (λrest b s'=>b.1=none/\s'=⟨hp,g,d,tk,os⟩/\∃(vs ws:List Value) (ns' ms':List Int),rest=vs.zip ws/\
   IntsAre vs ns'/\IntsAre ws ms'/\ns'.length+items2.size=ms'.length+z06.size/\R (.ok (.ret (.bool (z0r ms' ns')))) ⟨hp,g,d,tk,os⟩) _
  case turn=>
   rintro⟨y,x⟩ rest b s' ⟨hb',rfl,vs,ws,ns',ms',hz,hvi,hwi,hlen,hR⟩
   cases hvi with
   | nil=>rw[List.zip_nil_left] at hz; cases hz
   | cons a t hvi'=>
    cases hwi with
    | nil=>rw[List.zip_nil_right] at hz; cases hz
    | cons c u hwi'=>
     rw[List.zip_cons_cons] at hz
     injection hz with hyx hrest
     injection hyx with hy hx
     subst hy hx;rw[z1o] at hR;simp only[List.length_cons] at hlen;obtain⟨e,he,hiff⟩:=z8A A.in1 ⟨hp,g,d,tk,os⟩ a t c u;refine wpAny_bind (he prog w _ _ ?_)
     cases e with
     | true=>
      rw[if_pos (hiff.mp rfl).symm] at hR
      wp_walk
      exact⟨rfl,rfl,_,_,_,_,hrest,hvi',hwi',by omega,hR⟩
     | false=>
      rw[if_neg (λq=>absurd (hiff.mpr (Eq.symm q)) Bool.false_ne_true)] at hR;have hri:=zdI A.in1 ⟨hp,g,d,tk,os⟩ a t c u prog w
      wp_walk using hri
      exact⟨_,rfl,by simpa using hR⟩
  case fin=>
   rintro⟨b1,b2⟩ s' ⟨hb',rfl,vs,ws,ns',ms',hz,hvi,hwi,hlen,hR⟩;simp only at hb';subst hb';have hv:z0r ms' ns'=decide (items2.size<z06.size):=by
    cases hvi with
    | nil=>
     cases hwi with
     | nil=>
      simp only[List.length_nil] at hlen;rw[z2t];exact(decide_eq_false (by omega)).symm
     | cons c u hw=>
      simp only[List.length_nil,List.length_cons] at hlen;rw[z37];exact(decide_eq_false (by omega)).symm
    | cons a t hv=>
     cases hwi with
     | nil=>
      simp only[List.length_nil,List.length_cons] at hlen;rw[z36];exact(decide_eq_true (by omega)).symm
     | cons c u hw=>
      rw[List.zip_cons_cons] at hz
      cases hz
   rw[hv] at hR
   wp_walk
   exact⟨_,rfl,by simpa[Builtin.Tuple.tupleCompareSizes] using hR⟩
  case h=>
   exact⟨rfl,rfl,z06.toList,items2.toList,ns,ms,rfl,hi,hj,by omega,h⟩
theorem zdH (A:Around)(s:Shared)(a:Int)(t:Tok)(c:Int)(u:Tok)(prog:Program)(w:World)(E:Value->Shared->Prop)(Q:Value->Shared->Prop)(h:Q (.bool (decide (a<=c))) s):
  wpAny (model prog w) A (richCompare .LtE (.int a t) (.int c u)) Q E s:=
 (PyProof.Rows.le_int h:wpAny (model prog w) A (compareOp .LtE (.int a t) (.int c u)) Q E s)
theorem z87 (l b:Addr)(z06 items2:Array Value)(n n2:Nat)(dd dd2:Option Addr)(sl sl2:Array (Option Value))(ns ms:List Int)(hi:IntsAre z06.toList ns)(hj:IntsAre items2.toList ms):
  Meets (Builtin.«tuple.__le__» ⟨[.ref l,.ref b],[]⟩)
   (λ_ R s=>s.heap.get? l=some { cls :=.type "tuple",dict:=dd,data :=.seq z06 n,slots:=sl }/\s.heap.get? b=some { cls :=.type "tuple",dict:=dd2,data :=.seq items2 n2,slots:=sl2 }/\
    R (.ok (.ret (.bool (!z0r ms ns)))) s):=
 .of_wp λprog w A R s h=>by
  obtain⟨hp,g,d,tk,os⟩:=s; obtain⟨hl,hb,h⟩:=h;have f2:=AutoSeq1.sub_tuple_tuple;have z1:z06.size=ns.length:=by rw[<- hi.length]; simp
  have z2:items2.size=ms.length:=by rw[<- hj.length]; simp
  wp_walk using wpAny_loadPart' hl,wpAny_loadPart' hb,wpAny_forIn_list _ (λrest b s'=>b.1=none/\s'=⟨hp,g,d,tk,os⟩/\∃(vs ws:List Value) (ns' ms':List Int),rest=vs.zip ws/\
   IntsAre vs ns'/\IntsAre ws ms'/\ns'.length+items2.size=ms'.length+z06.size/\R (.ok (.ret (.bool (!z0r ms' ns')))) ⟨hp,g,d,tk,os⟩) _
  case turn=>
   rintro⟨y,x⟩ rest b s' ⟨hb',rfl,vs,ws,ns',ms',hz,hvi,hwi,hlen,hR⟩
   cases hvi with
   | nil=>rw[List.zip_nil_left] at hz; cases hz
   | cons a t hvi'=>
    cases hwi with
    | nil=>rw[List.zip_nil_right] at hz; cases hz
    | cons c u hwi'=>
     rw[List.zip_cons_cons] at hz
     injection hz with hyx hrest
     injection hyx with hy hx
     subst hy hx;rw[z1o] at hR;simp only[List.length_cons] at hlen;obtain⟨e,he,hiff⟩:=z8A A.in1 ⟨hp,g,d,tk,os⟩ a t c u;refine wpAny_bind (he prog w _ _ ?_)
     cases e with
     | true=>
      rw[if_pos (hiff.mp rfl).symm] at hR
      wp_walk
      exact⟨rfl,rfl,_,_,_,_,hrest,hvi',hwi',by omega,hR⟩
     | false=>
      have hne:¬ c=a:=λq=>absurd (hiff.mpr (Eq.symm q)) Bool.false_ne_true;rw[if_neg hne] at hR;have hri:=zdH A.in1 ⟨hp,g,d,tk,os⟩ a t c u prog w;have ed:(!decide (c<a))=decide (a<=c):=by
       rw[<- decide_not,decide_eq_decide]; omega
      rw[ed] at hR
      wp_walk using hri
      exact⟨_,rfl,by simpa using hR⟩
  case fin=>
   rintro⟨b1,b2⟩ s' ⟨hb',rfl,vs,ws,ns',ms',hz,hvi,hwi,hlen,hR⟩;simp only at hb';subst hb';have hv:(!z0r ms' ns')=decide (z06.size<=items2.size):=by
    cases hvi with
    | nil=>
     cases hwi with
     | nil=>
      simp only[List.length_nil] at hlen;rw[z2t];exact(decide_eq_true (by omega)).symm
     | cons c u hw=>
      simp only[List.length_nil,List.length_cons] at hlen;rw[z37];exact(decide_eq_true (by omega)).symm
    | cons a t hv=>
     cases hwi with
     | nil=>
      simp only[List.length_nil,List.length_cons] at hlen;rw[z36];exact(decide_eq_false (by omega)).symm
     | cons c u hw=>
      rw[List.zip_cons_cons] at hz
      cases hz
   rw[hv] at hR
   wp_walk
   exact⟨_,rfl,by simpa[Builtin.Tuple.tupleCompareSizes] using hR⟩
  case h=>
   exact⟨rfl,rfl,z06.toList,items2.toList,ns,ms,rfl,hi,hj,by omega,h⟩
end
section
variable {prog:Program}{w:World}{A:Around}{E:Value->Shared->Prop}{s:Shared}
theorem zbv {l b:Addr}{z06 items2:Array Value}{ns ms:List Int}{Q:Value->Shared->Prop}(hl:IsTup s.heap l z06)(hb:IsTup s.heap b items2)(hi:IntsAre z06.toList ns)(hj:IntsAre items2.toList ms)
  (hu:A.units<cLine) (h:Q (.bool (z0r ms ns)) s):wpAny (model prog w) A (compareOp .Gt (.ref l) (.ref b)) Q E s:=by
 obtain⟨⟨cls,dd,data,sl⟩,ho,hc,n,hd⟩:=id hl;obtain⟨⟨cls2,dd2,data2,sl2⟩,ho2,hc2,n2,hd2⟩:=id hb;simp only at hc hd hc2 hd2;subst hc hd hc2 hd2;exact richCompare_meets_room (op :=.Gt) ⟨_,ho,rfl⟩ ⟨_,ho2,rfl⟩ PySem.F.slot_tuple_gt PySem.F.entry_tuple_gt (PySem.F.args_tuple_gt_2 _ _) (z88 l b z06 items2 n n2 dd dd2 sl sl2 ns ms hi hj)
  ⟨ho,ho2,show Value.bool (z0r ms ns)≠Value.notImplemented/\Q (.bool (z0r ms ns)) s from ⟨(λx=>nomatch x),h⟩⟩ hu
theorem zbr {l b:Addr}{z06 items2:Array Value}{ns ms:List Int}{Q:Value->Shared->Prop}(hl:IsTup s.heap l z06)(hb:IsTup s.heap b items2)(hi:IntsAre z06.toList ns)(hj:IntsAre items2.toList ms)
  (hu:A.units<cLine) (h:Q (.bool (!z0r ms ns)) s):wpAny (model prog w) A (compareOp .LtE (.ref l) (.ref b)) Q E s:=by
 obtain⟨⟨cls,dd,data,sl⟩,ho,hc,n,hd⟩:=id hl;obtain⟨⟨cls2,dd2,data2,sl2⟩,ho2,hc2,n2,hd2⟩:=id hb;simp only at hc hd hc2 hd2;subst hc hd hc2 hd2;exact richCompare_meets_room (op :=.LtE) ⟨_,ho,rfl⟩ ⟨_,ho2,rfl⟩ PySem.F.slot_tuple_le PySem.F.entry_tuple_le (PySem.F.args_tuple_le_2 _ _) (z87 l b z06 items2 n n2 dd dd2 sl sl2 ns ms hi hj)
  ⟨ho,ho2,show Value.bool (!z0r ms ns)≠Value.notImplemented/\Q (.bool (!z0r ms ns)) s from ⟨(λx=>nomatch x),h⟩⟩ hu
end
end HT
namespace Pu
open PySem PySem.Spec PyProof.Rows L2
noncomputable def ints? : List D->Option (List Int)
 | []=>some []
 | .int i::r=>match ints? r with
  | some l=>some (i::l)
  | none=>none
 | _::_=>none
theorem z6Y:∀{l:List D}{ns:List Int},ints? l=some ns->l=ns.map D.int
 | [],ns,h=>by
  have:ns=[]:=by simpa[ints?] using h.symm
  subst this; rfl
 | .int i::r,ns,h=>by
  unfold ints? at h
  cases q:ints? r with
  | none=>rw[q] at h; cases h
  | some l=>
   rw[q] at h
   cases h
   rw[z6Y q]; rfl
 | .non::_,_,h=>by simp[ints?] at h
 | .bl _::_,_,h=>by simp[ints?] at h
 | .str _::_,_,h=>by simp[ints?] at h
 | .tup _::_,_,h=>by simp[ints?] at h
 | .lst _::_,_,h=>by simp[ints?] at h
 | .dct _ _::_,_,h=>by simp[ints?] at h
 | .fn _::_,_,h=>by simp[ints?] at h
 | .exc _::_,_,h=>by simp[ints?] at h
noncomputable def onI (o:Option (List Int))(Q:List Int->Prop):Prop:=match o with
 | some l=>Q l
 | none=>False
theorem zaK {o:Option (List Int)}{Q Q':List Int->Prop}(m:∀d,Q d->Q' d)(h:onI o Q):onI o Q':=by
 cases o with
 | none=>exact h
 | some d=>exact m _ h
theorem zaJ {o:Option (List Int)}{Q:List Int->Prop}(h:onI o Q):∃d,o=some d/\Q d:=by
 cases o with
 | none=>exact h.elim
 | some d=>exact⟨d,rfl,h⟩
noncomputable def gCmp (f:Int->Int->Bool)(t:List Int->List Int->Bool)(a b:D)(Q:DK):Prop:=match a,b with
 | .int i,.int j=>Q (.bl (f i j))
 | .tup l,.tup m=>onI (ints? l) λns=>onI (ints? m) λms=>Q (.bl (t ns ms))
 | _,_=>False
theorem z7d {f:Int->Int->Bool}{t:List Int->List Int->Bool}(a b:D)(Q Q':DK)(m:∀d,Q d->Q' d)(h:gCmp f t a b Q):gCmp f t a b Q':=by
 unfold gCmp at h ⊢
 split at h
 ·exact m _ h
 ·exact zaK (λ_ h=>zaK (λ_ h=>m _ h) h) h
 ·exact h.elim
noncomputable def pLt:Fn:=fn2 (gCmp (λi j=>decide (i<j)) λns ms=>HT.z0r ns ms) z7d
noncomputable def pGt:Fn:=fn2 (gCmp (λi j=>decide (j<i)) λns ms=>HT.z0r ms ns) z7d
noncomputable def pLe:Fn:=fn2 (gCmp (λi j=>decide (i<=j)) λns ms => !HT.z0r ms ns) z7d
section
variable {X:Cx}{K:W.Frag}{mg:Str->Option Value}
theorem z6r {G:Hp}:∀(ns:List Int) {xs:List V},RDs K mg G (ns.map D.int) xs->xs=ns.map V.int
 | [],xs,h=>by rw[List.map_nil,RDs] at h; subst h; rfl
 | n::ns,xs,h=>by
  rw[List.map_cons,RDs] at h;obtain⟨x,r,rfl,h1,h2⟩:=h;rw[z0S h1,z6r ns h2]; rfl
theorem z8w {G:Hp}:∀(ns:List Int),RDs K mg G (ns.map D.int) (ns.map V.int)
 | []=>RDs.nil
 | n::ns=>RDs.cons RD.int' (z8w ns)
theorem zgj {op:CmpOp}{f:Int->Int->Bool}{t:List Int->List Int->Bool}{hm}(hi:OpR X (compareOp op) (rI0 λi j =>.bl (f i j)))(ht:OpR X (compareOp op) (λx y H Q=>∃a b ns ms,x = .ref a/\y = .ref b/\SqT X.K H a (ns.map V.int)/\SqT X.K H b (ms.map V.int)/\Q (.bl (t ns ms)) H)):
  OpR X (compareOp op) (r2 X.K X.mg (fn2 (gCmp f t) hm)):=by
 intro pins s σ H x y v u Q I rx ry ⟨G,d1,d2,Q0,X0,g,h1,h2,hr,hk⟩;have hr':gCmp f t d1 d2 Q0:=hr;unfold gCmp at hr'
 split at hr'
 ·exact hi pins s σ H x y v u Q I rx ry ⟨_,_,z0S h1,z0S h2,hk.now g hr' RD.bl'⟩
 ·obtain⟨ns,e1,hr'⟩:=zaJ hr';obtain⟨ms,e2,hr'⟩:=zaJ hr';obtain⟨a,xs,rfl,s1,r1⟩:=z2n h1;obtain⟨b,ys,rfl,s2,r2⟩:=z2n h2;rw[z6Y e1] at r1;rw[z6Y e2] at r2;rw[z6r ns r1] at s1;rw[z6r ms r2] at s2;exact ht pins s σ H _ _ v u Q I rx ry ⟨a,b,ns,ms,rfl,rfl,z1c g s1,z1c g s2,hk.now g hr' RD.bl'⟩
 ·exact hr'.elim
theorem z9Y (hu:X.A.units+64<cLine):OpR X (compareOp .Lt) (r2 X.K X.mg pLt):=zgj zjD (zia (by omega))
theorem zid (hu:X.A.units<cLine):OpR X (compareOp .Gt) (λx y H Q=>∃a b ns ms,x = .ref a/\y = .ref b/\SqT X.K H a (ns.map V.int)/\SqT X.K H b (ms.map V.int)/\Q (.bl (HT.z0r ms ns)) H):=by
 intro pins s σ H x y v u Q I rx ry h;obtain⟨a,b,ns,ms,rfl,rfl,ha,hb,q⟩:=h
 cases rx
 cases ry
 obtain⟨its,r1,p1,_⟩:=I.tuple ha;obtain⟨its2,r2,p2,_⟩:=I.tuple hb;exact HT.zbv p1 p2 (z2z r1) (z2z r2) hu ⟨.bl (HT.z0r ms ns),H,I,rfl,q⟩
theorem zib (hu:X.A.units<cLine):OpR X (compareOp .LtE) (λx y H Q=>∃a b ns ms,x = .ref a/\y = .ref b/\SqT X.K H a (ns.map V.int)/\SqT X.K H b (ms.map V.int)/\Q (.bl (!HT.z0r ms ns)) H):=by
 intro pins s σ H x y v u Q I rx ry h;obtain⟨a,b,ns,ms,rfl,rfl,ha,hb,q⟩:=h
 cases rx
 cases ry
 obtain⟨its,r1,p1,_⟩:=I.tuple ha;obtain⟨its2,r2,p2,_⟩:=I.tuple hb;exact HT.zbr p1 p2 (z2z r1) (z2z r2) hu ⟨.bl (!HT.z0r ms ns),H,I,rfl,q⟩
theorem zcy (hu:X.A.units+64<cLine):OpR X (compareOp .Gt) (r2 X.K X.mg pGt):=zgj zjF (zid (by omega))
theorem zij (hu:X.A.units+64<cLine):OpR X (compareOp .LtE) (r2 X.K X.mg pLe):=zgj zjE (zib (by omega))
noncomputable def pGeI:Fn:=fnI (λi j Q=>Q (.bl (decide (j<=i)))) λ_ _ _ _ m h=>m _ h
end
end Pu
namespace Pu
open PySem PySem.Spec PyProof.Rows L2
mutual
noncomputable def py:D->PyData
 | .non =>.none
 | .bl b =>.bool b
 | .int i =>.int i
 | .str x =>.str x
 | .tup l =>.tuple (pys l)
 | .lst l =>.list (pys l)
 | _ =>.none
noncomputable def pys:List D->List PyData
 | []=>[]
 | d::ds=>py d::pys ds
end
noncomputable def Da:Nat->D->Prop
 | _,.non=>True
 | _,.bl _=>True
 | _,.int _=>True
 | _,.str x=>PyData.strOk x=true
 | 0,.tup _=>False
 | n+1,.tup l=>∀d∈l,Da n d
 | 0,.lst _=>False
 | n+1,.lst l=>∀d∈l,Da n d
 | _,.dct _ _=>False
 | _,.fn _=>False
 | _,.exc _=>False
section
variable {X:Cx}{K:W.Frag}{mg:Str->Option Value}
theorem Da.tup {n:Nat}{l:List D}:Da (n+1) (.tup l)↔∀d∈l,Da n d:=by rw[Da]
theorem Da.lst {n:Nat}{l:List D}:Da (n+1) (.lst l)↔∀d∈l,Da n d:=by rw[Da]
theorem Da.str {n:Nat}{x:Str}:Da n (.str x)↔PyData.strOk x=true:=by cases n <;> rw[Da]
theorem Da.canLay:∀(n:Nat) (d:D),Da n d->(py d).canLay0=true/\(py d).depth<=n:=by
 intro n
 induction n with
 | zero=>
  intro d h
  cases d with
  | non=>exact⟨rfl,Nat.le_refl _⟩
  | bl _=>exact⟨rfl,Nat.le_refl _⟩
  | int _=>exact⟨rfl,Nat.le_refl _⟩
  | str x=>exact⟨by rw[py,PyData.canLay0]; exact Da.str.mp h,by rw[py,PyData.depth]; exact Nat.le_refl _⟩
  | _=>rw[Da] at h; exact h.elim
 | succ n ih=>
  have all:∀l:List D,(∀d∈l,Da n d)->PyData.canLayAll0 (pys l)=true/\PyData.depthAll (pys l)<=n:=by
   intro l
   induction l with
   | nil=>intro _; exact⟨rfl,Nat.zero_le _⟩
   | cons d l ihl=>
    intro h;obtain⟨a1,a2⟩:=ih d (h d List.mem_cons_self);obtain⟨b1,b2⟩:=ihl λx hx=>h x (List.mem_cons_of_mem _ hx);rw[pys,PyData.canLayAll0,PyData.depthAll,a1,b1];exact⟨rfl,Nat.max_le.mpr ⟨a2,b2⟩⟩
  intro d h
  cases d with
  | non=>exact⟨rfl,Nat.zero_le _⟩
  | bl _=>exact⟨rfl,Nat.zero_le _⟩
  | int _=>exact⟨rfl,Nat.zero_le _⟩
  | str x=>exact⟨by rw[py,PyData.canLay0]; exact Da.str.mp h,by rw[py,PyData.depth]; exact Nat.zero_le _⟩
  | tup l=>
   obtain⟨a,b⟩:=all l (Da.tup.mp h);exact⟨by rw[py,PyData.canLay0]; exact a,by rw[py,PyData.depth]; omega⟩
  | lst l=>
   obtain⟨a,b⟩:=all l (Da.lst.mp h);exact⟨by rw[py,PyData.canLay0]; exact a,by rw[py,PyData.depth]; omega⟩
  | _=>rw[Da] at h; exact h.elim
theorem Da.shaped {n:Nat}{d:D}(h:Da n d)(hn:n<=64):PySem.SeqAt.shaped (py d)=true:=by
 obtain⟨a,b⟩:=Da.canLay n d h;unfold PySem.SeqAt.shaped;rw[a,decide_eq_true (Nat.le_trans b hn)]
 rfl
theorem Da.rp {G:Hp}:∀(n:Nat) (d:D) {v:V},Da n d->RD K mg G d v->Rp K G (py d) v:=by
 intro n
 induction n with
 | zero=>
  intro d v h r
  cases d with
  | non=>rw[py,Rp]; exact z91 r
  | bl _=>rw[py,Rp]; exact z92 r
  | int _=>rw[py,Rp]; exact z0S r
  | str x=>rw[py,Rp]; exact z3K r
  | _=>rw[Da] at h; exact h.elim
 | succ n ih=>
  have all:∀(l:List D) {xs:List V},(∀d∈l,Da n d)->RDs K mg G l xs->RpL K G (pys l) xs:=by
   intro l
   induction l with
   | nil=>intro xs _ r; rw[RDs] at r; subst r; rw[pys,RpL]
   | cons d l ihl=>
    intro xs h r;rw[RDs] at r;obtain⟨x,r',rfl,r1,r2⟩:=r;rw[pys,RpL];exact⟨x,r',rfl,ih d (h d List.mem_cons_self) r1,ihl (λx hx=>h x (List.mem_cons_of_mem _ hx)) r2⟩
  intro d v h r
  cases d with
  | non=>rw[py,Rp]; exact z91 r
  | bl _=>rw[py,Rp]; exact z92 r
  | int _=>rw[py,Rp]; exact z0S r
  | str x=>rw[py,Rp]; exact z3K r
  | tup l=>
   obtain⟨a,xs,rfl,h1,h2⟩:=z2n r;rw[py,Rp];exact⟨a,xs,rfl,h1,all l (Da.tup.mp h) h2⟩
  | lst l=>
   obtain⟨a,xs,rfl,h1,h2⟩:=z2o r;rw[py,Rp];exact⟨a,xs,rfl,h1,all l (Da.lst.mp h) h2⟩
  | _=>rw[Da] at h; exact h.elim
end
noncomputable def deq (a b:D):Bool:=PyData.eqv (py a) (py b)
noncomputable def gEq (neg:Bool)(a b:D)(Q:DK):Prop:=match a,b with
 | .int i,.int j=>Q (.bl (if neg then !decide (i=j) else decide (i=j)))
 | .str x,.str y=>Q (.bl (if neg then !decide (x=y) else decide (x=y)))
 | .bl x,.bl y=>Q (.bl (if neg then !decide (x=y) else decide (x=y)))
 | a,b=>Da 60 a/\Da 60 b/\Q (.bl (if neg then !deq a b else deq a b))
theorem z8z {neg:Bool}(a b:D)(Q Q':DK)(m:∀d,Q d->Q' d)(h:gEq neg a b Q):gEq neg a b Q':=by
 unfold gEq at h ⊢
 split at h
 ·exact m _ h
 ·exact m _ h
 ·exact m _ h
 ·exact⟨h.1,h.2.1,m _ h.2.2⟩
noncomputable def pEq:Fn:=fn2 (gEq false) z8z
noncomputable def pNe:Fn:=fn2 (gEq true) z8z
section
variable {X:Cx}{K:W.Frag}{mg:Str->Option Value}
theorem zad {p q:Prop}[Decidable p][Decidable q](h:p↔q):decide p=decide q:=by rw[decide_eq_decide]; exact h
theorem zeY {op:CmpOp}{neg:Bool}(h1:OpR X (compareOp op) (λx y H Q=>scal x y=true/\Q (.bl (if neg then !decide (x=y) else decide (x=y))) H))(h2:OpR X (compareOp op) (rEqD X.K neg)):OpR X (compareOp op) (r2 X.K X.mg (fn2 (gEq neg) z8z)):=by
 intro pins s σ H x y v u Q I rx ry ⟨G,d1,d2,Q0,X0,g,r1,r2,hr,hk⟩;have hr':gEq neg d1 d2 Q0:=hr;unfold gEq at hr'
 split at hr'
 ·have e1:=z0S r1; have e2:=z0S r2;subst e1; subst e2;refine h1 pins s σ H _ _ v u Q I rx ry ⟨rfl,?_⟩;rw[zad (⟨λh=>V.int.inj h,λh=>congrArg V.int h⟩:V.int _=V.int _↔_)];exact hk.now g hr' RD.bl'
 ·have e1:=z3K r1; have e2:=z3K r2;subst e1; subst e2;refine h1 pins s σ H _ _ v u Q I rx ry ⟨rfl,?_⟩;rw[zad (⟨λh=>V.str.inj h,λh=>congrArg V.str h⟩:V.str _=V.str _↔_)];exact hk.now g hr' RD.bl'
 ·have e1:=z92 r1; have e2:=z92 r2;subst e1; subst e2;refine h1 pins s σ H _ _ v u Q I rx ry ⟨rfl,?_⟩;rw[zad (⟨λh=>V.bl.inj h,λh=>congrArg V.bl h⟩:V.bl _=V.bl _↔_)];exact hk.now g hr' RD.bl'
 ·obtain⟨a1,a2,q⟩:=hr';exact h2 pins s σ H x y v u Q I rx ry ⟨_,_,(Da.rp 60 _ a1 r1).same g,(Da.rp 60 _ a2 r2).same g,a1.shaped (by decide),a2.shaped (by decide),hk.now g q RD.bl'⟩
theorem z7y (hu:X.A.units+64<cLine):OpR X (compareOp .Eq) (r2 X.K X.mg pEq):=zeY (neg:=false) (zjG.imp λ_ _ _ _ h=>h) (zie hu)
theorem zgk (hu:X.A.units+64<cLine):OpR X (compareOp .NotEq) (r2 X.K X.mg pNe):=zeY (neg:=true) (zjC.imp λ_ _ _ _ h=>h) (zi9 hu)
noncomputable def isN:D->Bool
 | .non=>true
 | _=>false
noncomputable def gIs (neg:Bool)(a b:D)(Q:DK):Prop:=match b with
 | .non=>Q (.bl (if neg then !isN a else isN a))
 | _=>False
theorem zaT {neg:Bool}(a b:D)(Q Q':DK)(m:∀d,Q d->Q' d)(h:gIs neg a b Q):gIs neg a b Q':=by
 unfold gIs at h ⊢
 split at h
 ·exact m _ h
 ·exact h.elim
noncomputable def pIs:Fn:=fn2 (gIs false) zaT
noncomputable def zi5:Fn:=fn2 (gIs true) zaT
theorem zhj {G:Hp}{d:D}{v:V}(r:RD K mg G d v):decide (v = .non)=isN d:=by
 cases d with
 | non=>rw[z91 r]; rfl
 | bl b=>rw[z92 r]; rfl
 | int b=>rw[z0S r]; rfl
 | str b=>rw[z3K r]; rfl
 | tup l=>obtain⟨a,xs,rfl,_⟩:=z2n r; rfl
 | lst l=>obtain⟨a,xs,rfl,_⟩:=z2o r; rfl
 | dct k v=>rw[RD] at r; obtain⟨a,xs,rfl,_⟩:=r; rfl
 | fn n=>rw[RD] at r; obtain⟨a,rfl,_⟩:=r; rfl
 | exc n=>rw[RD] at r; obtain⟨a,xs,rfl,_⟩:=r; rfl
theorem zik:OpR X (compareOp .Is) (r2 X.K X.mg pIs):=zic.imp λx y H Q ⟨G,d1,d2,Q0,X0,g,r1,r2,hr,hk⟩=>by
 have hr':gIs false d1 d2 Q0:=hr;unfold gIs at hr'
 split at hr'
 ·exact⟨z91 r2,by rw[zhj r1]; exact hk.now g hr' RD.bl'⟩
 ·exact hr'.elim
theorem z4q {g:D->DK->Prop}{m}{ds:List D}{Q:DK}{Xp:XP}(h:(fn1 g m).run ds Q Xp):∃d,ds=[d]/\g d Q:=by
 match ds,h with
 | [a],h=>exact⟨a,rfl,h⟩
 | [],h=>exact h.elim
 | _::_::_,h=>exact h.elim
theorem zev {g:D->D->DK->Prop}{m}{ds:List D}{Q:DK}{Xp:XP}(h:(fn2 g m).run ds Q Xp):∃d e,ds=[d,e]/\g d e Q:=by
 match ds,h with
 | [a,b],h=>exact⟨a,b,rfl,h⟩
 | [],h=>exact h.elim
 | [_],h=>exact h.elim
 | _::_::_::_,h=>exact h.elim
noncomputable def gLen (d:D)(Q:DK):Prop:=match d with
 | .lst l=>Q (.int (l.length:Int))
 | .tup l=>Q (.int (l.length:Int))
 | .str x=>x.length<=sizeLine/\Q (.int (x.length:Int))
 | _=>False
noncomputable def pLen:Fn:=fn1 gLen λd Q Q' m h=>by
 unfold gLen at h ⊢
 split at h
 ·exact m _ h
 ·exact m _ h
 ·exact⟨h.1,m _ h.2⟩
 ·exact h.elim
theorem z2g:z1l X (.builtin "len") (rN X.K X.mg pLen):=(z1l.or z9D z9C).imp λvs H Q ⟨G,ds,Q0,X0,g,rds,hr,hk⟩=>by
 obtain⟨d,rfl,hr'⟩:=z4q hr;obtain⟨v,rfl,rd⟩:=rds1 rds;unfold gLen at hr'
 split at hr'
 ·obtain⟨a,xs,rfl,h1,h2⟩:=z2o rd;exact .inl ⟨a,xs,rfl,.inl (z1K g h1),by rw[h2.len]; exact hk.now g hr' RD.int'⟩
 ·obtain⟨a,xs,rfl,h1,h2⟩:=z2n rd;exact .inl ⟨a,xs,rfl,.inr (z1c g h1),by rw[h2.len]; exact hk.now g hr' RD.int'⟩
 ·have e:=z3K rd;subst e;exact .inr ⟨_,rfl,hr'.1,hk.now g hr'.2 RD.int'⟩
 ·exact hr'.elim
noncomputable def gAbs (d:D)(Q:DK):Prop:=match d with
 | .int i=>Q (.int (if i<0 then -i else i))
 | _=>False
noncomputable def pAbs:Fn:=fn1 gAbs λd Q Q' m h=>by
 unfold gAbs at h ⊢
 split at h
 ·exact m _ h
 ·exact h.elim
noncomputable def gInt (d:D)(Q:DK):Prop:=match d with
 | .int i=>Q (.int i)
 | .bl b=>Q (.int (if b then 1 else 0))
 | .str x=>∃n,PySem.intText? x=some n/\x.length<=640/\Q (.int n)
 | _=>False
noncomputable def pInt:Fn:=fn1 gInt λd Q Q' m h=>by
 unfold gInt at h ⊢
 split at h
 ·exact m _ h
 ·exact m _ h
 ·obtain⟨n,h1,h2,h3⟩:=h;exact⟨n,h1,h2,m _ h3⟩
 ·exact h.elim
theorem zfi:z1l X (.type "int") (rN X.K X.mg pInt):=(z1l.or zdk zdj).imp λvs H Q ⟨G,ds,Q0,X0,g,rds,hr,hk⟩=>by
 obtain⟨d,rfl,hr'⟩:=z4q hr;obtain⟨v,rfl,rd⟩:=rds1 rds;unfold gInt at hr'
 split at hr'
 ·have e:=z0S rd;subst e;exact .inl (.inl ⟨_,rfl,hk.now g hr' RD.int'⟩)
 ·have e:=z92 rd;subst e;exact .inl (.inr ⟨_,rfl,hk.now g hr' RD.int'⟩)
 ·have e:=z3K rd;subst e;obtain⟨n,h1,h2,h3⟩:=hr';exact .inr ⟨_,n,rfl,h1,h2,hk.now g h3 RD.int'⟩
 ·exact hr'.elim
noncomputable def zcZ (d:D)(Q:DK):Prop:=match d with
 | .lst l=>Q (.tup l)
 | .tup l=>Q (.tup l)
 | _=>False
noncomputable def z3L:Fn:=fn1 zcZ λd Q Q' m h=>by
 unfold zcZ at h ⊢
 split at h
 ·exact m _ h
 ·exact m _ h
 ·exact h.elim
theorem z2x:z1l X (.type "tuple") (rN X.K X.mg z3L):=z8H.imp λvs H Q ⟨G,ds,Q0,X0,g,rds,hr,hk⟩=>by
 obtain⟨d,rfl,hr'⟩:=z4q hr;obtain⟨v,rfl,rd⟩:=rds1 rds;unfold zcZ at hr'
 split at hr'
 ·obtain⟨a,xs,rfl,h1,h2⟩:=z2o rd;exact⟨a,xs,rfl,.inl ⟨z1K g h1,λp hp=>hk.new g hp hr' (RD.newT h2 g hp)⟩⟩
 ·obtain⟨a,xs,rfl,h1,h2⟩:=z2n rd;exact⟨a,xs,rfl,.inr ⟨z1c g h1,hk.now g hr' (RD.ofT h1 h2)⟩⟩
 ·exact hr'.elim
noncomputable def zfa (d:D)(Q:DK):Prop:=match d with
 | .lst l=>Q (.lst l)
 | .tup l=>Q (.lst l)
 | _=>False
noncomputable def zeW:Fn:=fn1 zfa λd Q Q' m h=>by
 unfold zfa at h ⊢
 split at h
 ·exact m _ h
 ·exact m _ h
 ·exact h.elim
noncomputable def rNf (K:W.Frag)(mg:Str->Option Value)(F:Fn):List V->Hp->VK->Prop:=λvs H Q=>∃G ds Q0 X0,Same G H/\RDs K mg G ds vs/\F.run ds Q0 X0/\Kf K mg G H Q0 Q
theorem Kf.same {G G' H H':Hp}{Q0:DK}{Q:VK}(h:Kf K mg G H Q0 Q)(g:Gr G H G')(k:Same H H'):Kf K mg G' H' Q0 Q:=λd a G1 H1 q g1 g2 g3 hn gn hw=>h d a G1 H1 q (g.trans k g1) g2 (z07 k g3) (z1d k hn) gn hw
theorem Kf.newL {G H:Hp}{Q0:DK}{Q:VK}{p:Addr}{l:List D}{xs:List V}(h:Kf K mg G H Q0 Q)(g:Same G H)(hp:H p=none)(q:Q0 (.lst l))(r:RDs K mg G l xs):Q (.ref p) (upd H p (.lst xs)):=
 h (.lst l) p G (upd H p (.lst xs)) q Gr.refl (z07 g (z0B hp _)) (z0B hp _) hp (z1d g hp) ⟨xs,z0t,r⟩
theorem tfN {E:XK}{σ:L2.St}{H:Hp}{Q:VK}{F:Fn}{es:List Ex}(h:tf K mg E (.op F es) σ H Q):tCB (rNf K mg F) (txa K mg E es) σ H Q:=by
 obtain⟨G,ρ,Q0,X0,hs,ab,hr,hk,hx⟩:=h;exact⟨G,ρ,λds=>F.run ds Q0 X0,X0,hs,ab,hr,λds vs G1 H1 hF g1 g2 g3 rd=>⟨G1,ds,Q0,X0,g2,rd,hF,hk.same g1 g3⟩,hx⟩
theorem zjp {E:XK}{e:Expr}{es:List Expr}{xs:List Ex}{pos:Pos}{f:Str}{pp:Pos}{id:String}{F:Fn}(hc:z1l X (.builtin id) (rNf X.K X.mg F))(hg:Gl X f)(hm:X.mg f=none)(hv:bootBuiltins f=some (.builtin id))(ha:QXA X E (e::es) xs)(hn:f≠"__name__":=by decide)(hdb:(f == ("__debug__":Str))=false:=by decide)
  (he:starEach (e::es) X.env=(false,eval e X.env)::starEach es X.env:=by rfl) (hpl:(backTo pos (starEach es X.env)).any (·.1)=false:=by rfl):QF X E (.Call (.Name f pp) (e::es) [] pos) (.op F xs):=
 QE.imp (z6s hc hg hm hv ha hn hdb he hpl) λ_ _ _ h=>tfN h
noncomputable def gIx (a b:D)(Q:DK):Prop:=match a,b with
 | .lst l,.int i=>onV (atI l i) Q
 | .tup l,.int i=>onV (atI l i) Q
 | .str x,.int i=>x.length<=sizeLine/\∃c,atI x.cps.toList i=some c/\Q (.str ⟨#[c]⟩)
 | _,_=>False
theorem zet (a b:D)(Q Q':DK)(m:∀d,Q d->Q' d)(h:gIx a b Q):gIx a b Q':=by
 unfold gIx at h ⊢
 split at h
 ·exact zaE m h
 ·exact zaE m h
 ·obtain⟨h1,c,h2,h3⟩:=h;exact⟨h1,c,h2,m _ h3⟩
 ·exact h.elim
noncomputable def pIx:Fn:=fn2 gIx zet
theorem IxR.imp {r r':R2}(h:IxR X r)(i:∀x y H Q,r' x y H Q->r x y H Q):IxR X r':=λvalue slice pins s σ H x y v u Q I rx ry q hs=>h value slice pins s σ H x y v u Q I rx ry (i x y H Q q) hs
theorem ix_p:IxR X (r2 X.K X.mg pIx):=IxR.imp ziU λx y H Q ⟨G,d1,d2,Q0,X0,g,r1,r2,hr,hk⟩=>by
 have hr':gIx d1 d2 Q0:=hr;unfold gIx at hr'
 split at hr'
 ·obtain⟨d,e,q⟩:=zaD hr';obtain⟨a,xs,rfl,h1,h2⟩:=z2o r1;obtain⟨v,e1,rv⟩:=h2.at e;exact .inl ⟨a,xs,_,v,rfl,z0S r2,z1K g h1,e1,hk.now g q rv⟩
 ·obtain⟨d,e,q⟩:=zaD hr';obtain⟨a,xs,rfl,h1,h2⟩:=z2n r1;obtain⟨v,e1,rv⟩:=h2.at e;exact .inr (.inl ⟨a,xs,_,v,rfl,z0S r2,z1c g h1,e1,hk.now g q rv⟩)
 ·obtain⟨h1,c,h2,h3⟩:=hr';exact .inr (.inr ⟨_,_,c,z3K r1,z0S r2,h1,h2,hk.now g h3 RD.str'⟩)
 ·exact hr'.elim
theorem z0o {E:XK}{a b:Expr}{x y:Ex}{pos:Pos}(ha:QX X E a x)(hb:QX X E b y)(hs:zak b):QX X E (.Subscript a b pos) (.op pIx [x,y]):=QE.imp (zjr ix_p ha hb hs) λ_ _ _ h=>tx2 lk2 h
end
end Pu
namespace HT
open PySem PyProof.Rows
section
variable {prog:Program}{w:World}{A:Around}{E:Value->Shared->Prop}{s:Shared}
theorem z8S {t sl:Addr}{z06:Array Value}{vl vu vs:Value}{R:Int × Int × Nat}{Q:Value->Shared->Prop}(ht:IsTup s.heap t z06)(hs:s.heap.IsSliceOf sl vl vu vs)
  (ha:∀{A:Around}{E:Value->Shared->Prop}{Q:Int × Int × Nat->Shared->Prop},Q R s->wpAny (model prog w) A (Builtin.Slice.sliceApplied (.ref sl) (pure (z06.size:Int))) Q E s) (hsz:R.2.2<=sizeLine)
  (h1:(R.1 == 0 && R.2.1 == 1 && R.2.2 == z06.size)=true->Q (.ref t) s)
  (h2:¬ (R.1 == 0 && R.2.1 == 1 && R.2.2 == z06.size)=true->Q (.ref s.heap.objs.size) { s with heap:=s.heap.push { cls :=.type "tuple",data :=.seq ((List.range R.2.2).filterMap λ(k:Nat)=>z06[(R.1+(k:Int)*R.2.1).toNat]?).toArray } }):
  wpAny (model prog w) A (getItem (.ref t) (.ref sl)) Q E s:=by
 obtain⟨os,hos,hcs,hds⟩:=id hs;have hTs:s.TypeIs (.ref sl) "slice":=⟨os,hos,hcs⟩
 have htake:sizeOk (.seq ((List.range R.2.2).filterMap λ(k:Nat)=>z06[(R.1+(k:Int)*R.2.1).toNat]?).toArray):=by
  show ((List.range R.2.2).filterMap λ(k:Nat)=>z06[(R.1+(k:Int)*R.2.1).toNat]?).toArray.size<=sizeLine;rw[List.size_toArray];refine Nat.le_trans (List.length_filterMap_le _ _) ?_;rw[List.length_range]; exact hsz
 unfold getItem
 try with_reducible refine wpAny_holding ?_
 first | refine wpAny_bind (wpAny_pure ?_) | skip
 refine wpAny_bind (wpAny_sequenceKey ht.typeIs (by decide) ?_);refine wpAny_bind (wpAny_callSpecial?_slot (name:=Str.ofString "__getitem__") ht.typeIs PyProof.Rows.slot_tuple_getitem
  (wpAny_call_entry PyProof.Rows.slot_tuple_getitem ht.typeIs entry_tuple_getitem ?_ (args_tuple_getitem _ _)))
 show wpAny _ _ (Builtin.Tuple.tupleItemsOf (.ref t) >>= _) _ _ s;refine wpAny_bind (tupleItemsOf_ ht ?_);refine wpAny_bind (wpAny_typeOf hTs ?_);rw[if_pos (by decide)];refine wpAny_bind (ha ?_);obtain⟨r1,r2,r3⟩:=R;show wpAny _ _ (if (r1 == 0 && r2 == 1 && r3 == z06.size)=true then _ else _) _ _ s
 by_cases hb:(r1 == 0 && r2 == 1 && r3 == z06.size)=true
 ·rw[if_pos hb];refine wpAny_bind (m:=Builtin.Tuple.tupleIsExact (.ref t)) ?_;refine wpAny_bind (wpAny_typeOf ht.typeIs (wpAny_pure ?_));rw[if_pos (by decide)]
  first
   | exact wpAny_bind (wpAny_pure (wpAny_pure ⟨_,rfl,wpAny_pure (h1 hb)⟩))
   | exact wpAny_bind (wpAny_rule (wpAny_pure ⟨_,rfl,wpAny_pure (h1 hb)⟩))
   | exact wpAny_bind (wpAny_rule (wpAny_bind (wpAny_pure (wpAny_pure ⟨_,rfl,wpAny_pure (h1 hb)⟩))))
   | exact wpAny_pure ⟨_,rfl,wpAny_pure (h1 hb)⟩
 ·rw[if_neg hb];have h:=h2 hb
  first
   | exact wpAny_bind (m:=Builtin.Tuple.tupleExact _) (wpAny_newObj_type (wpAny_pure ⟨_,rfl,wpAny_pure h⟩) htake)
   | exact wpAny_bind (m:=Builtin.Tuple.tupleExact _) (wpAny_newObj_type (wpAny_bind (wpAny_pure (wpAny_pure ⟨_,rfl,wpAny_pure h⟩))) htake)
   | exact wpAny_bind (wpAny_bind (m:=Builtin.Tuple.tupleExact _) (wpAny_newObj_type (wpAny_pure (wpAny_pure ⟨_,rfl,wpAny_pure h⟩)) htake))
   | exact wpAny_bind (wpAny_bind (m:=Builtin.Tuple.tupleExact _) (wpAny_newObj_type (wpAny_pure ⟨_,rfl,wpAny_pure h⟩) htake))
end
end HT
namespace Pu
open PySem PySem.Spec PyProof.Rows L2
noncomputable def part (o:Option Ex)(ρ:Pu.Env)(K:Option Int->Prop)(X:XP):Prop:=match o with
 | none=>K none
 | some e=>e.run ρ (λd=>isI d λi=>K (some i)) X
theorem z5b {o:Option Ex}{ρ:Pu.Env}{K K':Option Int->Prop}{X X':XP}(m:∀i,K i->K' i)(mx:∀x,X x->X' x)(h:part o ρ K X):part o ρ K' X':=by
 cases o with
 | none=>exact m _ h
 | some e=>exact e.mono ρ _ _ X X' (λd q=>z8v (λi q=>m _ q) q) mx h
noncomputable def cutD (l:List D)(lo hi:Option Int):List D:=(l.drop (HT.sIx l.length 0 lo)).take (HT.sIx l.length l.length hi - HT.sIx l.length 0 lo)
noncomputable def slcD (d:D)(lo hi:Option Int)(Q:DK):Prop:=match d with
 | .lst l=>Q (.lst (cutD l lo hi))
 | .tup l=>Q (.tup (cutD l lo hi))
 | .str x=>x.length<=sizeLine/\Q (.str (Txt.slice x lo hi))
 | _=>False
theorem zc2 {d:D}{lo hi:Option Int}{Q Q':DK}(m:∀d,Q d->Q' d)(h:slcD d lo hi Q):slcD d lo hi Q':=by
 unfold slcD at h ⊢
 split at h
 ·exact m _ h
 ·exact m _ h
 ·exact⟨h.1,m _ h.2⟩
 ·exact h.elim
noncomputable def Ex.sl (e:Ex)(lo hi:Option Ex):Ex:=⟨λρ Q X=>e.run ρ (λd=>part lo ρ (λl=>part hi ρ (λu=>slcD d l u Q) X) X) X,λρ Q Q' X X' m mx q=>e.mono ρ _ _ X X' (λd q=>z5b (λl q=>z5b (λu q=>zc2 m q) mx q) mx q) mx q⟩
noncomputable def zbh (l:List D)(lo hi:Option Int)(st:Int):List D:=(sliceRange (sliceBounds lo hi (some st) l.length).1 (sliceBounds lo hi (some st) l.length).2.1 (sliceBounds lo hi (some st) l.length).2.2).filterMap (l[·]?)
noncomputable def zg3 (l:List D)(lo hi:Option Int)(st:Int):List D:=
 (List.range (Builtin.Slice.slicePlaces (Builtin.Slice.sliceAdjust lo hi st l.length).1 (Builtin.Slice.sliceAdjust lo hi st l.length).2 st)).filterMap λ(k:Nat)=>l[((Builtin.Slice.sliceAdjust lo hi st l.length).1+(k:Int)*st).toNat]?
noncomputable def slsD (d:D)(lo hi:Option Int)(st:Int)(Q:DK):Prop:=st≠0/\match d with
 | .lst l=>Q (.lst (zbh l lo hi st))
 | .tup l=>st≠1/\Builtin.Slice.slicePlaces (Builtin.Slice.sliceAdjust lo hi st l.length).1 (Builtin.Slice.sliceAdjust lo hi st l.length).2 st<=sizeLine/\Q (.tup (zg3 l lo hi st))
 | _=>False
theorem zc0 {d:D}{lo hi:Option Int}{st:Int}{Q Q':DK}(m:∀d,Q d->Q' d)(h:slsD d lo hi st Q):slsD d lo hi st Q':=by
 refine⟨h.1,?_⟩;have h2:=h.2
 split at h2
 ·exact m _ h2
 ·exact⟨h2.1,h2.2.1,m _ h2.2.2⟩
 ·exact h2.elim
noncomputable def Ex.sls (e:Ex)(lo hi:Option Ex)(st:Ex):Ex:=⟨λρ Q X=>e.run ρ (λd=>part lo ρ (λl=>part hi ρ (λu=>st.run ρ (λk=>isI k λk=>slsD d l u k Q) X) X) X) X,λρ Q Q' X X' m mx q=>e.mono ρ _ _ X X' (λd q=>z5b (λl q=>z5b (λu q=>st.mono ρ _ _ X X' (λk q=>z8v (λk q=>zc0 m q) q) mx q) mx q) mx q) mx q⟩
noncomputable def rSlP (K:W.Frag)(mg:Str->Option Value):V->Option Int->Option Int->Hp->VK->Prop:=λx lo hi H Q=>∃G d Q0,Same G H/\RD K mg G d x/\slcD d lo hi Q0/\Kt K mg G H Q0 Q
section
variable {X:Cx}{K:W.Frag}{mg:Str->Option Value}{E:XK}
theorem zdx:SlR X (λx lo hi H Q=>∃a xs,x = .ref a/\SqT X.K H a xs/\(HT.sIx xs.length 0 lo=0/\HT.sIx xs.length xs.length hi=xs.length)/\Q (.ref a) H):=by
 intro pins s σ H x v vl vu lo hi sl Q I rx hs pl pu h;obtain⟨a,xs,rfl,hx,hw,q⟩:=h
 cases rx
 obtain⟨its,r,ht,hz⟩:=I.tuple hx;have hlen:its.toArray.size=xs.length:=by rw[List.size_toArray]; exact r.length.symm
 refine⟨"tuple",_,PyProof.Rows.slot_tuple_getitem.lookup,ht.typeIs,?_⟩;refine HT.z8S (R:=(((HT.sIx its.toArray.size 0 lo:Nat):Int),1,HT.sIx its.toArray.size its.toArray.size hi - HT.sIx its.toArray.size 0 lo)) ht hs (λh=>HT.z3J hs pl pu h) ?_ (λ_=>⟨.ref a,H,I,rfl,q⟩) (λz =>?_)
 ·rw[hlen]; dsimp only; rw[hw.1,hw.2]; omega
 ·rw[hlen] at z;exact absurd (by dsimp only; rw[hw.1,hw.2]; simp) z
theorem zbF {xs:List D}{lo hi:Option Int}(h:HT.sIx xs.length 0 lo=0/\HT.sIx xs.length xs.length hi=xs.length):cutD xs lo hi=xs:=by
 unfold cutD;rw[h.1,h.2];simp
theorem sl_p:SlR X (rSlP X.K X.mg):=((zfy.or (zh4.or zdx)).or zh5).imp λx lo hi H Q ⟨G,d,Q0,g,rd,hr,hk⟩=>by
 unfold slcD at hr
 split at hr
 ·obtain⟨a,xs,rfl,h1,h2⟩:=z2o rd;exact .inl (.inl ⟨a,xs,rfl,z1K g h1,λp hp=>hk.new g hp hr (RD.newL (h2.cut lo hi) g hp)⟩)
 ·obtain⟨a,xs,rfl,h1,h2⟩:=z2n rd
  by_cases hw:HT.sIx xs.length 0 lo=0/\HT.sIx xs.length xs.length hi=xs.length
  ·refine .inl (.inr (.inr ⟨a,xs,rfl,z1c g h1,hw,hk.now g hr ?_⟩));rw[h2.len] at hw;rw[zbF hw];exact RD.ofT h1 h2
  ·exact .inl (.inr (.inl ⟨a,xs,rfl,z1c g h1,hw,λp hp=>hk.new g hp hr (RD.newT (h2.cut lo hi) g hp)⟩))
 ·exact .inr ⟨_,z3K rd,hr.1,hk.now g hr.2 RD.str'⟩
 ·exact hr.elim
noncomputable def z6A (K:W.Frag)(mg:Str->Option Value)(E:XK)(o:Option Ex):TO:=λσ H Q=>∃G ρ Q0 X0,Same G H/\AbE K mg G ρ σ/\part o ρ Q0 X0/\(∀i G' H',Q0 i->Gr G H G'->Same G' H'->Same H H'->Q i H')/\Kx mg H X0 E
theorem QO.imp {e:Option Expr}{t t':TO}(h:QO X e t)(i:∀σ H Q,t' σ H Q->t σ H Q):QO X e t':=⟨λpins s σ H Q I q=>h.p pins s σ H Q I (i σ H Q q)⟩
theorem z2k:QO X none (z6A X.K X.mg E none):=QO.imp zfP λσ H Q ⟨G,ρ,Q0,X0,hs,ab,hr,hk,hx⟩=>hk none G H hr Gr.refl hs Same.refl'
theorem z1A {e:Expr}{x:Ex}(h:QX X E e x):QO X (some e) (z6A X.K X.mg E (some x)):=QO.imp (zfO h) λσ H Q ⟨G,ρ,Q0,X0,hs,ab,hr,hk,hx⟩=>by
 refine⟨G,ρ,_,X0,hs,ab,hr,λd v G1 H1 q g1 g2 g3 rd =>?_,hx⟩;obtain⟨i,rfl,q⟩:=zen q;exact⟨i,z0S rd,hk (some i) G1 H1 q g1 g2 g3⟩
theorem zj9 {σ:L2.St}{H:Hp}{Q:VK}{e:Ex}{lo hi:Option Ex}(h:tx K mg E (.sl e lo hi) σ H Q):tSl (rSlP K mg) (tx K mg E e) (z6A K mg E lo) (z6A K mg E hi) σ H Q:=by
 obtain⟨G,ρ,Q0,X0,hs,ab,hr,hk,hx⟩:=h;refine⟨G,ρ,_,X0,hs,ab,hr,λd v G1 H1 q g1 g2 g3 rd =>?_,hx⟩;refine⟨G1,ρ,_,X0,g2,ab.same g1.1,q,λl G2 H2 q k1 k2 k3 =>?_,hx.same g3⟩;refine⟨G2,ρ,_,X0,k2,ab.same (z07 g1.1 k1.1),q,λu G3 H3 q n1 n2 n3 =>?_,hx.same (z07 g3 k3)⟩;exact⟨G3,d,Q0,n2,rd.same (z07 k1.1 n1.1),q,hk.same (g1.trans g3 (k1.trans k3 n1)) (z07 g3 (z07 k3 n3))⟩
theorem z6i {e:Expr}{x:Ex}{lo hi:Option Expr}{l u:Option Ex}{p2 pos:Pos}(he:QX X E e x)(hl:QO X lo (z6A X.K X.mg E l))(hu:QO X hi (z6A X.K X.mg E u)):QX X E (.Subscript e (.Slice lo hi none p2) pos) (.sl x l u):=QE.imp (zdP sl_p he hl hu) λ_ _ _ h=>zj9 h
noncomputable def SlR3 (X:Cx)(r:V->Option Int->Option Int->Int->Hp->VK->Prop):Prop:=
 ∀(pins:List (Addr × Obj)) (s:Shared) (σ:L2.St) (H:Hp) (x:V) (v vl vu vs:Value) (lo hi:Option Int) (st:Int) (sl:Addr) (Q:VK),Inv X pins σ H s->RelV x v->s.heap.IsSliceOf sl vl vu vs->IsPart vl lo->IsPart vu hi->IsPart vs (some st)->r x lo hi st H Q->
  ∃T id,typeLookup (.type T) "__getitem__"=pure (some (.builtin id))/\s.TypeIs v T/\wpAny (model X.prog X.w) X.A (getItem v (.ref sl)) (EP X pins σ Q) X.xe s
noncomputable def tSl3 (r:V->Option Int->Option Int->Int->Hp->VK->Prop)(te:TE)(tl th ts:TO):TE:=λσ H Q=>te σ H λx H1=>tl σ H1 λl H2=>th σ H2 λu H3=>ts σ H3 λk H4=>∃st,k=some st/\r x l u st H4 Q
theorem zcr {e st:Expr}{te:TE}{lo hi:Option Expr}{tl th ts:TO}{p2 pos:Pos}{r:V->Option Int->Option Int->Int->Hp->VK->Prop}(hr:SlR3 X r)(he:PE X e te)(hl:PO X lo tl)(hu:PO X hi th)(hst:PO X (some st) ts):PE X (.Subscript e (.Slice lo hi (some st) p2) pos) (tSl3 r te tl th ts):=by
 intro pins s σ H Q I h;refine Subscript_ (thn (he pins s σ H _ I h) λv s1 ⟨x,H1,I1,r1,q1⟩ =>?_);refine wpAny_Slice (thn (hl pins s1 σ H1 _ I1 q1) λvl s2 ⟨l,H2,I2,pl,q2⟩=>thn (hu pins s2 σ H2 _ I2 q2) λvu s3 ⟨u,H3,I3,pu,q3⟩ =>?_);refine thn (hst pins s3 σ H3 _ I3 q3) λvs s4 ⟨o,H4,I4,ps,k,ek,q4⟩ =>?_;subst ek;have I5:Inv X pins σ H4 { s4 with heap:=s4.heap.push { cls :=.type "slice",data :=.fields #[vl,vu,vs] } }:=I4.kept (t':=s4.toks) λb ob q=>Heap.get?_push_of_some _ q;obtain⟨T,id,hT,ht,hg⟩:=hr pins { s4 with heap:=s4.heap.push { cls :=.type "slice",data :=.fields #[vl,vu,vs] } } σ H4 x v vl vu vs l u k s4.heap.objs.size Q I5 r1 (Heap.IsSliceOf.new ..) pl pu ps q4;show wpAny (model X.prog X.w) X.A (subscriptTail e (.Slice lo hi (some st) p2) v (.ref s4.heap.objs.size)) (EP X pins σ Q) X.xe { s4 with heap:=s4.heap.push { cls :=.type "slice",data :=.fields #[vl,vu,vs] } };exact tail_any (ops:=[v,.ref s4.heap.objs.size]) ht hT hg (by with_unfolding_all rfl)
noncomputable def zho (K:W.Frag)(mg:Str->Option Value):V->Option Int->Option Int->Int->Hp->VK->Prop:=λx lo hi st H Q=>∃G d Q0,Same G H/\RD K mg G d x/\slsD d lo hi st Q0/\Kt K mg G H Q0 Q
theorem RDs.pick {G:Hp}{l:List D}{xs:List V}{is:List Nat}(r:RDs K mg G l xs):RDs K mg G (is.filterMap (l[·]?)) (is.filterMap (xs[·]?)):=by
 induction is with
 | nil=>exact RDs.nil
 | cons i is ih=>
  rw[List.filterMap_cons,List.filterMap_cons]
  cases e:l[i]? with
  | none=>
   have:xs[i]? = none:=by
    rw[List.getElem?_eq_none_iff] at e ⊢;rw[r.len]; exact e
   rw[this]; exact ih
  | some d=>
   obtain⟨v,ev,rv⟩:=r.get e;rw[ev];exact RDs.cons rv ih
theorem z8Q {xs:List V}{us:List Value}{is:List Nat}(r:Vals xs us):Vals (is.filterMap (xs[·]?)) (is.filterMap (us[·]?)):=by
 induction is with
 | nil=>exact .nil
 | cons i is ih=>
  rw[List.filterMap_cons,List.filterMap_cons]
  cases e:xs[i]? with
  | none=>rw[r.none_of e]; exact ih
  | some d=>
   obtain⟨v,ev,rv⟩:=r.get e;rw[ev];exact .cons rv ih
theorem z5B {prog:Program}{w:World}{A:Around}{s:Shared}{EE:Value->Shared->Prop}{sl:Addr}{vl vu vs:Value}{lo hi:Option Int}{st:Int}{n:Nat}{Q:Int × Int × Nat->Shared->Prop}(hs:s.heap.IsSliceOf sl vl vu vs)(pl:IsPart vl lo)(pu:IsPart vu hi)(ps:IsPart vs (some st))(h0:st≠0)
  (h:Q ((Builtin.Slice.sliceAdjust lo hi st n).1,st,Builtin.Slice.slicePlaces (Builtin.Slice.sliceAdjust lo hi st n).1 (Builtin.Slice.sliceAdjust lo hi st n).2 st) s):wpAny (model prog w) A (Builtin.Slice.sliceApplied (.ref sl) (pure (n:Int))) Q EE s:=by
 obtain⟨os,hos,hcs,hds⟩:=id hs;unfold Builtin.Slice.sliceApplied Builtin.Slice.sliceFields;refine wpAny_bind (wpAny_bind (wpAny_field hos hds (x:=vl) rfl (wpAny_bind (wpAny_field hos hds (x:=vu) rfl (wpAny_bind (wpAny_field hos hds (x:=vs) rfl (wpAny_pure ?_)))))));refine wpAny_bind (HT.z3g ps ?_);show wpAny _ _ (if (st == 0)=true then _ else _) _ _ s;rw[if_neg (by simpa using h0)];exact wpAny_bind (HT.z3g pl (wpAny_bind (HT.z3g pu (wpAny_bind (wpAny_pure (wpAny_pure h))))))
theorem zfx:SlR3 X (zho X.K X.mg):=by
 intro pins s σ H x v vl vu vs lo hi st sl Q I rx hs pl pu ps ⟨G,d,Q0,g,rd,⟨h0,hr⟩,hk⟩
 split at hr
 ·rename_i l
  obtain⟨a,xs,rfl,h1,h2⟩:=z2o rd
  cases rx
  obtain⟨its,r,ht,hz⟩:=I.list (z1K g h1);have hlen:=r.length;refine⟨"list",_,slot_list_getitem.lookup,ht.isList.typeIs,?_⟩;refine wpAny_getItem_list_slice ht.isList hs pl pu ps (by simpa using h0) ?_ (by rw[List.size_toArray] <;> omega);have hp:H s.heap.objs.size=none:=I.hok.fresh (Nat.le_refl _);have hll:l.length=its.toArray.size:=by rw[List.size_toArray, <- hlen,h2.len]
  have es:slicePick its.toArray lo hi (some st)=(((sliceRange (sliceBounds lo hi (some st) l.length).1 (sliceBounds lo hi (some st) l.length).2.1 (sliceBounds lo hi (some st) l.length).2.2)).filterMap (its[·]?)).toArray:=by
   unfold slicePick;rw[hll];simp
  have hn:(zbh l lo hi st).length<=sizeLine:=by
   unfold zbh;refine Nat.le_trans (List.length_filterMap_le _ _) (Nat.le_trans (sliceRange_length_le _ _ _ l.length ?_ ?_) (by rw[hll,List.size_toArray, <- hlen]; exact hz))
   all_goals
    intro hc;unfold sliceBounds at hc ⊢;simp only[Option.getD_some] at hc ⊢
    cases lo <;> cases hi <;> simp only[hc,if_true,if_false] <;> (try split) <;> (try split) <;> omega
  refine⟨.ref s.heap.objs.size,_,I.laid (t':=s.toks) (o :=.lst ((sliceRange (sliceBounds lo hi (some st) l.length).1 (sliceBounds lo hi (some st) l.length).2.1 (sliceBounds lo hi (some st) l.length).2.2).filterMap (xs[·]?))) (λb ob q=>Heap.get?_push_of_some _ q) (Nat.le_refl _) ?_,rfl,hk.new g hp hr (RD.newL h2.pick g hp)⟩;refine⟨by rw[(h2.pick (is:=_)).len]; exact hn,_,0,z8Q r,?_⟩;rw[<- es];exact Heap.get?_push_size _ rfl
 ·rename_i l
  obtain⟨h1',hsz,q⟩:=hr;obtain⟨a,xs,rfl,h1,h2⟩:=z2n rd
  cases rx
  obtain⟨its,r,ht,hz⟩:=I.tuple (z1c g h1);have hll:l.length=its.toArray.size:=by rw[List.size_toArray, <- r.length,h2.len]
  refine⟨"tuple",_,PyProof.Rows.slot_tuple_getitem.lookup,ht.typeIs,?_⟩;have hp:H s.heap.objs.size=none:=I.hok.fresh (Nat.le_refl _);refine HT.z8S ht hs (λh=>z5B hs pl pu ps h0 h) (by rw[<- hll]; exact hsz) (λz =>?_) (λ_ =>?_)
  ·simp only[Bool.and_eq_true,beq_iff_eq] at z;exact absurd z.1.2 h1'
  ·dsimp only;rw[<- hll];refine⟨.ref s.heap.objs.size,_,I.laid (t':=s.toks) (o :=.tup (((List.range (Builtin.Slice.slicePlaces (Builtin.Slice.sliceAdjust lo hi st l.length).1 (Builtin.Slice.sliceAdjust lo hi st l.length).2 st)).map λ(k:Nat)=>((Builtin.Slice.sliceAdjust lo hi st l.length).1+(k:Int)*st).toNat).filterMap (xs[·]?))) (λb ob q=>Heap.get?_push_of_some _ q) (Nat.le_refl _) ?_,rfl,hk.new g hp q ?_⟩
   ·refine⟨Nat.le_trans (List.length_filterMap_le _ _) (by rw[List.length_map,List.length_range]; exact hsz),_,z8Q r,?_⟩;rw[List.filterMap_map];have:=IsTup.new (h:=s.heap) ((List.range (Builtin.Slice.slicePlaces (Builtin.Slice.sliceAdjust lo hi st l.length).1 (Builtin.Slice.sliceAdjust lo hi st l.length).2 st)).filterMap λ(k:Nat)=>its.toArray[((Builtin.Slice.sliceAdjust lo hi st l.length).1+(k:Int)*st).toNat]?).toArray;simp only[List.getElem?_toArray] at this ⊢;exact this
   ·have e:zg3 l lo hi st=(((List.range (Builtin.Slice.slicePlaces (Builtin.Slice.sliceAdjust lo hi st l.length).1 (Builtin.Slice.sliceAdjust lo hi st l.length).2 st)).map λ(k:Nat)=>((Builtin.Slice.sliceAdjust lo hi st l.length).1+(k:Int)*st).toNat).filterMap (l[·]?)):=by
     unfold zg3;rw[List.filterMap_map]
     rfl
    rw[e];exact RD.newT h2.pick g hp
 ·exact hr.elim
theorem zgR {σ:L2.St}{H:Hp}{Q:VK}{e st:Ex}{lo hi:Option Ex}(h:tx K mg E (.sls e lo hi st) σ H Q):tSl3 (zho K mg) (tx K mg E e) (z6A K mg E lo) (z6A K mg E hi) (z6A K mg E (some st)) σ H Q:=by
 obtain⟨G,ρ,Q0,X0,hs,ab,hr,hk,hx⟩:=h;refine⟨G,ρ,_,X0,hs,ab,hr,λd v G1 H1 q g1 g2 g3 rd =>?_,hx⟩;refine⟨G1,ρ,_,X0,g2,ab.same g1.1,q,λl G2 H2 q k1 k2 k3 =>?_,hx.same g3⟩;refine⟨G2,ρ,_,X0,k2,ab.same (z07 g1.1 k1.1),q,λu G3 H3 q n1 n2 n3 =>?_,hx.same (z07 g3 k3)⟩;refine⟨G3,ρ,λk=>∃i,k=some i/\slsD d l u i Q0,X0,n2,ab.same (z07 g1.1 (z07 k1.1 n1.1)),st.mono ρ _ _ X0 X0 (λk q=>z8v (λi q=>⟨i,rfl,q⟩) q) (λ_ z=>z) q,λk G4 H4 q m1 m2 m3 =>?_,hx.same (z07 g3 (z07 k3 n3))⟩;obtain⟨i,rfl,q⟩:=q;exact⟨i,rfl,G4,d,Q0,m2,rd.same (z07 k1.1 (z07 n1.1 m1.1)),q,hk.same (g1.trans g3 (k1.trans k3 (n1.trans n3 m1))) (z07 g3 (z07 k3 (z07 n3 m3)))⟩
theorem zhq {e st:Expr}{x y:Ex}{lo hi:Option Expr}{l u:Option Ex}{p2 pos:Pos}(he:QX X E e x)(hl:QO X lo (z6A X.K X.mg E l))(hu:QO X hi (z6A X.K X.mg E u))(hst:QX X E st y):QX X E (.Subscript e (.Slice lo hi (some st) p2) pos) (.sls x l u y):=
 QE.imp (⟨zcr zfx he.p hl.p hu.p (z1A hst).p⟩:QE X (.Subscript e (.Slice lo hi (some st) p2) pos) _) λ_ _ _ h=>zgR h
end
end Pu
namespace Pu
open PySem PySem.Spec PyProof.Rows L2
section
variable {X:Cx}{K:W.Frag}{mg:Str->Option Value}{E:XK}
noncomputable def isiD (T:String):D->Option Bool
 | .int _=>some (T == "int")
 | .bl _=>some (T == "int" || T == "bool")
 | .str _=>some (T == "str")
 | .tup _=>some (T == "tuple")
 | .lst _=>some (T == "list")
 | .non=>some false
 | _=>none
noncomputable def onB (o:Option Bool)(Q:Bool->Prop):Prop:=match o with
 | some b=>Q b
 | none=>False
theorem ze6 {o:Option Bool}{Q Q':Bool->Prop}(m:∀b,Q b->Q' b)(h:onB o Q):onB o Q':=by
 cases o with
 | none=>exact h
 | some b=>exact m _ h
theorem ze5 {o:Option Bool}{Q:Bool->Prop}(h:onB o Q):∃b,o=some b/\Q b:=by
 cases o with
 | none=>exact h.elim
 | some b=>exact⟨b,rfl,h⟩
noncomputable def pIsi (T:String):Fn:=fn1 (λd Q=>onB (isiD T d) λb=>Q (.bl b)) λd Q Q' m h=>ze6 (λb q=>m _ q) h
noncomputable def zei:List String:=["int","bool","str","tuple","list"]
theorem zgv {T:String}(hT:T∈zei):PySem.W.kitOne K (.type "int") (.type T)=some (T == "int")/\PySem.W.kitOne K (.type "bool") (.type T)=some (T == "int" || T == "bool")/\PySem.W.kitOne K (.type "str") (.type T)=some (T == "str")/\
  PySem.W.kitOne K (.type "tuple") (.type T)=some (T == "tuple")/\PySem.W.kitOne K (.type "list") (.type T)=some (T == "list")/\PySem.W.kitOne K (.type "NoneType") (.type T)=some false:=by
 unfold zei at hT;simp only[List.mem_cons,List.not_mem_nil,or_false] at hT
 rcases hT with rfl | rfl | rfl | rfl | rfl <;> exact⟨rfl,rfl,rfl,rfl,rfl,rfl⟩
noncomputable def zjj (K:W.Frag)(mg:Str->Option Value)(T:String):List V->Hp->VK->Prop:=λvs H Q=>∃v G d Q0,vs=[v,.ty T]/\Same G H/\RD K mg G d v/\(onB (isiD T d) λb=>Q0 (.bl b))/\Kt K mg G H Q0 Q
theorem zj3 {T:String}(hT:T∈zei):z1l X (.builtin "isinstance") (zjj X.K X.mg T):=by
 intro pins s σ H vs us Q I rv ⟨v,G,d,Q0,e,g,rd,hr,hk⟩;subst e;obtain⟨b,eb,q⟩:=ze5 hr;obtain⟨u,w,rfl,ru,rw'⟩:=zfm rv
 cases (show w=Value.type T from rw')
 obtain⟨t1,t2,t3,t4,t5,t6⟩:=zgv (K:=X.K) hT;have fin:∀tk,EP X pins σ Q (.bool b) { s with toks:=tk }:=λtk=>⟨.bl b,H,I.tok tk,rfl,hk.now g q RD.bl'⟩
 cases d with
 | int i=>
  have e:=z0S rd; subst e;rw[show isiD T (.int i)=some (T == "int") from rfl] at eb;exact z5i I ru (.int i) (t1.trans eb) fin
 | bl i=>
  have e:=z92 rd; subst e;rw[show isiD T (.bl i)=some (T == "int" || T == "bool") from rfl] at eb;exact z5i I ru (.bl i) (t2.trans eb) fin
 | str i=>
  have e:=z3K rd; subst e;rw[show isiD T (.str i)=some (T == "str") from rfl] at eb;exact z5i I ru (.str i) (t3.trans eb) fin
 | non=>
  have e:=z91 rd; subst e;rw[show isiD T .non=some false from rfl] at eb;exact z5i I ru .non (t6.trans eb) fin
 | tup l=>
  obtain⟨a,xs,rfl,h1,h2⟩:=z2n rd
  cases ru
  rw[show isiD T (.tup l)=some (T == "tuple") from rfl] at eb;obtain⟨its,r,⟨o,ho,hc,_⟩,_⟩:=I.tuple (z1c g h1);exact PySem.W.kia_one PySem.W.kitx_tuple I.kIn ⟨o,ho,hc⟩ (t4.trans eb) (λz=>nomatch z) fin
 | lst l=>
  obtain⟨a,xs,rfl,h1,h2⟩:=z2o rd
  cases ru
  rw[show isiD T (.lst l)=some (T == "list") from rfl] at eb;obtain⟨its,r,⟨o,n,ho,hc,_⟩,_⟩:=I.list (z1K g h1);exact PySem.W.kia_one PySem.W.kitx_list I.kIn ⟨o,ho,hc⟩ (t5.trans eb) (λz=>nomatch z) fin
 | _=>cases eb
theorem z6N {e t:Expr}{x:Ex}{pp pos:Pos}{T:String}(hT:T∈zei)(hg:Gl X "isinstance")(hm:X.mg "isinstance"=none)(he:QX X E e x)(ht:QE X t (tC (.ty T)))
  (hs1:starEach [e,t] X.env=(false,eval e X.env)::starEach [t] X.env:=by rfl) (hs2:starEach [t] X.env=(false,eval t X.env)::starEach [] X.env:=by rfl) (hpl:(backTo pos (starEach [t] X.env)).any (·.1)=false:=by rfl)
  (hv:bootBuiltins "isinstance"=some (.builtin "isinstance"):=by rfl) (hn:("isinstance":Str)≠"__name__":=by decide) (hdb:(("isinstance":Str) == ("__debug__":Str))=false:=by decide):QX X E (.Call (.Name "isinstance" pp) [e,t] [] pos) (.op (pIsi T) [x]):=
 QE.imp (z6s (zj3 hT) hg hm hv (z5G he (z5G ht z94 hs2) hs1) hn hdb hs1 hpl) λσ H Q ⟨G,ρ,Q0,X0,hs,ab,hr,hk,hx⟩=>by
  refine⟨G,ρ,_,X0,hs,ab,hr,λd v G1 H1 q g1 g2 g3 rd =>?_,hx⟩;exact⟨v,G1,d,Q0,rfl,g2,rd,q,hk.same g1 g3⟩
theorem zaU {g:Int->Int->DK->Prop}{hg}{ds:List D}{Q:DK}{Xp:XP}(h:(fnI g hg).run ds Q Xp):∃i j,ds=[.int i,.int j]/\g i j Q:=by
 obtain⟨d,e,rfl,h'⟩:=zev (m:=zd0 hg) h;obtain⟨i,j,rfl,rfl,q⟩:=zab h';exact⟨i,j,rfl,q⟩
noncomputable def zgb:Fn:=fnI (λi j Q=>Q (.int (if j > i then j else i))) λ_ _ _ _ m h=>m _ h
noncomputable def zga:Fn:=fnI (λi j Q=>Q (.int (if j<i then j else i))) λ_ _ _ _ m h=>m _ h
theorem zgI (hc:X.calm=true):z1l X (.builtin "max") (rN X.K X.mg zgb):=(zdi hc).imp λvs H Q ⟨G,ds,Q0,X0,g,rds,hr,hk⟩=>by
 obtain⟨i,j,rfl,q⟩:=zaU hr;obtain⟨v,w,rfl,r1,r2⟩:=rds2 rds;exact⟨i,j,by rw[z0S r1,z0S r2],hk.now g q RD.int'⟩
theorem zgH (hc:X.calm=true):z1l X (.builtin "min") (rN X.K X.mg zga):=(zdh hc).imp λvs H Q ⟨G,ds,Q0,X0,g,rds,hr,hk⟩=>by
 obtain⟨i,j,rfl,q⟩:=zaU hr;obtain⟨v,w,rfl,r1,r2⟩:=rds2 rds;exact⟨i,j,by rw[z0S r1,z0S r2],hk.now g q RD.int'⟩
end
end Pu
namespace Pu
open PySem PySem.Spec PyProof.Rows L2
noncomputable def GlS (sc:Scope)(x:Str):Prop:=sc.names.lookup x=some .globalImplicit
structure Nm (sc:Scope)(x:Str):Prop where
 loc:Loc sc x
 hd:(x == ("__debug__":Str))=false
 hcd:(x == ("__classdict__":Str))=false
theorem Nm.vis {sc:Scope}{x:Str}(h:Nm sc x):Vis sc x:=h.loc.elim .inl λz =>.inr (.inl z)
section
variable {CX:CXT}{P:Program}{w:World}{K:W.Frag}{mg:Str->Option Value}{base:Heap}{N:List Str}{qual:Str}{sc:Scope}{f:Addr}{cdv:Value}{A:Around}{outer:List PySem.Env}{s:Shared}{H:Hp}{E:XK}{xe:Value->Shared->Prop}{x:Str}{pos pos2:Pos}{e:Expr}{te:TE}
theorem vg (i:Nat)(h:Nm sc x)(hN:N[i]? = some x:=by rfl):QE ((cxOf CX P w K mg base N qual sc f cdv A outer s H E).wish xe) (.Name x pos) (tVar i):=⟨zeV hN h.vis h.hd h.hcd⟩
theorem ng (i:Nat)(nd:N.Nodup)(h:Nm sc x)(hN:N[i]? = some x:=by rfl):QG ((cxOf CX P w K mg base N qual sc f cdv A outer s H E).wish xe) (.Name x pos) (z5Y i):=⟨zcq nd hN h.loc (.inl rfl)⟩
theorem ag (i:Nat)(nd:N.Nodup)(h:Nm sc x)(he:QE ((cxOf CX P w K mg base N qual sc f cdv A outer s H E).wish xe) e te)(hN:N[i]? = some x:=by rfl)(hs:swapsWith e (some (.Name x pos2)) pos.line ((cxOf CX P w K mg base N qual sc f cdv A outer s H E).wish xe).env=pure false:=by rfl):QS ((cxOf CX P w K mg base N qual sc f cdv A outer s H E).wish xe) (.Assign [.Name x pos2] e pos) (tAsg te (z5Y i)):=⟨zhO nd hN h.loc he.p hs (.inl rfl)⟩
theorem glg (h:GlS sc x):Gl ((cxOf CX P w K mg base N qual sc f cdv A outer s H E).wish xe) x:=h
end
noncomputable def spL (K:W.Frag):Sp:=λvs H Q _=>∃(a:Addr) (ns:List Int),vs=[.ref a]/\SqL K H a (ns.map V.int)/\ns.length<=63/\∀H',Q (.bl true) H'
theorem ziM {P:Program}{w:World}{K:W.Frag}{mg:Str->Option Value}{base:Heap}{CX:CXT}{k:Nat}{f:Addr}{fd:FuncData}{ps:List Str}{F:Fn}(h:∀ns:List Int,ns.length<=63->F.run [.lst (ns.map .int)] (λd=>d = .bl true) (λ_=>False))(ok:FnOk P w K mg base CX k f fd ps (spP K mg F)):FnOk P w K mg base CX k f fd ps (spL K):=
 ok.imp λvs H Q E ⟨a,ns,e,hS,hl,q⟩=>⟨H,[.lst (ns.map .int)],_,_,Same.refl',by rw[e]; exact RDs.cons (RD.ofL hS (z8w ns)) RDs.nil,h ns hl,λd v G' H' e g1 g2 g3 rd=>by
  subst e;rw[z92 rd];exact q H',Kx.no⟩
end Pu
namespace Pu
open PySem L2
open Builtin.Int (intBits)
section
variable {ρ:Pu.Env}{Q:DK}{X:XP}{N:Pu.Env->Prop}{a b c e:Ex}{s t:Sm}{F:Fn}{d:D}{i j:Nat}
theorem zcA {d:D}(q:Q d):onV (some d) Q:=q
theorem e_c (q:Q d):(Ex.c d).run ρ Q X:=q
theorem e_v (q:onV (ρ.get i) Q):(Ex.v i).run ρ Q X:=q
theorem zk2 (q:a.run ρ (λx=>F.run [x] Q X) X):(Ex.op F [a]).run ρ Q X:=q
theorem zk1 (q:a.run ρ (λx=>b.run ρ (λy=>F.run [x,y] Q X) X) X):(Ex.op F [a,b]).run ρ Q X:=q
theorem zk0 (q:a.run ρ (λx=>b.run ρ (λy=>c.run ρ (λz=>F.run [x,y,z] Q X) X) X) X):(Ex.op F [a,b,c]).run ρ Q X:=q
theorem zjZ (q:a.run ρ (λx=>b.run ρ (λy=>c.run ρ (λz=>e.run ρ (λu=>F.run [x,y,z,u] Q X) X) X) X) X):(Ex.op F [a,b,c,e]).run ρ Q X:=q
theorem zjY {es:List Ex}(q:runs es ρ (λds=>F.run ds Q X) X):(Ex.op F es).run ρ Q X:=q
theorem zhh {Q:List D->Prop}(q:Q []):runs [] ρ Q X:=q
theorem zfG {es:List Ex}{Q:List D->Prop}(q:a.run ρ (λd=>runs es ρ (λds=>Q (d::ds)) X) X):runs (a::es) ρ Q X:=q
theorem zk5 (q:a.run ρ (λd=>tst d (b.run ρ Q X) (Q (.bl false))) X):(Ex.and a b).run ρ Q X:=q
theorem e_or (q:a.run ρ (λd=>tst d (Q (.bl true)) (b.run ρ Q X)) X):(Ex.or a b).run ρ Q X:=q
noncomputable def notD (d:D)(Q:DK):Prop:=match d with
 | .bl b=>Q (.bl (!b))
 | _=>False
theorem zk3 (q:a.run ρ (λd=>notD d Q) X):(Ex.not a).run ρ Q X:=q
theorem n_bl {k:Bool}(q:Q (.bl (!k))):notD (.bl k) Q:=q
theorem zk4 (q:c.run ρ (λd=>tst d (a.run ρ Q X) (b.run ρ Q X)) X):(Ex.ifx c a b).run ρ Q X:=q
theorem ziY {nt:Nat}{js:List Nat}{tg:Tg}{src:Ex}{ct:Option Ex}{elt:Ex}(q:src.run ρ (λd=>onL (z06 d) λl=>l.length<sizeLine/\z5u (z5v tg ct elt (z1s nt js ρ)) l λr=>Q (.lst r)) X):(Ex.comp nt js tg src ct elt).run ρ Q X:=q
theorem zjV {l:List D}{K:List D->Prop}(q:K l):onL (z06 (.lst l)) K:=q
theorem zjU {l:List D}{K:List D->Prop}(q:K l):onL (z06 (.tup l)) K:=q
theorem e_sl {lo hi:Option Ex}(q:a.run ρ (λd=>part lo ρ (λl=>part hi ρ (λu=>slcD d l u Q) X) X) X):(Ex.sl a lo hi).run ρ Q X:=q
theorem zjX {lo hi:Option Ex}(q:a.run ρ (λd=>part lo ρ (λl=>part hi ρ (λu=>b.run ρ (λk=>isI k λk=>slsD d l u k Q) X) X) X) X):(Ex.sls a lo hi b).run ρ Q X:=q
theorem zi4 {K:Option Int->Prop}(q:K none):part none ρ K X:=q
theorem zi3 {K:Option Int->Prop}(q:a.run ρ (λd=>isI d λi=>K (some i)) X):part (some a) ρ K X:=q
theorem ziV {k:Int}{K:Int->Prop}(q:K k):isI (.int k) K:=q
theorem zkb {l:List D}{lo hi:Option Int}(q:Q (.lst (cutD l lo hi))):slcD (.lst l) lo hi Q:=q
theorem zka {l:List D}{lo hi:Option Int}(q:Q (.tup (cutD l lo hi))):slcD (.tup l) lo hi Q:=q
theorem z6B {A B:Prop}(h:A):tst (.bl true) A B:=⟨λ_=>h,(λz=>by cases z)⟩
theorem z4N {A B:Prop}(h:B):tst (.bl false) A B:=⟨(λz=>by cases z),λ_=>h⟩
theorem z3i {d:D}{ρ:Pu.Env}{B:Prop}(h:Safe d ρ)(q:B):Safe d ρ/\B:=⟨h,q⟩
theorem z2D {d:D}{ρ:Pu.Env}{B:Prop}(h:zeG d ρ)(q:B):zeG d ρ/\B:=⟨h,q⟩
theorem z3s {p:Prop}[Decidable p]{A B:Prop}(h:p->A)(h':¬ p->B):tst (.bl (decide p)) A B:=⟨λe=>h (of_decide_eq_true e),λe=>h' (of_decide_eq_false e)⟩
theorem zdv {p:Prop}[Decidable p]{A B:Prop}(hp:p)(h:A):tst (.bl (decide p)) A B:=z3s (λ_=>h) λn=>(n hp).elim
theorem t_no {p:Prop}[Decidable p]{A B:Prop}(hp:¬ p)(h:B):tst (.bl (decide p)) A B:=z3s (λy=>(hp y).elim) λ_=>h
theorem z89 {k:Bool}{A B:Prop}(h:tst (.bl k) B A):tst (.bl (!k)) A B:=by
 cases k
 ·exact z6B (h.2 rfl)
 ·exact z4N (h.1 rfl)
theorem zfs {k:Bool}{A B:Prop}(e:k=true)(h:A):tst (.bl k) A B:=by rw[e]; exact z6B h
theorem zft {k:Bool}{A B:Prop}(e:k=false)(h:B):tst (.bl k) A B:=by rw[e]; exact z4N h
theorem zh9 (q:N ρ):Sm.skip.run ρ N Q X:=q
theorem zbc (q:s.run ρ (λρ'=>t.run ρ' N Q X) Q X):(Sm.seq s t).run ρ N Q X:=q
theorem zjc (q:a.run ρ (λd=>Safe d (ρ.set i .n)/\N (ρ.set i (.s d))) X):(Sm.set i a).run ρ N Q X:=q
theorem zfC (q:a.run ρ (λd=>zeG d (ρ.set i .n)/\N (ρ.set i (.o d))) X):(Sm.own i a).run ρ N Q X:=q
theorem zha {js:List Nat}(q:a.run (vis (dem js ρ)) (λd=>N ((dem js ρ).set i (.s d))) X):(Sm.setx js i a).run ρ N Q X:=q
theorem s_if (q:c.run ρ (λd=>tst d (s.run ρ N Q X) (t.run ρ N Q X)) X):(Sm.ifs c s t).run ρ N Q X:=q
theorem zjd (q:a.run ρ Q X):(Sm.ret a).run ρ N Q X:=q
theorem zhb (q:Q .non):Sm.retN.run ρ N Q X:=q
theorem s_ex (q:a.run ρ (λ_=>N ρ) X):(Sm.ex a).run ρ N Q X:=q
theorem zfB {x:Str}(q:X x):(Sm.raise x).run ρ N Q X:=q
theorem zhe (q:s.run ρ N Q (λ_=>False)):(Sm.calm s).run ρ N Q X:=q
theorem zje {js:List Nat}{tg:Tg}(q:a.run (vis (dem js ρ)) (λd=>onL (z06 d) λl=>forL tg s N Q X l (dem js ρ)) X):(Sm.for_ js tg a s).run ρ N Q X:=q
theorem zfF {tg:Tg}(q:a.run ρ (λd=>onR [d] λl=>forL tg s N Q X l ρ) X):(Sm.forr [a] tg s).run ρ N Q X:=q
theorem zfE {tg:Tg}(q:a.run ρ (λd=>b.run ρ (λd'=>onR [d,d'] λl=>forL tg s N Q X l ρ) X) X):(Sm.forr [a,b] tg s).run ρ N Q X:=q
theorem z8Z {l:List D}(h:ownL ρ i λl=>a.run ρ (λd=>l.length<sizeLine/\Safe d ρ/\N (ρ.set i (.o (.lst (l++[d]))))) X):(Sm.app i a).run ρ N Q X:=h
theorem zhc (h:ownL ρ i λl=>popL l λl' _=>N (ρ.set i (.o (.lst l')))):(Sm.pop i).run ρ N Q X:=h
theorem zjf (h:ownL ρ i λl=>a.run ρ (λd=>isLs d λm=>l.length+m.length<=sizeLine/\(∀x∈m,Safe x ρ)/\N (ρ.set i (.o (.lst (l++m))))) X):(Sm.ext i a).run ρ N Q X:=h
theorem zjg {np nn:Nat}{ds:List D}(h:ds.length=np)(q:s.run (ds.map B.s++List.replicate (nn - np) .n) (λ_=>Q .non) Q (λ_=>False)):(Fn.mkN np nn s).run ds Q X:=⟨h,q⟩
theorem zjh {np nn:Nat}{ds:List D}(h:ds.length=np)(q:s.run (ds.map B.s++List.replicate (nn - np) .n) (λ_=>Q .non) Q X):(Fn.mk' np nn s).run ds Q X:=⟨h,q⟩
theorem Sm.cut (W:Pu.Env->Prop)(h:s.run ρ W Q X)(k:∀ρ',W ρ'->t.run ρ' N Q X):(Sm.seq s t).run ρ N Q X:=s.mono ρ W (λρ'=>t.run ρ' N Q X) Q Q X X k (λ_ z=>z) (λ_ z=>z) h
theorem zfu (W:Pu.Env->Prop)(h:tst d (s.run ρ W Q X) (t.run ρ W Q X))(k:∀ρ',W ρ'->N ρ'):tst d (s.run ρ N Q X) (t.run ρ N Q X):=z2V (s.mono ρ W N Q Q X X k (λ_ z=>z) (λ_ z=>z)) (t.mono ρ W N Q Q X X k (λ_ z=>z) (λ_ z=>z)) h
theorem z2w {α:Type}{f:α->D}{tg:Tg}{l:List α}(I:List α->Pu.Env->Prop)(h0:I [] ρ)(hs:∀(dn:List α) (x:α) (r:List α) (ρ:Pu.Env),l=dn++x::r->I dn ρ->tg.put (f x) ρ λρ'=>s.run ρ' (λρ''=>I (dn++[x]) ρ'') Q X)(hd:∀ρ,I l ρ->N ρ):forL tg s N Q X (l.map f) ρ:=by
 have main:∀(r dn:List α) (ρ:Pu.Env),l=dn++r->I dn ρ->forL tg s N Q X (r.map f) ρ:=by
  intro r
  induction r with
  | nil=>
   intro dn ρ e h;rw[List.append_nil] at e;subst e;exact hd ρ h
  | cons x r ih=>
   intro dn ρ e h;rw[List.map_cons];exact Tg.put_mono (λρ' q=>s.mono ρ' _ _ Q Q X X (λρ'' q=>ih (dn++[x]) ρ'' (by rw[e]; simp) q) (λ_ z=>z) (λ_ z=>z) q) (hs dn x r ρ e h)
 exact main l [] ρ rfl h0
theorem z8P (I:Pu.Env->Prop)(μ:Pu.Env->Nat)(h0:I ρ)(hs:∀ρ,I ρ->c.run ρ (λd=>tst d (s.run ρ (λρ'=>I ρ'/\μ ρ' < μ ρ) Q X) (N ρ)) X):(Sm.wh c s).run ρ N Q X:=by
 have main:∀(n:Nat) (ρ:Pu.Env),I ρ->μ ρ < n->wh c s N Q X n ρ:=by
  intro n
  induction n with
  | zero=>intro ρ _ h; exact absurd h (Nat.not_lt_zero _)
  | succ n ih=>
   intro ρ hI hm;exact c.mono ρ _ _ X X (λd q=>z2V (s.mono ρ _ _ Q Q X X (λρ' q=>ih ρ' q.1 (by lia)) (λ_ z=>z) (λ_ z=>z)) (λz=>z) q) (λ_ z=>z) (hs ρ hI)
 exact⟨μ ρ+1,main _ ρ h0 (Nat.lt_succ_self _)⟩
theorem z3r {α:Type}{f g:α->D}{G:D->(Option D->Prop)->Prop}{M:List D->Prop}:∀{l:List α},(∀x∈l,∀K:Option D->Prop,K (some (g x))->G (f x) K)->M (l.map g)->z5u G (l.map f) M
 | [],_,q=>q
 | x::r,h,q=>h x List.mem_cons_self _ (z3r (l:=r) (λy hy=>h y (List.mem_cons_of_mem _ hy)) q)
theorem z9y {α β:Type}{f:α->D}{g:β->D}{P:α->β->Prop}{G:D->(Option D->Prop)->Prop}:∀{l:List α}{M:List D->Prop},(∀x∈l,∀K:Option D->Prop,(∀y,P x y->K (some (g y)))->G (f x) K)->(∀ys:List β,ys.length=l.length->(∀y∈ys,∃x∈l,P x y)->M (ys.map g))->z5u G (l.map f) M
 | [],_,_,q=>q [] rfl (λ_ z=>by simp at z)
 | x::r,M,h,q=>h x List.mem_cons_self _ λy hy=>z9y (l:=r) (M:=λt=>M ((some (g y)).toList++t)) (λz hz=>h z (List.mem_cons_of_mem _ hz)) λys hl ha=>q (y::ys) (by simp[hl]) λz hz=>by
  rcases List.mem_cons.mp hz with rfl | hz
  ·exact⟨x,List.mem_cons_self,hy⟩
  ·obtain⟨w,hw,hp⟩:=ha z hz;exact⟨w,List.mem_cons_of_mem _ hw,hp⟩
theorem zk8 {k:Nat}{elt:Ex}{x:D}{K:Option D->Prop}(q:elt.run (ρ.set k (.s x)) (λd=>K (some d)) (λ_=>False)):z5v (.nm k) none elt ρ x K:=q
theorem zj2 {k:Nat}{elt:Ex}{x:D}{K:Option D->Prop}(q:c.run (ρ.set k (.s x)) (λb=>tst b (elt.run (ρ.set k (.s x)) (λd=>K (some d)) (λ_=>False)) (K none)) (λ_=>False)):z5v (.nm k) (some c) elt ρ x K:=q
variable {m n:Int}
theorem zjP (q:Q (.int (m+n))):pAdd.run [.int m,.int n] Q X:=q
theorem zjI (q:Q (.int (m - n))):pSub.run [.int m,.int n] Q X:=q
theorem zjL (h:zgN m n)(q:Q (.int (m*n))):z1u.run [.int m,.int n] Q X:=⟨h,q⟩
theorem zjK (q:Q (.int (-m))):pNeg.run [.int m] Q X:=q
theorem ziF (h:0<n)(hb:Bt 9000 n)(q:Q (.int (m / n))):z97.run [.int m,.int n] Q X:=⟨⟨by lia,hb⟩,by rw[Int.fdiv_eq_ediv_of_nonneg m (by lia)]; exact q⟩
theorem zf0 (h:0<n)(q:Q (.int (m % n))):pMod.run [.int m,.int n] Q X:=⟨by lia,by rw[Int.fmod_eq_emod_of_nonneg m (by lia)]; exact q⟩
theorem zjJ (h:CPow m n)(q:Q (.int (m ^ n.toNat))):pPow.run [.int m,.int n] Q X:=⟨h,q⟩
theorem o_lt (q:Q (.bl (decide (m<n)))):pLt.run [.int m,.int n] Q X:=q
theorem o_le (q:Q (.bl (decide (m<=n)))):pLe.run [.int m,.int n] Q X:=q
theorem o_gt (q:Q (.bl (decide (n<m)))):pGt.run [.int m,.int n] Q X:=q
theorem o_ge (q:Q (.bl (decide (n<=m)))):pGeI.run [.int m,.int n] Q X:=q
theorem o_eq (q:Q (.bl (decide (m=n)))):pEq.run [.int m,.int n] Q X:=q
theorem o_ne (q:Q (.bl (!decide (m=n)))):pNe.run [.int m,.int n] Q X:=q
theorem o_is (q:Q (.bl (isN d))):pIs.run [d,.non] Q X:=q
theorem zgl (q:Q (.bl (!isN d))):zi5.run [d,.non] Q X:=q
theorem ziv {l:List D}(q:Q (.int (l.length:Int))):pLen.run [.lst l] Q X:=q
theorem ziu {l:List D}(q:Q (.int (l.length:Int))):pLen.run [.tup l] Q X:=q
theorem zjO {l:List D}(q:onV (atI l m) Q):pIx.run [.lst l,.int m] Q X:=q
theorem zjN {l:List D}(q:onV (atI l m) Q):pIx.run [.tup l,.int m] Q X:=q
theorem zjH {ds:List D}(h:ds.length<=sizeLine)(q:Q (.tup ds)):pTup.run ds Q X:=⟨h,q⟩
theorem zjM {ds:List D}(h:ds.length<=sizeLine)(q:Q (.lst ds)):pLst.run ds Q X:=⟨h,q⟩
theorem zin {l:List D}(q:Q (.tup l)):z3L.run [.lst l] Q X:=q
theorem zim {l:List D}(q:Q (.tup l)):z3L.run [.tup l] Q X:=q
theorem zit {l:List D}(q:Q (.lst l)):zeW.run [.lst l] Q X:=q
theorem zis {l:List D}(q:Q (.lst l)):zeW.run [.tup l] Q X:=q
theorem zjQ (q:Q (.int (if m<0 then -m else m))):pAbs.run [.int m] Q X:=q
theorem ziC (q:Q (.int m)):pInt.run [.int m] Q X:=q
theorem ziD {k:Bool}(q:Q (.int (if k then 1 else 0))):pInt.run [.bl k] Q X:=q
theorem ziA {T:String}(q:Q (.bl (T == "int"))):(pIsi T).run [.int m] Q X:=q
theorem ziB {T:String}{k:Bool}(q:Q (.bl (T == "int" || T == "bool"))):(pIsi T).run [.bl k] Q X:=q
theorem ziw {T:String}{l:List D}(q:Q (.bl (T == "tuple"))):(pIsi T).run [.tup l] Q X:=q
theorem ziz {T:String}{l:List D}(q:Q (.bl (T == "list"))):(pIsi T).run [.lst l] Q X:=q
theorem zix {T:String}{x:Str}(q:Q (.bl (T == "str"))):(pIsi T).run [.str x] Q X:=q
theorem ziy {T:String}(q:Q (.bl false)):(pIsi T).run [.non] Q X:=q
theorem zir (q:Q (.int (if n > m then n else m))):zgb.run [.int m,.int n] Q X:=q
theorem ziq (q:Q (.int (if n<m then n else m))):zga.run [.int m,.int n] Q X:=q
theorem zaL {l r:List D}(h:l.length+r.length<=sizeLine)(q:Q (.lst (l++r))):pAdd.run [.lst l,.lst r] Q X:=⟨h,q⟩
theorem ziG {l r:List D}(h:l.length+r.length<=sizeLine)(q:Q (.tup (l++r))):pAdd.run [.tup l,.tup r] Q X:=⟨h,q⟩
end
theorem Safe.of_noL {d:D}(h1:noL d=true)(h2:noD d=true):∀ρ:Pu.Env,Safe d ρ
 | []=>trivial
 | .n::r=>⟨trivial,Safe.of_noL h1 h2 r⟩
 | .s _::r=>⟨trivial,Safe.of_noL h1 h2 r⟩
 | .o x::r=>⟨by cases x <;> first | exact h1 | exact h2 | trivial,Safe.of_noL h1 h2 r⟩
theorem z1M {ρ:Pu.Env}{i:Nat}{l:List D}{K:List D->Prop}(h:ρ[i]? = some (B.o (.lst l)))(q:K l):ownL ρ i K:=by unfold ownL; rw[h]; exact q
theorem zhl {k:Int}{K:List D->Prop}(h : -(2 ^ 62)<=k)(h':k<2 ^ 62)(q:K ((List.range k.toNat).map λ(j:Nat)=>D.int (j:Int))):onR [.int k] K:=⟨⟨h,h'⟩,q⟩
theorem z2S {l:List D}{k:Int}{d:D}{Q:DK}(e:atI l k=some d)(q:Q d):onV (atI l k) Q:=by rw[e]; exact q
noncomputable abbrev vec (p:Int × Int):D :=.tup [.int p.1,.int p.2]
theorem zaO:∀{l:List D},(∀d∈l,noL d=true)->noLs l=true
 | [],_=>rfl
 | d::r,h=>by rw[noLs,h d List.mem_cons_self,zaO λx hx=>h x (List.mem_cons_of_mem _ hx)]; rfl
theorem zaP:∀{l:List D},(∀d∈l,noD d=true)->noDs l=true
 | [],_=>rfl
 | d::r,h=>by rw[noDs,h d List.mem_cons_self,zaP λx hx=>h x (List.mem_cons_of_mem _ hx)]; rfl
noncomputable abbrev vecs (l:List (Int × Int)):D :=.tup (l.map vec)
theorem z3A (l:List (Int × Int)):noL (vecs l)=true:=by
 show noLs (l.map vec)=true;refine zaO λd hd =>?_;obtain⟨p,_,rfl⟩:=List.mem_map.mp hd
 rfl
theorem z3B (l:List (Int × Int)):noD (vecs l)=true:=by
 show noDs (l.map vec)=true;refine zaP λd hd =>?_;obtain⟨p,_,rfl⟩:=List.mem_map.mp hd
 rfl
theorem z1H {α:Type}{f:α->D}{l:List α}{k:Int}{x:α}(h:atI l k=some x):atI (l.map f) k=some (f x):=by
 unfold atI at h ⊢;rw[List.length_map]
 cases q:ixN l.length k with
 | none=>rw[q] at h; cases h
 | some j=>
  rw[q] at h;have h':l[j]? = some x:=h;show (l.map f)[j]? = some (f x);rw[List.getElem?_map,h']
  rfl
theorem menu {ns:List Int}{k:Int}{Q:DK}(h0:0<=k)(h1:k<ns.length)(q:∀v∈ns,Q (.int v)):onV (atI (ns.map D.int) k) Q:=by
 obtain⟨v,hv,e⟩:=z6d (xs:=ns) h0 h1;rw[z1H e];exact q v hv
theorem z3f {α:Type}(f:α->D)(l:List α)(lo hi:Option Int):cutD (l.map f) lo hi=((l.drop (HT.sIx l.length 0 lo)).take (HT.sIx l.length l.length hi - HT.sIx l.length 0 lo)).map f:=by
 unfold cutD;rw[List.length_map,List.map_take,List.map_drop]
end Pu
namespace Geo
noncomputable abbrev P:=Int × Int
noncomputable def cr (a b c:P):Int:=(b.1 - a.1)*(c.2 - a.2) - (b.2 - a.2)*(c.1 - a.1)
noncomputable def Lx (a b:P):Prop:=a.1<b.1\/(a.1=b.1/\a.2<b.2)
noncomputable instance (a b:P):Decidable (Lx a b):=inferInstanceAs (Decidable (_\/_))
theorem Lx.irr {a:P}:¬ Lx a a:=by unfold Lx; lia
theorem Lx.tr {a b c:P}(h:Lx a b)(q:Lx b c):Lx a c:=by unfold Lx at *; lia
theorem Lx.asym {a b:P}(h:Lx a b):¬ Lx b a:=by unfold Lx at *; lia
theorem Lx.tri (a b:P):Lx a b\/a=b\/Lx b a:=by
 obtain⟨a1,a2⟩:=a;obtain⟨b1,b2⟩:=b;unfold Lx;simp only[Prod.mk.injEq];lia
theorem Lx.ne {a b:P}(h:Lx a b):a≠b:=λz=>by subst z; exact Lx.irr h
theorem z9d {a b:P}(h1:¬ Lx a b)(h2:¬ Lx b a):a=b:=by
 rcases Lx.tri a b with h | h | h
 ·exact absurd h h1
 ·exact h
 ·exact absurd h h2
theorem z53 {k m:Int}(h:0<k)(q:0<=m*k):0<=m:=by
 rcases(show m<0\/0<=m by lia) with z | z
 ·have:=Int.mul_neg_of_neg_of_pos z h; lia
 ·exact z
theorem zh6 {k m:Int}(h:0<k)(q:0<m*k):0<m:=by
 rcases(show m<=0\/0<m by lia) with z | z
 ·have:=Int.mul_nonpos_of_nonpos_of_nonneg z (Int.le_of_lt h); lia
 ·exact z
theorem zfq {u1 u2 w1 w2 z1 z2:Int}(hw:0<w1\/w1=0/\0<w2)(hu:0<u1\/u1=0/\0<=u2)(hz:0<z1\/z1=0/\0<=z2)(h1:0<=u1*w2 - u2*w1)(h2:0<=w1*z2 - w2*z1):0<=u1*z2 - u2*z1:=by
 rcases hw with hw | ⟨hw,hw2⟩
 ·refine z53 hw ?_;have e:(u1*z2 - u2*z1)*w1=(u1*w2 - u2*w1)*z1+(w1*z2 - w2*z1)*u1:=by grind
  rw[e];have a1:=Int.mul_nonneg h1 (show 0<=z1 by lia);have a2:=Int.mul_nonneg h2 (show 0<=u1 by lia);lia
 ·subst hw;have z0:z1=0:=by
   rcases hz with hz | hz
   ·have:=Int.mul_pos hw2 hz; lia
   ·exact hz.1
  have z2':0<=z2:=by lia
  subst z0;have:=Int.mul_nonneg (show 0<=u1 by lia) z2';lia
theorem zja {u1 u2 w1 w2 z1 z2:Int}(hw:0<w1\/w1=0/\0<w2)(hu:0<u1\/u1=0/\0<u2)(hz:0<z1\/z1=0/\0<z2)(h1:0<u1*w2 - u2*w1)(h2:0<w1*z2 - w2*z1):0<u1*z2 - u2*z1:=by
 rcases hw with hw | ⟨hw,hw2⟩
 ·refine zh6 hw ?_;have e:(u1*z2 - u2*z1)*w1=(u1*w2 - u2*w1)*z1+(w1*z2 - w2*z1)*u1:=by grind
  rw[e]
  rcases hu with hu | ⟨hu,hu2⟩
  ·have a1:=Int.mul_nonneg (Int.le_of_lt h1) (show 0<=z1 by lia);have a2:=Int.mul_pos h2 hu;lia
  ·subst hu;have:=Int.mul_pos hu2 hw;lia
 ·subst hw
  rcases hz with hz | ⟨hz,_⟩
  ·have:=Int.mul_pos hw2 hz;lia
  ·subst hz; lia
noncomputable def pops (v:P):List P->List P
 | b::a::r=>if cr a b v<=0 then pops v (a::r) else b::a::r
 | s=>s
noncomputable def z7K (S:P->Prop):List P->Prop
 | b::a::r=>(∀p,S p->0<=cr a b p)/\Lx a b/\z7K S (a::r)
 | _=>True
noncomputable def Conv:List P->Prop
 | c::b::a::r=>0<cr a b c/\Conv (b::a::r)
 | _=>True
theorem z7K.tail {S:P->Prop}{b:P}{r:List P}(h:z7K S (b::r)):z7K S r:=by
 cases r with
 | nil=>trivial
 | cons a r=>exact h.2.2
theorem Conv.tail {b:P}{r:List P}(h:Conv (b::r)):Conv r:=by
 match r,h with
 | [],_=>trivial
 | [_],_=>trivial
 | _::_::_,h=>exact h.2
theorem z9s {S:P->Prop}{v:P}:∀{r:List P}{b a:P},z7K S (b::a::r)->Conv (b::a::r)->Lx b v->0<cr a b v->z7K (λp=>p=v\/S p) (b::a::r)
 | [],b,a,he,hc,hv,h=>⟨λp hp=>by
   rcases hp with rfl | hp
   ·exact Int.le_of_lt h
   ·exact he.1 p hp,he.2.1,trivial⟩
 | c::r,b,a,he,hc,hv,h=>by
  have hca:=he.2.2.2.1;have hab:=he.2.1;have h2:0<cr c a v:=by
   have q1:0<cr c a b:=hc.1;have:=zja (u1:=a.1 - c.1) (u2:=a.2 - c.2) (w1:=b.1 - a.1) (w2:=b.2 - a.2) (z1:=v.1 - b.1) (z2:=v.2 - b.2) (by unfold Lx at hab; lia) (by unfold Lx at hca; lia) (by unfold Lx at hv; lia)
    (by unfold cr at q1; grind) (by unfold cr at h; grind)
   unfold cr at q1 ⊢
   grind
  exact⟨λp hp=>by
   rcases hp with rfl | hp
   ·exact Int.le_of_lt h
   ·exact he.1 p hp,hab,z9s he.2.2 hc.2 (hab.tr hv) h2⟩
theorem zch {S:P->Prop}{v:P}(hv:∀p,S p->Lx p v):∀{r:List P}{b:P},(∀x∈b::r,S x)->z7K S (b::r)->Conv (b::r)->(∀p,S p->¬ Lx p b->0<=cr b v p)->(∀z,(b::r).getLast? = some z->∀p,S p->¬ Lx p z)->
  ∃b' r',pops v (b::r)=b'::r'/\(b'::r') <:+ (b::r)/\(∀p,S p->0<=cr b' v p)/\z7K (λp=>p=v\/S p) (b'::r')/\Conv (v::b'::r')
 | [],b,hs,he,hc,ht,hl=>⟨b,[],rfl,List.suffix_refl _,λp hp=>ht p hp (hl b rfl p hp),trivial,trivial⟩
 | a::r,b,hs,he,hc,ht,hl=>by
  have hab:=he.2.1;have hbv:=hv b (hs b (by simp))
  by_cases h:cr a b v<=0
  ·have e:pops v (b::a::r)=pops v (a::r):=by rw[pops,if_pos h]
   obtain⟨b',r',h1,h2,h3,h4,h5⟩:=zch hv (r:=r) (b:=a) (λx hx=>hs x (List.mem_cons_of_mem _ hx)) he.tail hc.tail (λp hp hn=>by
    have q1:=he.1 p hp;have:=zfq (u1:=v.1 - a.1) (u2:=v.2 - a.2) (w1:=b.1 - a.1) (w2:=b.2 - a.2) (z1:=p.1 - a.1) (z2:=p.2 - a.2) (by unfold Lx at hab; lia) (by have:=hab.tr hbv; unfold Lx at this; lia) (by unfold Lx at hn; lia)
     (by unfold cr at h; grind) (by unfold cr at q1; grind)
    unfold cr
    grind) (λz hz=>hl z (by rw[List.getLast?_cons_cons]; exact hz))
   exact⟨b',r',e.trans h1,h2.trans (List.suffix_cons _ _),h3,h4,h5⟩
  ·have h':0<cr a b v:=by lia
   have e:pops v (b::a::r)=b::a::r:=by rw[pops,if_neg h]
   refine⟨b,a::r,e,List.suffix_refl _,λp hp =>?_,z9s he hc hbv h',⟨h',hc⟩⟩
   by_cases hn:Lx p b
   ·have q1:=he.1 p hp;have:=zfq (u1:=b.1 - p.1) (u2:=b.2 - p.2) (w1:=b.1 - a.1) (w2:=b.2 - a.2) (z1:=v.1 - b.1) (z2:=v.2 - b.2) (by unfold Lx at hab; lia) (by unfold Lx at hn; lia) (by unfold Lx at hbv; lia)
     (by unfold cr at q1; grind) (by unfold cr at h'; grind)
    unfold cr
    grind
   ·exact ht p hp hn
structure Ok (S:P->Prop)(s:List P):Prop where
 sub:∀x∈s,S x
 desc:s.Pairwise λx y=>Lx y x
 top:∃b r,s=b::r/\∀p,S p->¬ Lx b p
 bot:∃z,s.getLast? = some z/\∀p,S p->¬ Lx p z
 edges:z7K S s
 conv:Conv s
theorem z6D {s t:List P}{b:P}(h:(b::t) <:+ s):s.getLast? = (b::t).getLast? := by
 obtain⟨u,rfl⟩:=h;rw[List.getLast?_append];rw[List.getLast?_cons]
 rfl
theorem Ok.push {S:P->Prop}{s:List P}{v:P}(o:Ok S s)(hv:∀p,S p->Lx p v):Ok (λp=>p=v\/S p) (v::pops v s):=by
 obtain⟨b,r,rfl,htop⟩:=o.top;obtain⟨z,hz,hbot⟩:=o.bot;obtain⟨b',r',h1,h2,h3,h4,h5⟩:=zch hv o.sub o.edges o.conv (λp hp hn=>by
  have:p=b:=z9d hn (htop p hp);subst this;unfold cr
  grind) (λz' hz'=>by rw[hz] at hz'; injection hz' with e; subst e; exact hbot)
 have hin:∀x∈b'::r',S x:=λx hx=>o.sub x (h2.subset hx);rw[h1];refine⟨λx hx =>?_,?_,⟨v,_,rfl,λp hp =>?_⟩,⟨z,?_,λp hp =>?_⟩,⟨λp hp =>?_,hv b' (hin b' (by simp)),h4⟩,h5⟩
 ·rcases List.mem_cons.mp hx with rfl | hx
  ·exact .inl rfl
  ·exact .inr (hin x hx)
 ·exact List.pairwise_cons.mpr ⟨λx hx=>hv x (hin x hx),o.desc.sublist h2.sublist⟩
 ·rcases hp with rfl | hp
  ·exact Lx.irr
  ·exact(hv p hp).asym
 ·rw[List.getLast?_cons_cons, <- z6D h2]; exact hz
 ·rcases hp with rfl | hp
  ·exact(hv z (by rw[z6D h2] at hz; exact hin z (List.mem_of_getLast? hz))).asym
  ·exact hbot p hp
 ·rcases hp with rfl | hp
  ·unfold cr; grind
  ·exact h3 p hp
noncomputable def z1j (l:List P):List P:=l.foldl (λs v=>v::pops v s) []
theorem Ok.one (v:P):Ok (λp=>p=v) [v]:=⟨by simp,by simp,⟨v,[],rfl,λp hp=>by subst hp; exact Lx.irr⟩,⟨v,rfl,λp hp=>by subst hp; exact Lx.irr⟩,trivial,trivial⟩
theorem Ok.congr {S S':P->Prop}{s:List P}(o:Ok S s)(h:∀p,S p↔S' p):Ok S' s:=by
 have e:S=S':=funext λp=>propext (h p);subst e;exact o
theorem zb0:∀(l:List P) (S:P->Prop) (s:List P),Ok S s->(∀x∈l,∀p,S p->Lx p x)->l.Pairwise Lx->Ok (λp=>S p\/p∈l) (l.foldl (λs v=>v::pops v s) s)
 | [],S,s,o,_,_=>o.congr (by simp)
 | v::l,S,s,o,h,hp=>by
  obtain⟨h1,h2⟩:=List.pairwise_cons.mp hp;have:=zb0 l _ _ (o.push (v:=v) (h v (by simp))) (λx hx p hp=>by
   rcases hp with rfl | hp
   ·exact h1 x hx
   ·exact h x (by simp[hx]) p hp) h2
  refine this.congr λp =>?_;simp only[List.mem_cons]
  constructor
  ·rintro((h | h) | h)
   ·exact .inr (.inl h)
   ·exact .inl h
   ·exact .inr (.inr h)
  ·rintro(h | h | h)
   ·exact .inl (.inr h)
   ·exact .inl (.inl h)
   ·exact .inr h
theorem z9A {l:List P}(hn:l≠[])(hp:l.Pairwise Lx):Ok (· ∈ l) (z1j l):=by
 match l,hn with
 | v::l,_=>
  obtain⟨h1,h2⟩:=List.pairwise_cons.mp hp;have:=zb0 l (λp=>p=v) [v] (Ok.one v) (λx hx p hp=>by subst hp; exact h1 x hx) h2;exact this.congr λp=>by simp
end Geo
namespace Geo
noncomputable def ng (p:P):P:=(-p.1,-p.2)
theorem z5e (p:P):ng (ng p)=p:=by unfold ng; simp
theorem zey (a b c:P):cr (ng a) (ng b) (ng c)=cr a b c:=by unfold cr ng; grind
theorem zbp {a b:P}:Lx (ng a) (ng b)↔Lx b a:=by unfold Lx ng; simp; lia
theorem zci (v:P):∀s:List P,pops (ng v) (s.map ng)=(pops v s).map ng
 | []=>rfl
 | [_]=>rfl
 | b::a::r=>by
  show (if cr (ng a) (ng b) (ng v)<=0 then pops (ng v) ((a::r).map ng) else _)=_;rw[zey,zci v (a::r),pops]
  by_cases h:cr a b v<=0
  ·rw[if_pos h,if_pos h]
  ·rw[if_neg h,if_neg h]; rfl
theorem zd2:∀(l s:List P),(l.map ng).foldl (λs v=>v::pops v s) (s.map ng)=(l.foldl (λs v=>v::pops v s) s).map ng
 | [],_=>rfl
 | v::l,s=>by
  show (l.map ng).foldl _ (ng v::pops (ng v) (s.map ng))=_;rw[zci];exact zd2 l (v::pops v s)
theorem zdf (l:List P):z1j (l.map ng)=(z1j l).map ng:=zd2 l []
noncomputable def dot (a b p:P):Int:=(p.1 - a.1)*(b.1 - a.1)+(p.2 - a.2)*(b.2 - a.2)
structure Edge (S:P->Prop)(a b:P):Prop where
 sa:S a
 sb:S b
 ne:a≠b
 left:∀p,S p->0<=cr a b p
 btw:∀p,S p->cr a b p=0->0<=dot a b p/\0<=dot b a p
theorem Edge.ng {S:P->Prop}{a b:P}(e:Edge (λp=>S (Geo.ng p)) a b):Edge S (Geo.ng a) (Geo.ng b):=by
 refine⟨e.sa,e.sb,λz=>e.ne (by have:=congrArg Geo.ng z; rwa [z5e,z5e] at this),λp hp =>?_,λp hp h =>?_⟩
 ·have:=e.left (Geo.ng p) (by rw[z5e]; exact hp);rw[<- zey,z5e] at this;exact this
 ·have:=e.btw (Geo.ng p) (by rw[z5e]; exact hp) (by rw[<- zey,z5e]; exact h);unfold dot Geo.ng at*;dsimp only at*
  constructor
  ·have:=this.1; grind
  ·have:=this.2; grind
theorem zgG (a b c:P):cr a c b = -cr a b c:=by unfold cr; grind
theorem z0l (x:Int):0<=x*x:=by
 rcases(show x<=0\/0<=x by lia) with h | h
 ·exact Int.mul_nonneg_of_nonpos_of_nonpos h h
 ·exact Int.mul_nonneg h h
theorem z4P {x y:Int}(h:x*x+y*y=0):x=0/\y=0:=by
 have h1:=z0l x;have h2:=z0l y;have t1:x*x=0:=by omega
 have t2:y*y=0:=by omega
 constructor
 ·rcases Int.mul_eq_zero.mp t1 with z | z <;> exact z
 ·rcases Int.mul_eq_zero.mp t2 with z | z <;> exact z
theorem Edge.det {S:P->Prop}{a b c:P}(e:Edge S a b)(f:Edge S a c):b=c:=by
 have h1:=e.left c f.sb;have h2:=f.left b e.sb;have hsw:=zgG a b c;have h0:cr a b c=0:=by lia
 have h0':cr a c b=0:=by lia
 have q1:=e.btw c f.sb h0;have q2:=f.btw b e.sb h0';have ne1:=e.ne;have ne2:=f.ne;obtain⟨a1,a2⟩:=a;obtain⟨b1,b2⟩:=b;obtain⟨c1,c2⟩:=c;unfold cr at h0;unfold dot at q1 q2;simp only[ne_eq,Prod.mk.injEq] at*;obtain⟨q11,q12⟩:=q1;obtain⟨q21,q22⟩:=q2;have k1:(b1 - c1)*(b1 - c1)+(b2 - c2)*(b2 - c2)=0:=by
  generalize hu1:b1 - a1=u1 at*;generalize hu2:b2 - a2=u2 at*;generalize hw1:c1 - a1=w1 at*;generalize hw2:c2 - a2=w2 at*;have e1:b1 - c1=u1 - w1:=by lia
  have e2:b2 - c2=u2 - w2:=by lia
  have e3:c1 - b1=w1 - u1:=by lia
  have e4:c2 - b2=w2 - u2:=by lia
  have e5:a1 - b1 = -u1:=by lia
  have e6:a2 - b2 = -u2:=by lia
  have e7:a1 - c1 = -w1:=by lia
  have e8:a2 - c2 = -w2:=by lia
  rw[e1,e2] at q22 ⊢;rw[e3,e4,e5,e6] at q12;rw[e7,e8] at q22;have A:0<=(u1*u1+u2*u2) - (u1*w1+u2*w2):=by grind
  have B:0<=(w1*w1+w2*w2) - (u1*w1+u2*w2):=by grind
  have C:(u1*u1+u2*u2)*(w1*w1+w2*w2)=(u1*w1+u2*w2)*(u1*w1+u2*w2):=by
   have:(u1*u1+u2*u2)*(w1*w1+w2*w2)=(u1*w1+u2*w2)*(u1*w1+u2*w2)+(u1*w2 - u2*w1)*(u1*w2 - u2*w1):=by grind
   rw[this,h0]; lia
  have D:0<=u1*w1+u2*w2:=by grind
  have PX:0<u1*u1+u2*u2:=by
   have n1:=z0l u1;have n2:=z0l u2
   rcases(show u1*u1+u2*u2=0\/0<u1*u1+u2*u2 by lia) with z | z
   ·have:=z4P z; lia
   ·exact z
  have PY:0<w1*w1+w2*w2:=by
   have n1:=z0l w1;have n2:=z0l w2
   rcases(show w1*w1+w2*w2=0\/0<w1*w1+w2*w2 by lia) with z | z
   ·have:=z4P z; lia
   ·exact z
  have E:(u1 - w1)*(u1 - w1)+(u2 - w2)*(u2 - w2)=((u1*u1+u2*u2) - (u1*w1+u2*w2))+((w1*w1+w2*w2) - (u1*w1+u2*w2)):=by grind
  rw[E];generalize u1*u1+u2*u2=X at*;generalize w1*w1+w2*w2=Y at*;generalize u1*w1+u2*w2=Z at*;have F:(X - Z)*Y+Z*(Y - Z)=0:=by grind
  have G1:=Int.mul_nonneg A (show 0<=Y by lia);have G2:=Int.mul_nonneg D B;have G3:(X - Z)*Y=0:=by omega
  have G4:Z*(Y - Z)=0:=by omega
  rcases Int.mul_eq_zero.mp G3 with h | h
  ·rcases Int.mul_eq_zero.mp G4 with h' | h'
   ·have:X*Y=0:=by rw[C,h']; rfl
    rcases Int.mul_eq_zero.mp this with h'' | h'' <;> lia
   ·lia
  ·rcases Int.mul_eq_zero.mp G4 with h' | h' <;> lia
 have:=z4P k1;lia
end Geo
namespace Geo
noncomputable def Path (R:P->P->Prop):List P->Prop
 | a::b::r=>R a b/\Path R (b::r)
 | _=>True
theorem Path.join {R:P->P->Prop}{M:P}{t:List P}:∀{A:List P},Path R (A++[M])->Path R (M::t)->Path R (A++M::t)
 | [],_,h=>h
 | [a],h,q=>⟨h.1,q⟩
 | a::b::A,h,q=>⟨h.1,Path.join (A:=b::A) h.2 q⟩
theorem Path.snoc {R:P->P->Prop}{a b:P}{A:List P}(h:Path R (A++[a]))(q:R a b):Path R (A++[a,b]):=Path.join h ⟨q,trivial⟩
theorem Path.rev {R:P->P->Prop}:∀{l:List P},Path (λx y=>R y x) l->Path R l.reverse
 | [],_=>trivial
 | [_],_=>trivial
 | a::b::r,h=>by
  have:=Path.rev (l:=b::r) h.2;rw[List.reverse_cons] at this ⊢;rw[List.reverse_cons];rw[List.append_assoc];exact Path.snoc this h.1
theorem Path.imp {R R':P->P->Prop}(i:∀a b,R a b->R' a b):∀{l:List P},Path R l->Path R' l
 | [],_=>trivial
 | [_],_=>trivial
 | _::_::_,h=>⟨i _ _ h.1,Path.imp i h.2⟩
theorem Path.map {R:P->P->Prop}{f:P->P}:∀{l:List P},Path (λa b=>R (f a) (f b)) l->Path R (l.map f)
 | [],_=>trivial
 | [_],_=>trivial
 | _::b::r,h=>⟨h.1,Path.map (l:=b::r) h.2⟩
theorem zf2 {a b p:P}(h:Lx a b)(q:¬ Lx b p)(z:cr a b p=0):0<=dot b a p:=by
 unfold Lx at h q;unfold cr at z;unfold dot;have e:(p.1 - b.1)*(a.1 - b.1)+(p.2 - b.2)*(a.2 - b.2)=(b.1 - a.1)*(b.1 - p.1)+(b.2 - a.2)*(b.2 - p.2):=by grind
 rw[e];have z':(b.1 - a.1)*(b.2 - p.2)=(b.2 - a.2)*(b.1 - p.1):=by grind
 generalize hu1:b.1 - a.1=u1 at*;generalize hu2:b.2 - a.2=u2 at*;generalize hw1:b.1 - p.1=w1 at*;generalize hw2:b.2 - p.2=w2 at*
 rcases(show 0<u1\/u1=0/\0<u2 by lia) with h1 | ⟨h1,h2⟩
 ·refine z53 h1 ?_;have:(u1*w1+u2*w2)*u1=w1*(u1*u1+u2*u2):=by grind
  rw[this];have n1:=z0l u1;have n2:=z0l u2;exact Int.mul_nonneg (by lia) (by lia)
 ·subst h1;have:u2*w1=0:=by lia
  rcases Int.mul_eq_zero.mp this with z | z
  ·lia
  ·subst z;have:=Int.mul_nonneg (Int.le_of_lt h2) (show 0<=w2 by lia);lia
theorem zgn {a b p:P}(h:Lx a b)(q:¬ Lx p a)(z:cr a b p=0):0<=dot a b p:=by
 have:=zf2 (a:=ng b) (b:=ng a) (p:=ng p) (zbp.mpr h) (λy=>q (zbp.mp y)) (by rw[zey]; unfold cr at *; grind);unfold dot ng at*;dsimp only at this
 grind
theorem zcC {a b c p:P}(h:0<cr a b c)(q:0<=cr b c p)(z:cr a b p=0):0<=dot b a p:=by
 unfold cr at h q z;unfold dot;have e1:(p.1 - b.1)*(a.1 - b.1)+(p.2 - b.2)*(a.2 - b.2) = -((p.1 - b.1)*(b.1 - a.1)+(p.2 - b.2)*(b.2 - a.2)):=by grind
 rw[e1];have h':0<(b.1 - a.1)*(c.2 - b.2) - (b.2 - a.2)*(c.1 - b.1):=by grind
 have z':(b.1 - a.1)*(p.2 - b.2) - (b.2 - a.2)*(p.1 - b.1)=0:=by grind
 generalize b.1 - a.1=u1 at*;generalize b.2 - a.2=u2 at*;generalize c.1 - b.1=c1 at*;generalize c.2 - b.2=c2 at*;generalize p.1 - b.1=w1 at*;generalize p.2 - b.2=w2 at*;refine z53 h' ?_;have : -(w1*u1+w2*u2)*(u1*c2 - u2*c1)=(c1*w2 - c2*w1)*(u1*u1+u2*u2) - (u1*w2 - u2*w1)*(c1*u1+c2*u2):=by grind
 rw[this,z',Int.zero_mul,Int.sub_zero];have n1:=z0l u1;have n2:=z0l u2;exact Int.mul_nonneg q (by lia)
theorem zaQ {y a b p:P}(h:0<cr y a b)(q:0<=cr y a p)(z:cr a b p=0):0<=dot a b p:=by
 unfold cr at h q z;unfold dot;have h':0<(a.1 - y.1)*(b.2 - a.2) - (a.2 - y.2)*(b.1 - a.1):=by grind
 have q':0<=(a.1 - y.1)*(p.2 - a.2) - (a.2 - y.2)*(p.1 - a.1):=by grind
 generalize b.1 - a.1=u1 at*;generalize b.2 - a.2=u2 at*;generalize a.1 - y.1=c1 at*;generalize a.2 - y.2=c2 at*;generalize p.1 - a.1=w1 at*;generalize p.2 - a.2=w2 at*;refine z53 h' ?_;have:(w1*u1+w2*u2)*(c1*u2 - c2*u1)=(c1*w2 - c2*w1)*(u1*u1+u2*u2) - (u1*w2 - u2*w1)*(c1*u1+c2*u2):=by grind
 rw[this,z,Int.zero_mul,Int.sub_zero];have n1:=z0l u1;have n2:=z0l u2;exact Int.mul_nonneg q' (by lia)
theorem z80 {S:P->Prop}:∀{r:List P}{b a:P},(∀x∈b::a::r,S x)->z7K S (b::a::r)->Conv (b::a::r)->(∀z,(b::a::r).getLast? = some z->∀p,S p->¬ Lx p z)->(∀p,S p->cr a b p=0->0<=dot b a p)->Path (λx y=>Edge S y x) (b::a::r)
 | [],b,a,hs,he,hc,hl,ht=>⟨⟨hs a (by simp),hs b (by simp),he.2.1.ne,he.1,λp hp z=>⟨zgn he.2.1 (hl a rfl p hp) z,ht p hp z⟩⟩,trivial⟩
 | y::r,b,a,hs,he,hc,hl,ht=>by
  refine⟨⟨hs a (by simp),hs b (by simp),he.2.1.ne,he.1,λp hp z=>⟨zaQ hc.1 (he.2.2.1 p hp) z,ht p hp z⟩⟩,?_⟩;exact z80 (λx hx=>hs x (List.mem_cons_of_mem _ hx)) he.2.2 hc.2 (λz hz=>hl z (by rw[List.getLast?_cons_cons]; exact hz)) λp hp z=>zcC hc.1 (he.1 p hp) z
theorem Ok.path {S:P->Prop}{s:List P}(o:Ok S s):Path (Edge S) s.reverse:=by
 refine Path.rev ?_;obtain⟨b,r,rfl,ht⟩:=o.top;obtain⟨z,hz,hl⟩:=o.bot
 cases r with
 | nil=>trivial
 | cons a r=>exact z80 o.sub o.edges o.conv (λz' hz'=>by rw[hz] at hz'; injection hz' with e; subst e; exact hl) λp hp z=>zf2 o.edges.2.1 (ht p hp) z
noncomputable def hull (l:List P):List P:=if l.length<=1 then l else (z1j l).reverse.dropLast++(z1j l.reverse).reverse.dropLast
structure z0n (S:P->Prop)(h:List P):Prop where
 ex:∃m t,h=m::t/\S m/\(∀p,S p->¬ Lx p m)/\m ∉ t/\((t=[]/\∀p,S p->p=m)\/(t≠[]/\Path (Edge S) (m::t++[m])))
theorem z4L {R:P->P->Prop}(det:∀a b c,R a b->R a c->b=c){m:P}:∀{t t':List P}{a:P},m ∉ t->m ∉ t'->Path R (a::t++[m])->Path R (a::t'++[m])->t=t'
 | [],[],_,_,_,_,_=>rfl
 | [],b::t',a,_,h,p,q=>by
  have:b=m:=det a b m q.1 p.1;exact absurd (by rw[this]; simp) h
 | b::t,[],a,h,_,p,q=>by
  have:b=m:=det a b m p.1 q.1;exact absurd (by rw[this]; simp) h
 | b::t,c::t',a,h,h',p,q=>by
  have e:b=c:=det a b c p.1 q.1;subst e;rw[z4L det (t:=t) (t':=t') (λz=>h (by simp[z])) (λz=>h' (by simp[z])) p.2 q.2]
theorem z0n.unique {S:P->Prop}{h h':List P}(x:z0n S h)(y:z0n S h'):h=h':=by
 obtain⟨m,t,rfl,sm,lm,nm,e⟩:=x.ex;obtain⟨m',t',rfl,sm',lm',nm',e'⟩:=y.ex;have em:m=m':=z9d (lm' m sm) (lm m' sm');subst em;have one:∀{u:List P},u≠[]->Path (Edge S) (m::u++[m])->(∀p,S p->p=m)->False:=λ{u} hu hp ha=>by
  match u,hu with
  | b::u,_=>
   have e:Edge S m b:=hp.1;exact e.ne (ha b e.sb).symm
 rcases e with ⟨rfl,ha⟩ | ⟨hn,hp⟩
 ·rcases e' with ⟨rfl,_⟩ | ⟨hn',hp'⟩
  ·rfl
  ·exact(one hn' hp' ha).elim
 ·rcases e' with ⟨rfl,ha⟩ | ⟨hn',hp'⟩
  ·exact(one hn hp ha).elim
  ·rw[z4L (R:=Edge S) (λa b c p q=>Edge.det p q) nm nm' hp hp']
theorem z3Q {s:List P}{z:P}(h:s.getLast? = some z):s.dropLast++[z]=s:=by
 have hn:s≠[]:=λe=>by rw[e] at h; simp at h
 have e:s.getLast hn=z:=by
  rw[List.getLast?_eq_some_getLast hn] at h;exact Option.some.inj h
 rw[<- e];exact List.dropLast_concat_getLast hn
theorem zgS {l:List P}(hl:2<=l.length)(hp:l.Pairwise Lx):∃x y,x∈l/\y∈l/\Lx x y:=by
 match l,hl,hp with
 | x::y::r,_,hp=>exact⟨x,y,by simp,by simp,(List.pairwise_cons.mp hp).1 y (by simp)⟩
theorem z7V {l:List P}(hl:2<=l.length)(hp:l.Pairwise Lx):∃m M A B,hull l=m::A++M::B/\m∈l/\M∈l/\Lx m M/\(∀p∈l,¬ Lx p m)/\(∀p∈l,¬ Lx M p)/\
  (m::A++[M]).Pairwise Lx/\(M::B++[m]).Pairwise (λx y=>Lx y x)/\Path (Edge (· ∈ l)) (m::A++[M])/\Path (Edge (· ∈ l)) (M::B++[m]):=by
 have hne:l≠[]:=λz=>by rw[z] at hl; simp at hl
 have o1:=z9A hne hp;have hp2:(l.reverse.map ng).Pairwise Lx:=by
  rw[List.pairwise_map,List.pairwise_reverse];exact hp.imp λh=>zbp.mpr h
 have o2:=z9A (l:=l.reverse.map ng) (by simpa using hne) hp2;rw[zdf] at o2;have mem:∀p,p∈l.reverse.map ng↔ng p∈l:=λp=>by
  simp only[List.mem_map,List.mem_reverse]
  constructor
  ·rintro⟨q,hq,rfl⟩; rw[z5e]; exact hq
  ·intro h; exact⟨ng p,h,z5e p⟩
 obtain⟨M,r1,e1,t1⟩:=o1.top;obtain⟨m,b1,b1'⟩:=o1.bot;obtain⟨M',r2,e2,t2⟩:=o2.top;obtain⟨m',b2,b2'⟩:=o2.bot;have Ml:M∈l:=o1.sub M (by rw[e1]; simp);have ml:m∈l:=o1.sub m (List.mem_of_getLast? b1);have M'l:ng M'∈l:=(mem M').mp (o2.sub M' (by rw[e2]; simp));have m'l:ng m'∈l:=(mem m').mp (o2.sub m' (List.mem_of_getLast? b2));have hMm:ng M'=m:=by
  refine z9d (b1' _ M'l) λz =>?_;have:=t2 (ng m) ((mem _).mpr (by rw[z5e]; exact ml));exact this (by rw[<- z5e M']; exact zbp.mpr z)
 have hmM:ng m'=M:=by
  refine z9d (λz =>?_) (t1 _ m'l);have:=b2' (ng M) ((mem _).mpr (by rw[z5e]; exact Ml));exact this (by rw[<- z5e m']; exact zbp.mpr z)
 have hlt:Lx m M:=by
  rcases Lx.tri m M with h | h | h
  ·exact h
  ·exfalso
   subst h;have all:∀p∈l,p=m:=λp hp=>z9d (b1' p hp) (t1 p hp);obtain⟨x,y,hx,hy,this⟩:=zgS hl hp;rw[all x hx,all y hy] at this;exact Lx.irr this
  ·exact absurd h (t1 m ml)
 have there:∃A,(z1j l).reverse=m::A++[M]:=by
  rw[e1] at b1 ⊢
  cases r1 with
  | nil=>simp at b1; exact absurd (b1 ▸ hlt) Lx.irr
  | cons c r=>
   rw[List.getLast?_cons_cons] at b1;refine⟨(c::r).dropLast.reverse,?_⟩;rw[List.reverse_cons, <- z3Q b1];simp
 obtain⟨A,eA⟩:=there;have ec2:z1j l.reverse=(M'::r2).map ng:=by
  have:((z1j l.reverse).map ng).map ng=(M'::r2).map ng:=by rw[e2]
  rw[List.map_map] at this;simpa[Function.comp_def,z5e] using this
 have back:∃B,(z1j l.reverse).reverse=M::B++[m]:=by
  rw[e2] at b2;rw[ec2]
  cases r2 with
  | nil=>
   simp at b2;rw[b2] at hMm;rw[hMm] at hmM;exact absurd (hmM ▸ hlt) Lx.irr
  | cons c r=>
   rw[List.getLast?_cons_cons] at b2;refine⟨((c::r).dropLast.map ng).reverse,?_⟩;have:(c::r)=(c::r).dropLast++[m']:=(z3Q b2).symm;rw[List.map_cons,List.reverse_cons,hMm,this,List.map_append];simp[hmM]
 obtain⟨B,eB⟩:=back;refine⟨m,M,A,B,?_,ml,Ml,hlt,b1',t1,?_,?_,?_,?_⟩
 ·unfold hull;rw[if_neg (by lia),eA,eB,List.dropLast_concat,List.dropLast_concat]
 ·rw[<- eA,List.pairwise_reverse];exact o1.desc
 ·rw[<- eB,List.pairwise_reverse];have q:=o2.desc;rw[List.pairwise_map] at q;exact q.imp λh=>zbp.mp h
 ·rw[<- eA]; exact o1.path
 ·rw[<- eB];have q:=o2.path;rw[<- List.map_reverse] at q;have h2:Path (λa b=>Edge (· ∈ l) (ng a) (ng b)) ((z1j l.reverse).map ng).reverse:=by
   rw[<- List.map_reverse];refine Path.imp (λa b e =>?_) q;refine Edge.ng ?_;have es:(λp=>ng p∈l)=(λp=>p∈l.reverse.map ng):=funext λp=>propext (mem p).symm;rw[es];exact e
  have h3:=Path.map (f:=ng) h2;rw[List.map_reverse,List.map_map] at h3;simpa[Function.comp_def,z5e] using h3
theorem zgz {l:List P}(hn:l≠[])(hp:l.Pairwise Lx):z0n (· ∈ l) (hull l):=by
 by_cases h1:l.length<=1
 ·match l,hn,h1 with
  | [x],_,_=>exact⟨x,[],rfl,by simp,λp hp=>by rw[List.mem_singleton.mp hp]; exact Lx.irr,by simp,.inl ⟨rfl,λp hp=>List.mem_singleton.mp hp⟩⟩
 ·obtain⟨m,M,A,B,e,ml,Ml,hlt,hmin,hmax,pa,pb,wa,wb⟩:=z7V (by lia) hp;refine⟨m,A++M::B,e,ml,hmin,λz =>?_,.inr ⟨by simp,?_⟩⟩
  ·rcases List.mem_append.mp z with z | z
   ·exact Lx.irr ((List.pairwise_cons.mp pa).1 m (by simp[z]))
   ·rcases List.mem_cons.mp z with z | z
    ·exact Lx.irr (z ▸ hlt)
    ·have:(M::B++[m]).Pairwise (λx y=>Lx y x):=pb;rw[List.pairwise_append] at this;exact Lx.irr (this.2.2 m (by simp[z]) m (by simp))
  ·have:m::(A++M::B)++[m]=(m::A)++M::(B++[m]):=by simp
   rw[this];exact Path.join wa wb
end Geo
namespace Lcg
theorem zaV (d:Nat):(5 ^ d) % 2=1:=by
 induction d with
 | zero=>rfl
 | succ d ih=>rw[Nat.pow_succ]; lia
theorem zd4 (d:Nat):(5 ^ d) % 4=1:=by
 induction d with
 | zero=>rfl
 | succ d ih=>rw[Nat.pow_succ]; lia
theorem zbA (d:Nat):(5 ^ (2*d)) % 8=1/\(5 ^ (2*d+1)) % 8=5:=by
 induction d with
 | zero=>exact⟨rfl,rfl⟩
 | succ d ih=>
  have e1:5 ^ (2*(d+1))=5 ^ (2*d)*25:=by rw[show 2*(d+1)=2*d+2 by lia,Nat.pow_add]
  have e2:5 ^ (2*(d+1)+1)=5 ^ (2*d+1)*25:=by rw[show 2*(d+1)+1=(2*d+1)+2 by lia,Nat.pow_add]
  rw[e1,e2];lia
theorem z7l {a k:Nat}(h:a % 2=1):Nat.Coprime (2 ^ k) a:=by
 refine Nat.Coprime.pow_left k ?_;show Nat.gcd 2 a=1;rw[Nat.gcd_rec,h]
 rfl
theorem z21:∀(k d:Nat),2 ^ (k+2) ∣ 5 ^ d - 1->2 ^ k ∣ d
 | 0,d,_=>Nat.one_dvd d
 | k+1,d,h=>by
  have h8:8 ∣ 5 ^ d - 1:=Nat.dvd_trans ⟨2 ^ k,by rw[show k+1+2=3+k by lia,Nat.pow_add]⟩ h;have he:d % 2=0:=by
   rcases Nat.mod_two_eq_zero_or_one d with z | z
   ·exact z
   ·obtain⟨e,rfl⟩:∃e,d=2*e+1:=⟨d / 2,by lia⟩
    have:=(zbA e).2;obtain⟨c,hc⟩:=h8;have p:1<=5 ^ (2*e+1):=Nat.one_le_pow _ _ (by decide);lia
  obtain⟨e,rfl⟩:∃e,d=2*e:=⟨d / 2,by lia⟩
  have p:1<=5 ^ e:=Nat.pos_of_ne_zero (by
   intro z;have:=zaV e;lia)
  have fac:5 ^ (2*e) - 1=(5 ^ e - 1)*(5 ^ e+1):=by
   have e1:5 ^ (2*e)=5 ^ e*5 ^ e:=by rw[Nat.two_mul,Nat.pow_add]
   rw[e1];generalize 5 ^ e=x at p ⊢;obtain⟨y,rfl⟩:∃y,x=y+1:=⟨x - 1,by lia⟩
   simp only[Nat.add_sub_cancel];have:(y+1)*(y+1)=y*(y+1+1)+1:=by grind
   lia
  obtain⟨o,ho⟩:∃o,5 ^ e+1=2*(2*o+1):=⟨(5 ^ e+1) / 4,by have:=zd4 e; lia⟩
  rw[fac,ho] at h;have h2:2 ^ (k+2)*2 ∣ (5 ^ e - 1)*(2*o+1)*2:=by
   have:(5 ^ e - 1)*(2*(2*o+1))=(5 ^ e - 1)*(2*o+1)*2:=by grind
   rw[<- this, <- Nat.pow_succ];exact h
  have h3:2 ^ (k+2) ∣ (5 ^ e - 1)*(2*o+1):=Nat.dvd_of_mul_dvd_mul_right (by decide) h2;have h4:2 ^ (k+2) ∣ 5 ^ e - 1:=(z7l (by lia)).dvd_of_dvd_mul_right h3;obtain⟨c,hc⟩:=z21 k e h4;exact⟨c,by rw[hc,Nat.pow_succ]; grind⟩
noncomputable def step (M x:Nat):Nat:=(x*5+1) % M
noncomputable def orb (M x:Nat):Nat->Nat
 | 0=>x
 | n+1=>step M (orb M x n)
theorem z8m (M x:Nat):∀n,(4*orb M x n+1) % (4*M)=(5 ^ n*(4*x+1)) % (4*M)
 | 0=>by rw[orb,Nat.pow_zero,Nat.one_mul]
 | n+1=>by
  have ih:=z8m M x n;have e1:4*orb M x (n+1)+1=4*((orb M x n*5+1) % M)+1:=rfl;have e2:(4*((orb M x n*5+1) % M)+1) % (4*M)=(4*(orb M x n*5+1)+1) % (4*M):=by
   have:4*((orb M x n*5+1) % M)=(4*(orb M x n*5+1)) % (4*M):=(Nat.mul_mod_mul_left 4 (orb M x n*5+1) M).symm;rw[this,Nat.mod_add_mod]
  rw[e1,e2];have e3:4*(orb M x n*5+1)+1=5*(4*orb M x n+1):=by lia
  rw[e3,Nat.mul_mod,ih, <- Nat.mul_mod,Nat.pow_succ]
  congr 1
  grind
theorem zgc {k x:Nat}{m n:Nat}(hmn:m<n)(hn:n<m+2 ^ k)(h:orb (2 ^ k) x m=orb (2 ^ k) x n):False:=by
 have h1:=z8m (2 ^ k) x m;have h2:=z8m (2 ^ k) x n;rw[h,h2] at h1;have e4:4*2 ^ k=2 ^ (k+2):=by rw[Nat.pow_add]; lia
 rw[e4] at h1;have hle:5 ^ m*(4*x+1)<=5 ^ n*(4*x+1):=Nat.mul_le_mul_right _ (Nat.pow_le_pow_right (by decide) (Nat.le_of_lt hmn));have hd:2 ^ (k+2) ∣ 5 ^ n*(4*x+1) - 5 ^ m*(4*x+1):=Nat.dvd_of_mod_eq_zero (Nat.sub_mod_eq_zero_of_mod_eq h1);have e5:5 ^ n*(4*x+1) - 5 ^ m*(4*x+1)=(5 ^ (n - m) - 1)*(5 ^ m*(4*x+1)):=by
  have:5 ^ n=5 ^ (n - m)*5 ^ m:=by rw[<- Nat.pow_add]; congr 1; lia
  rw[this,Nat.sub_mul,Nat.one_mul,Nat.mul_assoc]
 rw[e5] at hd;have ho:(5 ^ m*(4*x+1)) % 2=1:=by
  have:=zaV m;rw[Nat.mul_mod,this];lia
 have hd2:=(z7l ho).dvd_of_dvd_mul_right hd;have:=Nat.le_of_dvd (by lia) (z21 k (n - m) hd2);lia
theorem zaM:∀(n:Nat) (l:List Nat),l.Nodup->(∀x∈l,x<n)->l.length<=n
 | 0,l,_,h=>by
  cases l with
  | nil=>exact Nat.le_refl _
  | cons a _=>exact absurd (h a (by simp)) (Nat.not_lt_zero _)
 | n+1,l,hd,h=>by
  have h2:=zaM n (l.erase n) (hd.erase n) λx hx=>by
   have hne:x≠n:=λz=>by
    subst z;exact(List.Nodup.not_mem_erase hd) hx
   have:=h x (List.mem_of_mem_erase hx);lia
  by_cases hm:n∈l
  ·rw[List.length_erase_of_mem hm] at h2;lia
  ·rw[List.erase_of_not_mem hm] at h2;lia
theorem zi6 {M x:Nat}(hM:0<M)(hx:x<M):∀n,orb M x n<M
 | 0=>hx
 | n+1=>Nat.mod_lt _ hM
theorem zgd {k x e:Nat}(hx:x<2 ^ k)(he:e<2 ^ k):∃n,n<2 ^ k/\orb (2 ^ k) x n=e:=by
 refine Classical.byContradiction λhno =>?_;have hM:0<2 ^ k:=Nat.two_pow_pos k;have hl:=zaM (2 ^ k) (e::(List.range (2 ^ k)).map (orb (2 ^ k) x)) (by
  refine List.nodup_cons.mpr ⟨λz =>?_,?_⟩
  ·obtain⟨n,hn,e'⟩:=List.mem_map.mp z;exact hno ⟨n,List.mem_range.mp hn,e'⟩
  ·rw[List.nodup_iff_pairwise_ne,List.pairwise_map];refine List.Pairwise.imp_of_mem (R:=(· < ·)) ?_ List.pairwise_lt_range;intro a b ha hb hab z;exact zgc hab (by have:=List.mem_range.mp hb; lia) z) (λy hy=>by
  rcases List.mem_cons.mp hy with rfl | hy
  ·exact he
  ·obtain⟨n,_,rfl⟩:=List.mem_map.mp hy;exact zi6 hM hx n)
 simp at hl;lia
end Lcg
namespace Tab
open PySem PySem.SetTable
theorem z8J (xs:Array Nat)(j:Nat)(hr:∀a b,a<b->b<xs.size->xs.getD a 0<xs.getD b 0):∀(fuel lo hi:Nat),hi<=xs.size->hi - lo<=fuel->lo<=hi->(∀i,i<lo->xs.getD i 0<j)->(∀i,hi<=i->i<xs.size->j<=xs.getD i 0)->
  below.go xs j fuel lo hi<=xs.size/\(∀i,i<below.go xs j fuel lo hi->xs.getD i 0<j)/\(∀i,below.go xs j fuel lo hi<=i->i<xs.size->j<=xs.getD i 0)
 | 0,lo,hi,h1,h2,h3,h4,h5=>by
  have:lo=hi:=by lia
  subst this;exact⟨h1,h4,h5⟩
 | fuel+1,lo,hi,h1,h2,h3,h4,h5=>by
  rw[below.go]
  by_cases hlt:lo<hi
  ·rw[if_pos hlt];have hm:(lo+hi) / 2<xs.size:=by lia
   have e:xs.getD ((lo+hi) / 2) j=xs.getD ((lo+hi) / 2) 0:=by simp[Array.getD,hm]
   dsimp only;rw[e]
   by_cases hj:xs.getD ((lo+hi) / 2) 0<j
   ·rw[if_pos hj];refine z8J xs j hr fuel _ hi h1 (by lia) (by lia) (λi hi' =>?_) h5
    rcases Nat.lt_or_ge i ((lo+hi) / 2) with z | z
    ·have:=hr i _ z hm; lia
    ·have:i=(lo+hi) / 2:=by lia
     subst this; exact hj
   ·rw[if_neg hj];refine z8J xs j hr fuel lo _ (by lia) (by lia) (by lia) h4 (λi hi' hi2 =>?_)
    rcases Nat.lt_or_ge ((lo+hi) / 2) i with z | z
    ·have:=hr _ i z hi2; lia
    ·have:i=(lo+hi) / 2:=by lia
     subst this; lia
  ·rw[if_neg hlt];have:lo=hi:=by lia
   subst this;exact⟨h1,h4,h5⟩
noncomputable abbrev Rise (xs:Array Nat):Prop:=∀a b,a<b->b<xs.size->xs.getD a 0<xs.getD b 0
theorem z61 {xs:Array Nat}(hr:Rise xs)(j:Nat):below xs j<=xs.size/\(∀i,i<below xs j->xs.getD i 0<j)/\(∀i,below xs j<=i->i<xs.size->j<=xs.getD i 0):=
 z8J xs j hr xs.size 0 xs.size (Nat.le_refl _) (by lia) (Nat.zero_le _) (λ_ h=>absurd h (Nat.not_lt_zero _)) (λi h1 h2=>absurd h1 (by lia))
theorem zgB {xs:Array Nat}{i j:Nat}(h:xs[i]? = some j):i<xs.size/\xs.getD i 0=j:=by
 obtain⟨hi,e⟩:=Array.getElem?_eq_some_iff.mp h;exact⟨hi,by simp[Array.getD,hi,e]⟩
theorem zke {xs:Array Nat}{i:Nat}(h:i<xs.size):xs[i]? = some (xs.getD i 0):=by simp[Array.getD,h]
theorem zeC {xs:Array Nat}(hr:Rise xs){i j:Nat}(h:xs[i]? = some j):below xs j=i:=by
 obtain⟨h1,h2,h3⟩:=z61 hr j;obtain⟨hi,e⟩:=zgB h
 rcases Nat.lt_trichotomy (below xs j) i with z | z | z
 ·have:=h3 _ (Nat.le_refl _) (by lia);have:=hr _ _ z hi;lia
 ·exact z
 ·have:=h2 i z; lia
theorem z8W {t:SetTable}(hr:Rise t.place){i j:Nat}(h:t.place[i]? = some j):t.slot j = .live i:=by
 unfold SetTable.slot;rw[zeC hr h];dsimp only;rw[h];simp
theorem zb7 {t:SetTable}(hd:t.dummies = #[]){j:Nat}(h:∀i:Nat,t.place[i]? ≠ some j):t.slot j = .empty:=by
 unfold SetTable.slot;have h1:(t.place[below t.place j]? == some j)=false:=by
  have:=h (below t.place j);simpa using this
 have h2:has t.dummies j=false:=by rw[hd]; unfold has; simp
 simp only[h1,h2]
 rfl
noncomputable def adv (mask:Nat)(p:Probe):Probe:=
 if p.more > 0 then { p with j:=p.j+1,more:=p.more - 1 } else
 { p with j:=(leap mask p.i p.perturb).1,more:=runEnd mask (leap mask p.i p.perturb).1 - (leap mask p.i p.perturb).1,i:=(leap mask p.i p.perturb).1,perturb:=(leap mask p.i p.perturb).2 }
noncomputable def advs (mask:Nat)(p:Probe):Nat->Probe
 | 0=>p
 | n+1=>adv mask (advs mask p n)
theorem z33 (mask:Nat)(p:Probe)(m:Nat):∀n,advs mask p (m+n)=advs mask (advs mask p m) n
 | 0=>rfl
 | n+1=>congrArg (adv mask) (z33 mask p m n)
theorem z5y (mask:Nat)(p:Probe)(n:Nat):advs mask p (n+1)=advs mask (adv mask p) n:=by
 rw[Nat.add_comm,z33]
 rfl
theorem z9J (mask:Nat)(p:Probe):(adv mask p).dummy=p.dummy:=by
 unfold adv; split <;> rfl
theorem z82 (mask:Nat)(p:Probe):∀n,(advs mask p n).dummy=p.dummy
 | 0=>rfl
 | n+1=>by rw[advs,z9J,z82 mask p n]
theorem z8K (mask:Nat):∀(p:Probe) (n:Nat),n<=p.more->advs mask p n={ p with j:=p.j+n,more:=p.more - n }
 | p,0,_=>rfl
 | p,n+1,h=>by
  rw[advs,z8K mask p n (by lia)];unfold adv;rw[if_pos (by show p.more - n > 0; lia)];show ({ p with j:=p.j+n+1,more:=p.more - n - 1 }:Probe)=_
  congr 1
theorem z8e (mask i:Nat):runEnd mask i - i<=9:=by unfold runEnd; split <;> lia
noncomputable def lp (mask:Nat)(i q:Nat):Nat->Nat × Nat
 | 0=>(i,q)
 | c+1=>leap mask (lp mask i q c).1 (lp mask i q c).2
theorem zcK (mask:Nat)(i q:Nat):∀c,lp mask i q (c+1)=lp mask (leap mask i q).1 (leap mask i q).2 c
 | 0=>rfl
 | c+1=>by
  show leap mask (lp mask i q (c+1)).1 (lp mask i q (c+1)).2=_;rw[zcK mask i q c]
  rfl
theorem z4o (mask:Nat)(p:Probe):advs mask p (p.more+1)={ p with j:=(leap mask p.i p.perturb).1,more:=runEnd mask (leap mask p.i p.perturb).1 - (leap mask p.i p.perturb).1,i:=(leap mask p.i p.perturb).1,perturb:=(leap mask p.i p.perturb).2 }:=by
 rw[advs,z8K mask p p.more (Nat.le_refl _)];unfold adv;rw[if_neg (by show ¬ p.more - p.more > 0; lia)]
theorem runs (mask:Nat):∀(c:Nat) (p:Probe),p.more<=9->∃s,s<=10*(c+1)/\(advs mask p s).j=(lp mask p.i p.perturb (c+1)).1/\(advs mask p s).i=(lp mask p.i p.perturb (c+1)).1/\(advs mask p s).perturb=(lp mask p.i p.perturb (c+1)).2/\(advs mask p s).more<=9
 | 0,p,h=>⟨p.more+1,by lia,by rw[z4o]; rfl,by rw[z4o]; rfl,by rw[z4o]; rfl,by rw[z4o]; exact z8e _ _⟩
 | c+1,p,h=>by
  obtain⟨s,h1,h2,h3,h4,h5⟩:=runs mask c p h;refine⟨s+((advs mask p s).more+1),by lia,?_⟩;rw[z33,z4o];refine⟨?_,?_,?_,z8e _ _⟩
  ·show (leap mask (advs mask p s).i (advs mask p s).perturb).1=_; rw[h3,h4]; rfl
  ·show (leap mask (advs mask p s).i (advs mask p s).perturb).1=_; rw[h3,h4]; rfl
  ·show (leap mask (advs mask p s).i (advs mask p s).perturb).2=_; rw[h3,h4]; rfl
theorem z5L (mask i q:Nat):∀c,(lp mask i q c).2=q / 32 ^ c
 | 0=>by simp[lp]
 | c+1=>by
  show (lp mask i q c).2 / 32=_;rw[z5L mask i q c,Nat.div_div_eq_div_mul,Nat.pow_succ]
theorem zf6 {mask i q:Nat}(hq:q=0):∀c:Nat,(lp mask i q c).1=Lcg.orb (mask+1) i c
 | 0=>rfl
 | c+1=>by
  show ((lp mask i q c).1*5+1+(lp mask i q c).2 / 32) % (mask+1)=_;rw[z5L,zf6 hq c,hq,Nat.zero_div,Nat.zero_div,Nat.add_zero]
  rfl
theorem zf7 (mask i q m:Nat):∀n,lp mask i q (m+n)=lp mask (lp mask i q m).1 (lp mask i q m).2 n
 | 0=>rfl
 | n+1=>by
  show leap mask (lp mask i q (m+n)).1 (lp mask i q (m+n)).2=_;rw[zf7 mask i q m n]
  rfl
theorem zeN {k mask i q e:Nat}(hm:mask+1=2 ^ k)(hq:q<2 ^ 64)(he:e<=mask):∃c,c<=13+mask/\13<=c/\(lp mask i q c).1=e:=by
 have hq13:(lp mask i q 13).2=0:=by
  rw[z5L];exact Nat.div_eq_of_lt (Nat.lt_of_lt_of_le hq (by decide))
 have hi13:(lp mask i q 13).1<2 ^ k:=by
  rw[<- hm];exact Nat.mod_lt _ (by lia)
 obtain⟨d,hd,e1⟩:=Lcg.zgd hi13 (show e<2 ^ k by lia);refine⟨13+d,by lia,by lia,?_⟩;rw[zf7,zf6 hq13,hm];exact e1
theorem zc1 {k mask e:Nat}{p:Probe}(hm:mask+1=2 ^ k)(hq:p.perturb<2 ^ 64)(hp:p.more<=9)(he:e<=mask):∃s,s<10*turns mask/\(advs mask p s).j=e:=by
 obtain⟨c,h1,h2,h3⟩:=zeN (i:=p.i) (q:=p.perturb) hm hq he;obtain⟨c',rfl⟩:∃c',c=c'+1:=⟨c - 1,by lia⟩
 obtain⟨s,g1,g2,_⟩:=runs mask c' p hp;exact⟨s,by unfold turns; lia,g2.trans h3⟩
theorem zj6 {mask:Nat}{p:Probe}(hq:p.perturb<2 ^ 64)(hp:p.more<=9):(adv mask p).perturb<2 ^ 64/\(adv mask p).more<=9:=by
 unfold adv
 split
 ·exact⟨hq,by show p.more - 1<=9; lia⟩
 ·exact⟨Nat.lt_of_le_of_lt (Nat.div_le_self _ _) hq,z8e _ _⟩
theorem zaj {mask:Nat}{p:Probe}(hq:p.perturb<2 ^ 64)(hp:p.more<=9):∀n,(advs mask p n).perturb<2 ^ 64/\(advs mask p n).more<=9
 | 0=>⟨hq,hp⟩
 | n+1=>zj6 (zaj hq hp n).1 (zaj hq hp n).2
theorem z51 (t:SetTable)(h:Int):(t.probeStart h).perturb<2 ^ 64/\(t.probeStart h).more<=9:=by
 refine⟨?_,z8e _ _⟩;show (h % (2 ^ 64:Int)).toNat<2 ^ 64;have h1:=Int.emod_nonneg h (show (2 ^ 64:Int)≠0 by decide);have h2:=Int.emod_lt_of_pos h (show (0:Int)<2 ^ 64 by decide);lia
theorem zaA {t:SetTable}(hd:t.dummies = #[])(hr:Rise t.place)(hashAt:Nat->Int)(h:Int):∀(fuel:Nat) (p:Probe),(∃s,s<fuel/\∀i:Nat,t.place[i]? ≠ some (advs t.mask p s).j)->
  ∃s,(∀m,m<s->∃i:Nat,t.place[i]? = some (advs t.mask p m).j/\hashAt i≠h)/\
   (((∀i:Nat,t.place[i]? ≠ some (advs t.mask p s).j)/\probe.go t hashAt h fuel p=some (.empty (advs t.mask p s).j p.dummy))\/
    ∃i:Nat,t.place[i]? = some (advs t.mask p s).j/\hashAt i=h/\probe.go t hashAt h fuel p=some (.candidate (advs t.mask p s).j i (advs t.mask p (s+1))))
 | 0,p,⟨s,hs,_⟩=>absurd hs (Nat.not_lt_zero _)
 | fuel+1,p,⟨s,hs,he⟩=>by
  by_cases hl:∃i:Nat,t.place[i]? = some p.j
  ·obtain⟨i,hi⟩:=hl;have e1:probe.go t hashAt h (fuel+1) p=if hashAt i == h then some (.candidate p.j i (t.advance p)) else probe.go t hashAt h fuel (t.advance p):=by
    rw[probe.go,z8W hr hi]
   by_cases hh:hashAt i=h
   ·refine⟨0,λm hm=>absurd hm (Nat.not_lt_zero _),.inr ⟨i,hi,hh,?_⟩⟩;rw[e1,if_pos (by simpa using hh)]
    rfl
   ·have hs0:s≠0:=λz=>by subst z; exact he i hi
    obtain⟨s',rfl⟩:∃s',s=s'+1:=⟨s - 1,by lia⟩
    rw[z5y] at he;obtain⟨r,h1,h2⟩:=zaA hd hr hashAt h fuel (adv t.mask p) ⟨s',by lia,he⟩;refine⟨r+1,λm hm =>?_,?_⟩
    ·cases m with
     | zero=>exact⟨i,hi,hh⟩
     | succ m=>rw[z5y]; exact h1 m (by lia)
    ·rw[e1,if_neg (by simpa using hh),z5y,z5y, <- z9J t.mask p];exact h2
  ·have hn:∀i:Nat,t.place[i]? ≠ some p.j:=λi z=>hl ⟨i,z⟩;refine⟨0,λm hm=>absurd hm (Nat.not_lt_zero _),.inl ⟨hn,?_⟩⟩;rw[probe.go,zb7 hd hn]
   rfl
end Tab
namespace Tab
open PySem PySem.SetTable
theorem z3z:∀{l l':List Nat},l.Nodup->(∀x∈l,x∈l')->l.length<=l'.length
 | [],_,_,_=>Nat.zero_le _
 | a::l,l',h,hs=>by
  obtain⟨h1,h2⟩:=List.nodup_cons.mp h;have ha:=hs a (by simp);have:=z3z (l:=l) (l':=l'.erase a) h2 λx hx=>(List.mem_erase_of_ne (λ(z:x=a)=>h1 (z ▸ hx))).mpr (hs x (by simp[hx]));rw[List.length_erase_of_mem ha] at this;have hp:0<l'.length:=List.length_pos_of_mem ha;simp only[List.length_cons];lia
theorem z59:∀{l l':List Nat},l.Nodup->l'.Nodup->(∀x,x∈l↔x∈l')->l.Perm l'
 | [],l',_,_,h=>by
  cases l' with
  | nil=>exact List.Perm.refl _
  | cons b l'=>exact absurd ((h b).mpr (by simp)) (by simp)
 | a::l,l',h1,h2,h=>by
  obtain⟨n1,n2⟩:=List.nodup_cons.mp h1;have ha:a∈l':=(h a).mp (by simp);have p:=z59 (l:=l) (l':=l'.erase a) n2 (h2.erase a) λx=>by
   constructor
   ·intro hx;exact(List.mem_erase_of_ne (λ(z:x=a)=>n1 (z ▸ hx))).mpr ((h x).mp (by simp[hx]))
   ·intro hx;have hne:x≠a:=λz=>by
     subst z;exact(List.Nodup.not_mem_erase h2) hx
    rcases List.mem_cons.mp ((h x).mpr (List.mem_of_mem_erase hx)) with z | z
    ·exact absurd z hne
    ·exact z
  exact(List.Perm.cons a p).trans (List.perm_cons_erase ha).symm
variable {α:Type}
noncomputable abbrev Rw (α:Type):=Nat × Int × α
noncomputable def zbK (mask:Nat)(occ:Nat->Prop)(h:Int)(j:Nat):Prop:=∃n,(advs mask (probeStart { mask:=mask,place := #[],dummies := #[],finger:=0,led:=true,moves:=0,plain:=true } h) n).j=j/\∀m,m<n->occ (advs mask (probeStart { mask:=mask,place := #[],dummies := #[],finger:=0,led:=true,moves:=0,plain:=true } h) m).j
noncomputable abbrev st0 (mask:Nat)(h:Int):Probe:=probeStart { mask:=mask,place := #[],dummies := #[],finger:=0,led:=true,moves:=0,plain:=true } h
theorem zbK.mono {mask:Nat}{occ occ':Nat->Prop}{h:Int}{j:Nat}(x:zbK mask occ h j)(i:∀a,occ a->occ' a):zbK mask occ' h j:=by
 obtain⟨n,h1,h2⟩:=x;exact⟨n,h1,λm hm=>i _ (h2 m hm)⟩
structure TabW (t:SetTable)(es:Array (Int × α))(L:List (Rw α)):Prop where
 place:t.place=(L.map (·.1)).toArray
 es:es=(L.map (·.2)).toArray
 rise:L.Pairwise λa b=>a.1<b.1
 le:∀r∈L,r.1<=t.mask
 dum:t.dummies = #[]
 pow:∃k,3<=k/\t.mask+1=2 ^ k
 reach:∀r∈L,zbK t.mask (λj=>∃r'∈L,r'.1=j) r.2.1 r.1
theorem TabW.occ {t:SetTable}{es:Array (Int × α)}{L:List (Rw α)}(w:TabW t es L){j:Nat}:(∃i:Nat,t.place[i]? = some j)↔∃r∈L,r.1=j:=by
 rw[w.place]
 constructor
 ·rintro⟨i,h⟩;have h':(L.map (·.1))[i]? = some j:=by simpa using h
  obtain⟨r,hr,e⟩:=List.mem_map.mp (List.mem_of_getElem? h');exact⟨r,hr,e⟩
 ·rintro⟨r,hr,rfl⟩;obtain⟨i,hi,e⟩:=List.mem_iff_getElem.mp hr;exact⟨i,by simp[hi,e]⟩
theorem TabW.riseP {t:SetTable}{es:Array (Int × α)}{L:List (Rw α)}(w:TabW t es L):Rise t.place:=by
 rw[w.place];intro a b hab hb;have hb':b<L.length:=by simpa using hb
 have:=List.pairwise_iff_getElem.mp w.rise a b (by lia) hb' hab;simpa[Array.getD,show a<L.length by lia,hb'] using this
theorem TabW.size {t:SetTable}{es:Array (Int × α)}{L:List (Rw α)}(w:TabW t es L):t.place.size=L.length/\es.size=L.length/\t.fill=L.length:=by
 refine⟨by rw[w.place]; simp,by rw[w.es]; simp,?_⟩;unfold fill;rw[w.place,w.dum];simp
theorem TabW.nodup {t:SetTable}{es:Array (Int × α)}{L:List (Rw α)}(w:TabW t es L):(L.map (·.1)).Nodup:=by
 rw[List.nodup_iff_pairwise_ne,List.pairwise_map];exact w.rise.imp λh=>Nat.ne_of_lt h
theorem TabW.room {t:SetTable}{es:Array (Int × α)}{L:List (Rw α)}(w:TabW t es L)(h:L.length<=t.mask):∃e,e<=t.mask/\¬ ∃r∈L,r.1=e:=by
 refine Classical.byContradiction λhno =>?_;have all:∀e,e<=t.mask->∃r∈L,r.1=e:=λe he=>Classical.byContradiction λz=>hno ⟨e,he,z⟩;have:=z3z (l:=List.range (t.mask+1)) (l':=L.map (·.1)) List.nodup_range λx hx=>by
  obtain⟨r,hr,e⟩:=all x (by have:=List.mem_range.mp hx; lia);exact List.mem_map.mpr ⟨r,hr,e⟩
 simp at this;lia
theorem TabW.probe {t:SetTable}{es:Array (Int × α)}{L:List (Rw α)}(w:TabW t es L)(hroom:L.length<=t.mask)(hashAt:Nat->Int)(h:Int)(n:Nat):
  ∃s,(∀m,n<=m->m<n+s->∃i:Nat,t.place[i]? = some (advs t.mask (st0 t.mask h) m).j/\hashAt i≠h)/\
   (((∀i:Nat,t.place[i]? ≠ some (advs t.mask (st0 t.mask h) (n+s)).j)/\t.probe hashAt h (advs t.mask (st0 t.mask h) n)=some (.empty (advs t.mask (st0 t.mask h) (n+s)).j none))\/
    ∃i:Nat,t.place[i]? = some (advs t.mask (st0 t.mask h) (n+s)).j/\hashAt i=h/\t.probe hashAt h (advs t.mask (st0 t.mask h) n)=some (.candidate (advs t.mask (st0 t.mask h) (n+s)).j i (advs t.mask (st0 t.mask h) (n+s+1)))):=by
 obtain⟨e,he,hne⟩:=w.room hroom;obtain⟨k,_,hk⟩:=w.pow;have ok:=zaj (mask:=t.mask) (z51 t h).1 (z51 t h).2 n;obtain⟨s0,hs0,e0⟩:=zc1 (p:=advs t.mask (st0 t.mask h) n) hk ok.1 ok.2 he;obtain⟨s,h1,h2⟩:=zaA w.dum w.riseP hashAt h (10*turns t.mask) (advs t.mask (st0 t.mask h) n) ⟨s0,hs0,λi z=>by
  rw[e0] at z;exact hne (w.occ.mp ⟨i,z⟩)⟩
 refine⟨s,λm hm1 hm2 =>?_,?_⟩
 ·obtain⟨d,rfl⟩:∃d,m=n+d:=⟨m - n,by lia⟩
  rw[z33];exact h1 d (by lia)
 ·rw[Nat.add_assoc,z33,z33];rw[z82] at h2;exact h2
theorem TabW.soon {t:SetTable}{es:Array (Int × α)}{L:List (Rw α)}(w:TabW t es L)(hroom:L.length<=t.mask)(h:Int):∃N,N<10*turns t.mask/\¬ ∃r∈L,r.1=(advs t.mask (st0 t.mask h) N).j:=by
 obtain⟨e,he,hne⟩:=w.room hroom;obtain⟨k,_,hk⟩:=w.pow;obtain⟨s0,hs0,e0⟩:=zc1 (p:=st0 t.mask h) hk (z51 t h).1 (z51 t h).2 he;exact⟨s0,hs0,by rw[e0]; exact hne⟩
noncomputable def ins (L:List (Rw α))(p:Nat)(r:Rw α):List (Rw α):=L.take p++r::L.drop p
theorem z8u {L:List (Rw α)}{p:Nat}{r x:Rw α}:x∈ins L p r↔x=r\/x∈L:=by
 unfold ins;rw[List.mem_append,List.mem_cons]
 constructor
 ·rintro(h | h | h)
  ·exact .inr (List.mem_of_mem_take h)
  ·exact .inl h
  ·exact .inr (List.mem_of_mem_drop h)
 ·rintro(h | h)
  ·exact .inr (.inl h)
  ·rw[<- List.take_append_drop p L,List.mem_append] at h
   rcases h with h | h
   ·exact .inl h
   ·exact .inr (.inr h)
theorem z5j {β:Type}(l:List β){p:Nat}(x:β):insertAt l.toArray p x=(l.take p++x::l.drop p).toArray:=by
 unfold insertAt;apply Array.ext';simp;exact List.take_of_length_le (by simp)
theorem TabW.put {t:SetTable}{es:Array (Int × α)}{L:List (Rw α)}(w:TabW t es L){h:Int}{x:α}{n:Nat}(hocc:∀m,m<n->∃r∈L,r.1=(advs t.mask (st0 t.mask h) m).j)(hemp:¬ ∃r∈L,r.1=(advs t.mask (st0 t.mask h) n).j)(hle:(advs t.mask (st0 t.mask h) n).j<=t.mask):
  TabW (t.put (advs t.mask (st0 t.mask h) n).j).1 (insertAt es (t.put (advs t.mask (st0 t.mask h) n).j).2 (h,x)) (ins L (t.put (advs t.mask (st0 t.mask h) n).j).2 ((advs t.mask (st0 t.mask h) n).j,h,x)):=by
 generalize hj:(advs t.mask (st0 t.mask h) n).j=j at*;obtain⟨b1,b2,b3⟩:=z61 w.riseP j;have hp:(t.put j).2=below t.place j:=rfl;rw[hp];generalize hq:below t.place j=p at*;have hpl:p<=L.length:=by rw[<- w.size.1]; exact b1
 have at':∀i (hi:i<L.length),t.place.getD i 0=(L[i]).1:=λi hi=>by rw[w.place]; simp[Array.getD,hi]
 have lo:∀r∈L.take p,r.1<j:=λr hr=>by
  obtain⟨i,hi,rfl⟩:=List.mem_iff_getElem.mp hr;have hi':i<p/\i<L.length:=by simp at hi; lia
  have:=b2 i hi'.1;rw[at' i hi'.2] at this;simpa using this
 have hi:∀r∈L.drop p,j<r.1:=λr hr=>by
  obtain⟨i,hi,rfl⟩:=List.mem_iff_getElem.mp hr;have hi':p+i<L.length:=by simp at hi; lia
  have h1:=b3 (p+i) (by lia) (by rw[w.size.1]; exact hi');rw[at' _ hi'] at h1;have h2:(L[p+i]).1≠j:=λz=>hemp ⟨L[p+i],List.getElem_mem hi',z⟩;simp only[List.getElem_drop];lia
 have hdum:(t.put j).1.dummies = #[]:=by
  show (if has t.dummies j then eraseAt t.dummies (below t.dummies j) else t.dummies) = #[];rw[w.dum];simp[has]
 refine⟨?_,?_,?_,λr hr =>?_,hdum,w.pow,λr hr =>?_⟩
 ·show insertAt t.place (below t.place j) j=_;rw[hq,w.place,z5j];unfold ins;rw[List.map_append,List.map_cons,List.map_take,List.map_drop]
 ·rw[w.es,z5j];unfold ins;rw[List.map_append,List.map_cons,List.map_take,List.map_drop]
 ·unfold ins;rw[List.pairwise_append];have pw:=w.rise;rw[<- List.take_append_drop p L,List.pairwise_append] at pw;refine⟨pw.1,List.pairwise_cons.mpr ⟨λr hr=>hi r hr,pw.2.1⟩,λa ha b hb =>?_⟩
  rcases List.mem_cons.mp hb with rfl | hb
  ·exact lo a ha
  ·exact pw.2.2 a ha b hb
 ·show r.1<=t.mask
  rcases z8u.mp hr with rfl | hr
  ·exact hle
  ·exact w.le r hr
 ·show zbK t.mask _ r.2.1 r.1
  rcases z8u.mp hr with rfl | hr
  ·exact⟨n,hj,λm hm=>by
    obtain⟨r',hr',e⟩:=hocc m hm;exact⟨r',z8u.mpr (.inr hr'),e⟩⟩
  ·exact(w.reach r hr).mono λa ⟨r',hr',e⟩=>⟨r',z8u.mpr (.inr hr'),e⟩
theorem j_le {mask:Nat}:∀(n:Nat) {p:Probe},p.j+p.more<=mask->(advs mask p n).j+(advs mask p n).more<=mask
 | 0,_,h=>h
 | n+1,p,h=>by
  have ih:=j_le n h;show (adv mask (advs mask p n)).j+(adv mask (advs mask p n)).more<=mask;unfold adv
  split
  ·show (advs mask p n).j+1+((advs mask p n).more - 1)<=mask; lia
  ·have hl:(leap mask (advs mask p n).i (advs mask p n).perturb).1<=mask:=Nat.le_of_lt_succ (Nat.mod_lt _ (Nat.succ_pos _));show (leap mask (advs mask p n).i (advs mask p n).perturb).1+(runEnd mask (leap mask (advs mask p n).i (advs mask p n).perturb).1 - (leap mask (advs mask p n).i (advs mask p n).perturb).1)<=mask;generalize (leap mask (advs mask p n).i (advs mask p n).perturb).1=x at hl;unfold runEnd
   split <;> lia
theorem zbZ (mask:Nat)(h:Int)(n:Nat):(advs mask (st0 mask h) n).j<=mask:=by
 have:(st0 mask h).j+(st0 mask h).more<=mask:=by
  show bits h % (mask+1)+(runEnd mask (bits h % (mask+1)) - bits h % (mask+1))<=mask;have hl:bits h % (mask+1)<=mask:=Nat.le_of_lt_succ (Nat.mod_lt _ (Nat.succ_pos _));generalize bits h % (mask+1)=x at hl;unfold runEnd
  split <;> lia
 have:=j_le n this;lia
end Tab
namespace Tab
open PySem PySem.SetTable
variable {α:Type}
noncomputable def rp (mask i q:Nat):Probe:={ j:=i,more:=runEnd mask i - i,i:=i,perturb:=q,dummy:=none }
theorem zh3 (mask:Nat)(h:Int):st0 mask h=rp mask (bits h % (mask+1)) (bits h):=rfl
theorem zc8 (mask i q:Nat):advs mask (rp mask i q) (runEnd mask i - i+1)=rp mask (leap mask i q).1 (leap mask i q).2:=z4o mask (rp mask i q)
theorem zdE (mask i q:Nat){m:Nat}(h:m<=runEnd mask i - i):(advs mask (rp mask i q) m).j=i+m:=by rw[z8K mask (rp mask i q) m h]; rfl
theorem zhg (mask i:Nat):i<=runEnd mask i:=by unfold runEnd; split <;> lia
theorem z9p {mask:Nat}{owner:Array (Option Nat)}:∀(fuel i q:Nat),(∃c,c<fuel/\(owner.getD (lp mask i q c).1 (some 0)).isNone=true)->
  ∃s,layClean.free mask owner fuel i q=some (advs mask (rp mask i q) s).j/\(owner.getD (advs mask (rp mask i q) s).j (some 0)).isNone=true/\∀m,m<s->(owner.getD (advs mask (rp mask i q) m).j (some 0)).isNone=false
 | 0,i,q,⟨c,hc,_⟩=>absurd hc (Nat.not_lt_zero _)
 | fuel+1,i,q,⟨c,hc,he⟩=>by
  rw[layClean.free];have hge:=zhg mask i
  cases hf:(List.range (runEnd mask i+1 - i)).find? λk=>(owner.getD (i+k) (some 0)).isNone with
  | some k=>
   obtain⟨h1,h2,h3⟩:=List.find?_range_eq_some.mp hf;have hk:k<runEnd mask i+1 - i:=by simpa using h2
   dsimp only;refine⟨k,by rw[zdE mask i q (by lia)],by rw[zdE mask i q (by lia)]; exact h1,λm hm =>?_⟩;rw[zdE mask i q (by lia)];have:=h3 m hm;simpa using this
  | none=>
   have hn:=List.find?_range_eq_none.mp hf;have all:∀k,k<=runEnd mask i - i->(owner.getD (i+k) (some 0)).isNone=false:=λk hk=>by
    have:=hn k (by lia);simpa using this
   have hc0:c≠0:=λz=>by
    subst z;have:=all 0 (Nat.zero_le _);rw[Nat.add_zero] at this;have he':(owner.getD i (some 0)).isNone=true:=he;rw[this] at he'
    cases he'
   obtain⟨c',rfl⟩:∃c',c=c'+1:=⟨c - 1,by lia⟩
   rw[zcK] at he;obtain⟨s,h1,h2,h3⟩:=z9p fuel _ _ ⟨c',by lia,he⟩;rw[<- zc8, <- z33] at h1 h2;dsimp only;refine⟨runEnd mask i - i+1+s,h1,h2,λm hm =>?_⟩
   rcases Nat.lt_or_ge m (runEnd mask i - i+1) with z | z
   ·rw[zdE mask i q (by lia)];exact all m (by lia)
   ·obtain⟨d,rfl⟩:∃d,m=runEnd mask i - i+1+d:=⟨m - (runEnd mask i - i+1),by lia⟩
    rw[z33,zc8];exact h3 d (by lia)
structure Own (mask:Nat)(hs:List Int)(owner:Array (Option Nat))(pos:List Nat):Prop where
 size:owner.size=mask+1
 len:pos.length=hs.length
 le:∀j∈pos,j<=mask
 nd:pos.Nodup
 own:∀j,j<=mask->∀k,owner.getD j (some 0)=some k↔pos[k]? = some j
 reach:∀(k:Nat) (h:Int) (j:Nat),hs[k]? = some h->pos[k]? = some j->zbK mask (· ∈ pos) h j
theorem Own.free {mask:Nat}{hs:List Int}{owner:Array (Option Nat)}{pos:List Nat}(o:Own mask hs owner pos){j:Nat}(hj:j<=mask):(owner.getD j (some 0)).isNone=true↔j ∉ pos:=by
 constructor
 ·intro h z;obtain⟨k,hk,e⟩:=List.mem_iff_getElem.mp z;have:=(o.own j hj k).mpr (by rw[List.getElem?_eq_getElem hk,e]);rw[this] at h
  cases h
 ·intro h
  cases e:owner.getD j (some 0) with
  | none=>rfl
  | some k=>exact absurd (List.mem_of_getElem? ((o.own j hj k).mp e)) h
theorem Own.add {mask k:Nat}{hs:List Int}{owner:Array (Option Nat)}{pos:List Nat}(o:Own mask hs owner pos)(hm:mask+1=2 ^ k)(hroom:hs.length<=mask)(h:Int):
  ∃j,layClean.free mask owner (turns mask) (bits h % (mask+1)) (bits h)=some j/\Own mask (hs++[h]) (owner.setIfInBounds j (some hs.length)) (pos++[j]):=by
 have hex:∃e,e<=mask/\e ∉ pos:=by
  refine Classical.byContradiction λhno =>?_;have:=z3z (l:=List.range (mask+1)) (l':=pos) List.nodup_range λx hx=>Classical.byContradiction λz=>hno ⟨x,by have:=List.mem_range.mp hx; lia,z⟩;rw[List.length_range,o.len] at this;lia
 obtain⟨e,he,hne⟩:=hex;have hq:bits h<2 ^ 64:=(z51 { mask:=mask,place := #[],dummies := #[],finger:=0,led:=true,moves:=0,plain:=true } h).1;obtain⟨c,c1,c2,c3⟩:=zeN (i:=bits h % (mask+1)) (q:=bits h) hm hq he;obtain⟨s,h1,h2,h3⟩:=z9p (mask:=mask) (owner:=owner) (turns mask) (bits h % (mask+1)) (bits h) ⟨c,by unfold turns; lia,by rw[c3]; exact(o.free he).mpr hne⟩;rw[<- zh3] at h1 h2 h3;have hjl:=zbZ mask h s;refine⟨_,h1,?_⟩;generalize hj:(advs mask (st0 mask h) s).j=j at*;have hjn:j ∉ pos:=(o.free hjl).mp h2;refine⟨by rw[Array.size_setIfInBounds]; exact o.size,by rw[List.length_append,List.length_append,o.len]; rfl,λx hx =>?_,?_,λx hx n =>?_,λn h' j' e1 e2 =>?_⟩
 ·rcases List.mem_append.mp hx with z | z
  ·exact o.le x z
  ·rw[List.mem_singleton.mp z]; exact hjl
 ·rw[List.nodup_append];exact⟨o.nd,by simp,λa ha b hb z=>hjn (by rw[List.mem_singleton.mp hb] at z; exact z ▸ ha)⟩
 ·have hxs:x<owner.size:=by rw[o.size]; lia
  have e0:(owner.setIfInBounds j (some hs.length)).getD x (some 0)=if j=x then some hs.length else owner.getD x (some 0):=by
   have hjs:j<owner.size:=by rw[o.size]; lia
   rw[Array.getD_eq_getD_getElem?, Array.getD_eq_getD_getElem?, Array.getElem?_setIfInBounds]
   by_cases hxj:j=x
   ·subst hxj; rw[if_pos rfl,if_pos hjs,if_pos rfl]; rfl
   ·rw[if_neg hxj,if_neg hxj]
  rw[e0]
  by_cases hxj:j=x
  ·subst hxj;rw[if_pos rfl]
   constructor
   ·intro z;have:hs.length=n:=Option.some.inj z;rw[<- this, <- o.len,List.getElem?_append_right (Nat.le_refl _)];simp
   ·intro z
    rcases Nat.lt_or_ge n pos.length with hl | hl
    ·rw[List.getElem?_append_left hl] at z;exact absurd (List.mem_of_getElem? z) hjn
    ·rw[List.getElem?_append_right hl] at z;have hn0:n - pos.length=0:=by
      rcases Nat.eq_zero_or_pos (n - pos.length) with w | w
      ·exact w
      ·rw[List.getElem?_eq_none (by show 1<=_; lia)] at z; cases z
     rw[<- o.len]
     congr 1
     lia
  ·rw[if_neg hxj,o.own x hx n]
   constructor
   ·intro z;obtain⟨hn,_⟩:=List.getElem?_eq_some_iff.mp z;rw[List.getElem?_append_left hn]; exact z
   ·intro z
    rcases Nat.lt_or_ge n pos.length with hl | hl
    ·rw[List.getElem?_append_left hl] at z; exact z
    ·rw[List.getElem?_append_right hl] at z;exact absurd (List.mem_singleton.mp (List.mem_of_getElem? z)).symm hxj
 ·rcases Nat.lt_or_ge n pos.length with hl | hl
  ·rw[List.getElem?_append_left hl] at e2;rw[List.getElem?_append_left (by rw[<- o.len]; exact hl)] at e1;exact(o.reach n h' j' e1 e2).mono λa ha=>List.mem_append_left _ ha
  ·rw[List.getElem?_append_right hl] at e2;rw[List.getElem?_append_right (by rw[<- o.len]; exact hl)] at e1;have z1:=List.mem_singleton.mp (List.mem_of_getElem? e1);have z2:=List.mem_singleton.mp (List.mem_of_getElem? e2);subst z1 z2;refine⟨s,hj,λm hm=>List.mem_append_left _ ?_⟩;have:=h3 m hm;refine Classical.byContradiction λz =>?_;rw[(o.free (zbZ mask h' m)).mpr z] at this
   cases this
theorem z6V {mask k:Nat}(hm:mask+1=2 ^ k):∀(hs done:List Int) (owner:Array (Option Nat)) (pos:List Nat),Own mask done owner pos->done.length+hs.length<=mask+1->
  ∃owner' pos',(hs.foldl (init:=some (owner,done.length)) λacc h=>do
   let (owner,k) <- acc
   let j <- layClean.free mask owner (turns mask) (bits h % (mask+1)) (bits h)
   pure (owner.setIfInBounds j (some k),k+1))=some (owner',done.length+hs.length)/\Own mask (done++hs) owner' pos'
 | [],done,owner,pos,o,_=>⟨owner,pos,rfl,by rw[List.append_nil]; exact o⟩
 | h::hs,done,owner,pos,o,hl=>by
  simp only[List.length_cons] at hl;obtain⟨j,e,o'⟩:=o.add hm (by lia) h;obtain⟨ow,ps,e2,o2⟩:=z6V hm hs (done++[h]) _ _ o' (by simp; lia);refine⟨ow,ps,?_,by simpa using o2⟩;rw[List.foldl_cons];have:(do
   let (owner,k) <- some (owner,done.length)
   let j <- layClean.free mask owner (turns mask) (bits h % (mask+1)) (bits h)
   pure (owner.setIfInBounds j (some k),k+1))=some (owner.setIfInBounds j (some done.length),(done++[h]).length):=by
   simp[e]
  rw[this,e2];simp;lia
theorem own0 (mask:Nat):Own mask [] (Array.replicate (mask+1) none) []:=by
 refine⟨by simp,rfl,by simp,by simp,λj hj k =>?_,λk h j e _=>by simp at e⟩;have:(Array.replicate (mask+1) (none:Option Nat)).getD j (some 0)=none:=by simp[Array.getD,show j<mask+1 by lia]
 rw[this];simp
theorem zgu {mask k finger moves:Nat}{led plain:Bool}(hm:mask+1=2 ^ k)(hk:3<=k){es:Array (Int × α)}(hl:es.size<=mask+1):
  ∃t' z21 L',laid mask finger moves led plain (es.map (·.1))=some (t',z21)/\t'.mask=mask/\t'.finger=finger/\t'.moves=moves/\t'.led=led/\t'.plain=plain/\(z21.filterMap (es[·]?)).size=es.size/\TabW t' (z21.filterMap (es[·]?)) L'/\(z21.filterMap (es[·]?)).toList.Perm es.toList:=by
 obtain⟨owner,pos,e,o⟩:=z6V hm (es.map (·.1)).toList [] _ _ (own0 mask) (by simpa using hl);simp only[List.nil_append,List.length_nil,Nat.zero_add] at e o;have hlay:layClean mask (es.map (·.1))=some owner:=by
  unfold layClean;rw[<- Array.foldl_toList,e]
  rfl
 have hn:(es.map (·.1)).toList.length=es.size:=by simp
 have hpl:pos.length=es.size:=by rw[o.len,hn]
 generalize hlive:((List.range (mask+1)).filterMap λj=>(owner.getD j none).map (j, ·))=live;have gd:∀j,j<=mask->owner.getD j none=owner.getD j (some 0):=λj hj=>by
  have:j<owner.size:=by rw[o.size]; lia
  simp[Array.getD,this]
 have mem:∀j n,(j,n)∈live↔pos[n]? = some j:=λj n=>by
  rw[<- hlive,List.mem_filterMap]
  constructor
  ·rintro⟨x,hx,e⟩;have hx':x<=mask:=by have:=List.mem_range.mp hx; lia
   rw[gd x hx'] at e;obtain⟨y,hy,e2⟩:=Option.map_eq_some_iff.mp e
   cases e2
   exact(o.own j hx' n).mp hy
  ·intro h;have hj:j<=mask:=o.le j (List.mem_of_getElem? h);refine⟨j,List.mem_range.mpr (by lia),?_⟩;rw[gd j hj,(o.own j hj n).mpr h]
   rfl
 have sorted:live.Pairwise λa b=>a.1<b.1:=by
  rw[<- hlive];have h1:(List.range (mask+1)).Pairwise (· < ·):=List.pairwise_lt_range;generalize List.range (mask+1)=rg at h1
  induction rg with
  | nil=>simp
  | cons x rg ih=>
   obtain⟨p1,p2⟩:=List.pairwise_cons.mp h1;rw[List.filterMap_cons]
   cases hx:(owner.getD x none).map (x, ·) with
   | none=>exact ih p2
   | some y=>
    obtain⟨z,_,rfl⟩:=Option.map_eq_some_iff.mp hx;refine List.pairwise_cons.mpr ⟨λb hb =>?_,ih p2⟩;obtain⟨x',hx',e'⟩:=List.mem_filterMap.mp hb;obtain⟨z',_,rfl⟩:=Option.map_eq_some_iff.mp e';exact p1 x' hx'
 have nd2:(live.map (·.2)).Nodup:=by
  rw[List.nodup_iff_pairwise_ne,List.pairwise_map];refine List.Pairwise.imp_of_mem ?_ sorted;intro a b ha hb hab z;have h1:=(mem a.1 a.2).mp ha;have h2:=(mem b.1 b.2).mp hb;rw[<- z,h1] at h2;have:a.1=b.1:=Option.some.inj h2;lia
 have perm:(live.map (·.2)).Perm (List.range es.size):=by
  refine z59 nd2 List.nodup_range λn =>?_;rw[List.mem_range]
  constructor
  ·intro h;obtain⟨a,ha,rfl⟩:=List.mem_map.mp h;obtain⟨hlt,_⟩:=List.getElem?_eq_some_iff.mp ((mem a.1 a.2).mp ha);lia
  ·intro h;refine List.mem_map.mpr ⟨(pos[n]'(by lia),n),(mem _ _).mpr (List.getElem?_eq_getElem (by lia)),rfl⟩
 have self:(List.range es.size).filterMap (es[·]?)=es.toList:=by
  have:∀(l:List (Int × α)),(List.range l.length).filterMap (l[·]?)=l:=λl=>by
   have e1:(List.range l.length).map (l[·]?)=l.map some:=by
    apply List.ext_getElem
    ·simp
    ·intro i h1 h2;simp at h1;simp[h1]
   have e2:(List.range l.length).filterMap (l[·]?)=((List.range l.length).map (l[·]?)).filterMap id:=by rw[List.filterMap_map]; rfl
   rw[e2,e1,List.filterMap_map];simp
  have h:=this es.toList;simpa using h
 have pe:(((live.map (·.2)).toArray).filterMap (es[·]?)).toList.Perm es.toList:=by
  have:=perm.filterMap (es[·]?);rw[self] at this;simpa using this
 refine⟨{ mask,place:=(live.map (·.1)).toArray,dummies := #[],finger,led,moves,plain },(live.map (·.2)).toArray,live.filterMap λa=>(es[a.2]?).map λx=>(a.1,x),?_,rfl,rfl,rfl,rfl,rfl,?_,?_,pe⟩
 ·unfold laid;rw[hlay];simp only[Option.bind_eq_bind,Option.bind_some];rw[hlive]
  rfl
 ·have:=pe.length_eq;simpa using this
 ·-- each live row has an element
  have has:∀a∈live,∃x,es[a.2]? = some x:=λa ha=>by
   obtain⟨hlt,_⟩:=List.getElem?_eq_some_iff.mp ((mem a.1 a.2).mp ha);exact⟨es[a.2]'(by lia),Array.getElem?_eq_getElem (by lia)⟩
  have e1:∀(l:List (Nat × Nat)),(∀a∈l,∃x,es[a.2]? = some x)->(l.filterMap λa=>(es[a.2]?).map λx=>(a.1,x)).map (·.1)=l.map (·.1)/\(l.filterMap λa=>(es[a.2]?).map λx=>(a.1,x)).map (·.2)=(l.map (·.2)).filterMap (es[·]?):=λl=>by
   induction l with
   | nil=>intro _; exact⟨rfl,rfl⟩
   | cons a l ih=>
    intro h;obtain⟨x,hx⟩:=h a (by simp);obtain⟨i1,i2⟩:=ih λb hb=>h b (by simp[hb]);refine⟨?_,?_⟩
    ·rw[List.filterMap_cons,hx]; simp only[Option.map_some,List.map_cons]; rw[i1]
    ·rw[List.filterMap_cons,hx]; simp only[Option.map_some,List.map_cons,List.filterMap_cons,hx]; rw[i2]
  have memL:∀r:Rw α,r∈(live.filterMap λa=>(es[a.2]?).map λx=>(a.1,x))->∃n,pos[n]? = some r.1/\es[n]? = some r.2:=λr hr=>by
   obtain⟨a,ha,e⟩:=List.mem_filterMap.mp hr;obtain⟨x,hx,rfl⟩:=Option.map_eq_some_iff.mp e;exact⟨a.2,(mem a.1 a.2).mp ha,hx⟩
  have occ:∀j,j∈pos->∃r'∈(live.filterMap λa=>(es[a.2]?).map λx=>(a.1,x)),r'.1=j:=λj hj=>by
   obtain⟨n,hn',e⟩:=List.mem_iff_getElem.mp hj;have hlv:(j,n)∈live:=(mem j n).mpr (by rw[List.getElem?_eq_getElem hn',e]);obtain⟨x,hx⟩:=has _ hlv;exact⟨(j,x),List.mem_filterMap.mpr ⟨(j,n),hlv,by rw[show es[(j,n).2]? = some x from hx]; rfl⟩,rfl⟩
  refine⟨by rw[(e1 live has).1],?_,?_,λr hr =>?_,rfl,⟨k,hk,hm⟩,λr hr =>?_⟩
  ·rw[(e1 live has).2];apply Array.ext';simp
  ·have:((live.filterMap λa=>(es[a.2]?).map λx=>(a.1,x)).map (·.1)).Pairwise (· < ·):=by
    rw[(e1 live has).1,List.pairwise_map];exact sorted
   rw[List.pairwise_map] at this;exact this
  ·obtain⟨n,h1,_⟩:=memL r hr;exact o.le r.1 (List.mem_of_getElem? h1)
  ·obtain⟨n,h1,h2⟩:=memL r hr;exact(o.reach n r.2.1 r.1 (by simp[h2]) h1).mono λa ha=>occ a ha
end Tab
namespace Tab
open PySem PySem.SetTable PyProof.Rows
section
variable {prog:Program}{w:World}{A:Around}{E:Value->Shared->Prop}{s:Shared}
noncomputable abbrev TK (prog:Program)(w:World)(h:Heap)(k:List Int)(a:Addr):Prop:=IsTupleKey (intKind prog w) h k a
theorem z9X {n:Nat}{v:Value}(h:carriedByValue v=true):ofAClassStatement n v=pure false:=by
 cases v with
 | ref a=>simp[carriedByValue] at h
 | _=>first | rfl | (unfold ofAClassStatement; rfl) | (cases n <;> rfl)
theorem z2B {ks:List Int}{a:Addr}{Q:Bool->Shared->Prop}(hk:TK prog w s.heap ks a)(h:Q false s):wpAny (model prog w) A (ofAClassStatement 8 (.ref a)) Q E s:=by
 have hT:=hk.typeIs;obtain⟨o,z06,n,ho,_,hd,hi⟩:=hk;unfold ofAClassStatement;refine wpAny_bind (wpAny_typeOf hT ?_);dsimp only;rw[if_pos (by decide)];refine wpAny_bind (wpAny_pure ?_);simp only[Bool.not_true,Bool.false_eq_true,if_false];refine wpAny_bind (wpAny_seqItems ho hd ?_);refine wpAny_bind ?_;show wpAny _ _ (forIn z06 _ _) _ _ s;rw[<- Array.forIn_toList];refine wpAny_forIn_list _ (λrest r s'=>r.1=none/\s'=s/\∀v∈rest,carriedByValue v=true) _ ?_ ?_ _ _ ⟨rfl,rfl,hi.byValue⟩
 ·rintro v rest r s' ⟨hr,rfl,hall⟩;rw[z9X (hall v List.mem_cons_self)];refine wpAny_bind (wpAny_pure ?_);simp only[Bool.false_eq_true,if_false];exact wpAny_pure ⟨rfl,rfl,λu hu'=>hall u (List.mem_cons_of_mem _ hu')⟩
 ·rintro⟨r1,r2⟩ s' ⟨hr,rfl,_⟩;simp only at hr;subst hr;exact wpAny_pure h
theorem zbs {n:Nat}{k:Int}{v:Value}(h:(intKind prog w).is k v=true):hashByValue n v=pure true:=by
 obtain⟨t,rfl⟩:=Value.isInt_shape h
 cases n <;> rfl
theorem z50 {ks:List Int}{a:Addr}{Q:Bool->Shared->Prop}(hk:TK prog w s.heap ks a)(h:Q true s):wpAny (model prog w) A (hashByValue 8 (.ref a)) Q E s:=by
 have hT:=hk.typeIs;obtain⟨o,z06,n,ho,_,hd,hi⟩:=hk;unfold hashByValue;refine wpAny_bind (wpAny_specialOf hT F.slot_tuple_hash.lookup ?_);dsimp only;refine wpAny_bind (wpAny_seqItems ho hd ?_);refine wpAny_bind ?_;show wpAny _ _ (forIn z06 _ _) _ _ s;rw[<- Array.forIn_toList];refine wpAny_forIn_list _ (λrest r s'=>r.1=none/\s'=s/\∃l,ItemsAre (intKind prog w) l rest) _ ?_ ?_ _ _ ⟨rfl,rfl,ks,hi⟩
 ·rintro v rest r s' ⟨hr,rfl,l,hl⟩
  cases hl with
  | cons h1 h2=>
   rw[zbs h1];refine wpAny_bind (wpAny_pure ?_);simp only[Bool.not_true,Bool.false_eq_true,if_false];exact wpAny_pure ⟨rfl,rfl,_,h2⟩
 ·rintro⟨r1,r2⟩ s' ⟨hr,rfl,_⟩;simp only at hr;subst hr;exact wpAny_pure h
theorem zb3 {ks:List Int}{a:Addr}{stored:List Value}{Q:Bool->Shared->Prop}(hk:TK prog w s.heap ks a)(hst:∀y∈stored,∃b k,y = .ref b/\TK prog w s.heap k b)(h:Q false s):wpAny (model prog w) A (searchCouldBeSeen (.ref a) stored) Q E s:=by
 unfold searchCouldBeSeen;refine wpAny_bind ?_;refine wpAny_forIn_list _ (λrest r s'=>r.1=none/\s'=s/\∀y∈rest,∃b k,y = .ref b/\TK prog w s.heap k b) _ ?_ ?_ _ _ ⟨rfl,rfl,hst⟩
 ·rintro y rest r s' ⟨hr,rfl,hall⟩;obtain⟨b,k,rfl,hb⟩:=hall y List.mem_cons_self;dsimp only
  split
  ·exact wpAny_pure ⟨rfl,rfl,λu hu=>hall u (List.mem_cons_of_mem _ hu)⟩
  ·refine wpAny_bind (wpAny_eqIsQuiet_tuple hk ?_);simp only[Bool.not_true,Bool.false_eq_true,if_false];refine wpAny_bind (wpAny_eqIsQuiet_tuple hb ?_);simp only[Bool.not_true,Bool.false_eq_true,if_false];refine wpAny_bind (z2B hk ?_);simp only[Bool.false_eq_true,if_false];refine wpAny_bind (z2B hb ?_);simp only[Bool.false_eq_true,if_false];exact wpAny_pure ⟨rfl,rfl,λu hu=>hall u (List.mem_cons_of_mem _ hu)⟩
 ·rintro⟨r1,r2⟩ s' ⟨hr,rfl,_⟩;simp only at hr;subst hr;exact wpAny_pure h
structure z9K (prog:Program)(w:World)(h:Heap)(a:Addr)(L:List (Rw Value))(o:Obj)(es:Array (Int × Value))(ep:Nat)(t:SetTable):Prop where
 get:h.get? a=some o
 ex:o.ExactSet
 data:o.data = .set es ep t
 tab:TabW t es L
 room:L.length<=t.mask
 small:t.mask<=8191
 plain:t.plain=true
 led:t.led = !w.params.followText "set-order"
 key:∀r∈L,∃b k,r.2.2 = .ref b/\TK prog w h k b/\r.2.1=tupleKeyHash (intKind prog w) k
theorem z9K.fits {h:Heap}{a:Addr}{L:List (Rw Value)}{o:Obj}{es:Array (Int × Value)}{ep:Nat}{t:SetTable}(x:z9K prog w h a L o es ep t):t.fits es.size=true:=by
 unfold SetTable.fits;rw[x.tab.size.1,x.tab.size.2.1,x.tab.size.2.2];simp[x.room]
theorem z9K.odd {h:Heap}{a:Addr}{L:List (Rw Value)}{o:Obj}{es:Array (Int × Value)}{ep:Nat}{t:SetTable}(x:z9K prog w h a L o es ep t):t.gaveWay=false:=by
 unfold SetTable.gaveWay;obtain⟨k,hk,e⟩:=x.tab.pow;have:2 ^ k=2*2 ^ (k - 1):=by rw[<- Nat.pow_succ']; congr 1; lia
 have h1:t.mask % 2=1:=by lia
 rw[h1]
 rfl
theorem zeO {t:SetTable}{es:Array (Int × Value)}{L:List (Rw Value)}(w:TabW t es L){i j:Nat}(h:t.place[i]? = some j):∃r,L[i]? = some r/\r.1=j/\es[i]? = some r.2:=by
 have h':(L.map (·.1))[i]? = some j:=by rw[w.place] at h; simpa using h
 rw[List.getElem?_map] at h';obtain⟨r,hr,e⟩:=Option.map_eq_some_iff.mp h';refine⟨r,hr,e,?_⟩;rw[w.es];simp[hr]
theorem z8O {a b:Addr}{kx:List Int}{L:List (Rw Value)}{o:Obj}{es:Array (Int × Value)}{ep:Nat}{t:SetTable}(x:z9K prog w s.heap a L o es ep t)(hu:A.units<cLine)(hk:TK prog w s.heap kx b){N:Nat}
  (hN:¬ ∃r∈L,r.1=(advs t.mask (st0 t.mask (tupleKeyHash (intKind prog w) kx)) N).j) {Q:SetFound->Shared->Prop}
  (hthere:(∃r∈L,∃c,r.2.2 = .ref c/\TK prog w s.heap kx c)->Q (.there none) s)
  (hfree:∀n,(∀m,m<n->∃r∈L,r.1=(advs t.mask (st0 t.mask (tupleKeyHash (intKind prog w) kx)) m).j/\∀c,r.2.2 = .ref c->¬ TK prog w s.heap kx c)->(¬ ∃r∈L,r.1=(advs t.mask (st0 t.mask (tupleKeyHash (intKind prog w) kx)) n).j)->Q (.free (advs t.mask (st0 t.mask (tupleKeyHash (intKind prog w) kx)) n).j false) s):
  ∀(fuel n:Nat) (stand:Option Probe),stand.getD (t.probeStart (tupleKeyHash (intKind prog w) kx))=advs t.mask (st0 t.mask (tupleKeyHash (intKind prog w) kx)) n->N<fuel+n->
   (∀m,m<n->∃r∈L,r.1=(advs t.mask (st0 t.mask (tupleKeyHash (intKind prog w) kx)) m).j/\∀c,r.2.2 = .ref c->¬ TK prog w s.heap kx c)->
   wpAny (model prog w) A (setSearchFrom a (.ref b) (tupleKeyHash (intKind prog w) kx) true fuel stand) Q E s:=by
 intro fuel
 induction fuel with
 | zero=>
  intro n stand hs hl hocc;obtain⟨r,hr,e,_⟩:=hocc N (by lia);exact absurd ⟨r,hr,e⟩ hN
 | succ fuel ih=>
  intro n stand hs hl hocc;generalize hh:tupleKeyHash (intKind prog w) kx=hx at*;unfold setSearchFrom;refine wpAny_bind (wpAny_setState_of x.get x.data x.fits ?_);dsimp only;rw[x.odd];simp only[Bool.false_eq_true,if_false]
  try refine wpAny_bind (wpAny_pure ?_)
  rw[hs];obtain⟨f,hf⟩:∃f:Nat->Int,f=λi=>(es[i]?.map (·.1)).getD 0:=⟨_,rfl⟩
  show wpAny (model prog w) A (match t.probe (λi=>(es[i]?.map (·.1)).getD 0) hx (advs t.mask (st0 t.mask hx) n) with
   | some met=>_
   | _=>_) Q E s
  rw[<- hf];have other:∀r∈L,r.2.1≠hx->∀c,r.2.2 = .ref c->¬ TK prog w s.heap kx c:=λr hr hne c e z=>by
   obtain⟨b',k,e',hk',eh⟩:=x.key r hr;rw[e'] at e
   cases e
   rw[hk'.inj z] at eh;exact hne (eh.trans hh)
  obtain⟨d,h1,h2⟩:=x.tab.probe x.room f hx n;have grown:∀m,m<n+d->∃r∈L,r.1=(advs t.mask (st0 t.mask hx) m).j/\∀c,r.2.2 = .ref c->¬ TK prog w s.heap kx c:=λm hm=>by
   rcases Nat.lt_or_ge m n with z | z
   ·exact hocc m z
   ·obtain⟨i,hi,hne⟩:=h1 m z hm;obtain⟨r,hr,e1,e2⟩:=zeO x.tab hi;have hrL:r∈L:=List.mem_of_getElem? hr;refine⟨r,hrL,e1,other r hrL ?_⟩;rw[hf] at hne;simpa[e2] using hne
  rcases h2 with ⟨hemp,e⟩ | ⟨i,hi,hhash,e⟩
  ·rw[e];dsimp only;exact wpAny_pure (hfree (n+d) grown λ⟨r,hr,e'⟩=>by
    obtain⟨i,hi⟩:=x.tab.occ.mpr ⟨r,hr,e'⟩;exact hemp i hi)
  ·rw[e];dsimp only;obtain⟨r,hr,e1,e2⟩:=zeO x.tab hi;have hrL:r∈L:=List.mem_of_getElem? hr;obtain⟨c,k,ec,hc,ehash⟩:=x.key r hrL;have rest:wpAny (model prog w) A (match es[i]? with
             | some (_,y)=>do
              let equal <- holding [y] (eqBool y (Value.ref b))
              let __x <- setState a
              if (true && equal)=true then pure (SetFound.there none)
               else
                match __x.2.snd.sameMemory t.moves t.mask with
                | some same=>
                 match if same=true then __x.2.snd.slot (advs t.mask (st0 t.mask hx) (n+d)).j else Slot.empty with
                 | Slot.live i'=>
                  match __x.fst[i']? with
                  | some (_,y')=>do
                   let __do_lift <- isSame y' y
                   let still <- pure (if __do_lift=true then some i' else none)
                   match still with
                    | none=>do
                     rule "set.search.anew"
                     setSearchFrom a (Value.ref b) hx true fuel none
                    | some i'=>if equal=true then pure (SetFound.there (some i')) else setSearchFrom a (Value.ref b) hx true fuel (some (advs t.mask (st0 t.mask hx) (n+d+1)))
                  | none=>do
                   let still <- pure none
                   match still with
                    | none=>do
                     rule "set.search.anew"
                     setSearchFrom a (Value.ref b) hx true fuel none
                    | some i'=>if equal=true then pure (SetFound.there (some i')) else setSearchFrom a (Value.ref b) hx true fuel (some (advs t.mask (st0 t.mask hx) (n+d+1)))
                 | _=>do
                  let still <- pure none
                  match still with
                   | none=>do
                    rule "set.search.anew"
                    setSearchFrom a (Value.ref b) hx true fuel none
                   | some i'=>if equal=true then pure (SetFound.there (some i')) else setSearchFrom a (Value.ref b) hx true fuel (some (advs t.mask (st0 t.mask hx) (n+d+1)))
                | _=>unsupported "set.changed-during-lookup:is-the-new-block-at-the-old-address"
             | _=>unsupported "internal:set-entry") Q E s:=by
    rw[e2, <- Prod.eta r.2];dsimp only;rw[ec];refine wpAny_bind (wpAny_holding (wpAny_eqBool_tuple hu hc hk ?_));refine wpAny_bind (wpAny_setState_of x.get x.data x.fits ?_);dsimp only
    by_cases hkk:k=kx
    ·rw[decide_eq_true hkk];simp only[Bool.and_self,if_true];exact wpAny_pure (hthere ⟨r,hrL,c,ec,hkk ▸ hc⟩)
    ·rw[decide_eq_false hkk];simp only[Bool.and_false,Bool.false_eq_true,if_false];have hsm:t.sameMemory t.moves t.mask=some true:=by unfold SetTable.sameMemory; simp
     rw[hsm];dsimp only;rw[if_pos rfl,z8W x.tab.riseP hi];dsimp only;rw[e2, <- Prod.eta r.2];dsimp only;rw[ec];refine wpAny_bind (wpAny_isSame_ref_self ?_);refine wpAny_bind (wpAny_pure ?_);simp only[if_true];refine ih (n+d+1) _ rfl (by lia) λm hm =>?_
     rcases Nat.lt_or_ge m (n+d) with z | z
     ·exact grown m z
     ·have:m=n+d:=by lia
      subst this;exact⟨r,hrL,e1,λc' e' z=>by
       rw[ec] at e'
       cases e'
       exact hkk (hc.inj z)⟩
   by_cases hled:t.led=true
   ·rw[hled];simp only[Bool.not_true,Bool.false_eq_true,if_false];exact rest
   ·have hled':t.led=false:=by simpa using hled
    rw[hled'];simp only[Bool.not_false,if_true];refine wpAny_bind (zb3 hk (λy hy =>?_) ?_)
    ·obtain⟨p,hp,rfl⟩:=List.mem_map.mp hy;have hp':p∈es:=by
      have:=Array.mem_toList_iff.mp hp;exact(Array.mem_filter.mp this).1
     have hp2:p∈L.map (·.2):=by rw[x.tab.es] at hp'; simpa using hp'
     obtain⟨r',hr',rfl⟩:=List.mem_map.mp hp2;obtain⟨b',k',e',hk',_⟩:=x.key r' hr';exact⟨b',k',e',hk'⟩
    ·simp only[Bool.false_eq_true,if_false];exact rest
end
end Tab
namespace Tab
open PySem PySem.SetTable PyProof.Rows
theorem z63 (n:Nat):∀(fuel j:Nat),n<2 ^ (j+fuel)->∃k,sizeAbove.go n fuel (2 ^ j)=2 ^ k/\j<=k/\n<2 ^ k/\(k=j\/2 ^ k<=2*n)
 | 0,j,h=>⟨j,rfl,Nat.le_refl _,h,.inl rfl⟩
 | fuel+1,j,h=>by
  rw[sizeAbove.go]
  by_cases hl:2 ^ j<=n
  ·rw[if_pos hl, <- Nat.pow_succ];obtain⟨k,h1,h2,h3,h4⟩:=z63 n fuel (j+1) (by rw[show j+1+fuel=j+(fuel+1) by lia]; exact h);refine⟨k,h1,by lia,h3,.inr ?_⟩
   rcases h4 with h4 | h4
   ·subst h4; rw[Nat.pow_succ]; lia
   ·exact h4
  ·rw[if_neg hl];exact⟨j,rfl,Nat.le_refl _,by lia,.inl rfl⟩
theorem z7q {n:Nat}(h:n<2 ^ 60):∃k,sizeAbove n=2 ^ k/\3<=k/\n<2 ^ k/\(k=3\/2 ^ k<=2*n):=z63 n 64 3 (Nat.lt_of_lt_of_le h (by decide))
section
variable {prog:Program}{w:World}{A:Around}{E:Value->Shared->Prop}{s:Shared}
theorem TK.stay {h h':Heap}{k:List Int}{a b:Addr}{o:Obj}{es ep t}(x:TK prog w h k b)(ho:h.get? a=some o)(hd:o.data = .set es ep t)(hs:Heap.SameBut a h h'):TK prog w h' k b:=by
 obtain⟨o',z06,n,ho',hc,hd',hi⟩:=x;have hne:b≠a:=by
  rintro rfl;obtain rfl:o'=o:=Option.some.inj (ho'.symm.trans ho);rw[hd] at hd'
  cases hd'
 exact⟨o',z06,n,(hs.2 b hne).trans ho',hc,hd',hi⟩
structure zdo (prog:Program)(w:World)(h:Heap)(a:Addr)(L:List (Rw Value)):Prop where
 ex:∃o es ep t,z9K prog w h a L o es ep t/\L.length*5<t.mask*3
theorem z8U {h:Heap}{a:Addr}{o:Obj}{es:Array (Int × Value)}{ep:Nat}{t:SetTable}(ho:h.get? a=some o)(hd:o.data = .set es ep t)(es':Array (Int × Value))(t':SetTable):
  (h.update a (Obj.putSet es' t')).get? a=some { o with data :=.set es' (ep+1) t' }:=by
 have:=Heap.get?_update_self (Obj.putSet es' t') ho (by rw[putSet_of es' t' hd]; rfl);rw[putSet_of es' t' hd] at this;exact this
theorem z6g {a b:Addr}{kx:List Int}{L:List (Rw Value)}(x:zdo prog w s.heap a L)(hu:A.units<cLine)(hk:TK prog w s.heap kx b)(hlen:L.length<2047){Q:Bool->Shared->Prop}
  (hthere:(∃r∈L,∃c,r.2.2 = .ref c/\TK prog w s.heap kx c)->∀tk,Q false { s with toks:=tk })
  (hnew:(¬ ∃r∈L,∃c,r.2.2 = .ref c/\TK prog w s.heap kx c)->∀h' tk L',Heap.SameBut a s.heap h'->zdo prog w h' a L'->(L'.map (·.2)).Perm ((tupleKeyHash (intKind prog w) kx,.ref b)::L.map (·.2))->Q true { s with heap:=h',toks:=tk }):
  wpAny (model prog w) A (setAdd a (.ref b)) Q E s:=by
 obtain⟨o,es,ep,t,y,hfull⟩:=x.ex;unfold setAdd;refine wpAny_holding (wpAny_bind (wpAny_pyHash_tuple hu hk ?_));generalize hs1:({ s with toks:=s.toks+(kx.length+1) }:Shared)=s1;have y1:z9K prog w s1.heap a L o es ep t:=by rw[<- hs1]; exact y
 have hk1:TK prog w s1.heap kx b:=by rw[<- hs1]; exact hk
 unfold setAddHashed;refine wpAny_holding ?_;show wpAny _ _ (setAddHashedIn a (.ref b) _ (99999+1)) _ _ _;unfold setAddHashedIn;refine wpAny_bind (wpAny_setState_of y1.get y1.data y1.fits ?_);dsimp only;have hbs:byScan (Value.ref b) es=false:=by unfold byScan; simp[Value.scannable]
 rw[hbs];simp only[Bool.false_eq_true,if_false];obtain⟨N,hN,hNe⟩:=y1.tab.soon y1.room (tupleKeyHash (intKind prog w) kx);have hmask:t.mask<=8191:=y1.small;refine wpAny_bind ?_;unfold setSearch;refine z8O (s:=s1) y1 hu hk1 hNe ?_ ?_ 100000 0 none rfl (by unfold turns at hN; lia) (λm hm=>absurd hm (Nat.not_lt_zero _))
 ·intro hex;dsimp only;refine wpAny_pure ?_;rw[<- hs1] at hex ⊢;exact hthere hex _
 ·intro n hocc hemp;dsimp only;refine wpAny_bind (wpAny_setState_of y1.get y1.data y1.fits ?_);dsimp only;have habs:¬ ∃r∈L,∃c,r.2.2 = .ref c/\TK prog w s1.heap kx c:=by
   rintro⟨r,hr,c,ec,hc⟩;obtain⟨b',k',e',hk',eh⟩:=y1.key r hr;rw[ec] at e'
   cases e'
   have ek:=hk'.inj hc;subst ek;obtain⟨m,e1,e2⟩:=y1.tab.reach r hr;rw[eh] at e1 e2
   rcases Nat.lt_trichotomy m n with z | z | z
   ·obtain⟨r',hr',e3,e4⟩:=hocc m z;have:r'=r:=by
     have nd:=y1.tab.nodup;have e5:r'.1=r.1:=e3.trans e1;obtain⟨i,hi,ei⟩:=List.mem_iff_getElem.mp hr';obtain⟨j,hj,ej⟩:=List.mem_iff_getElem.mp hr;have hij:i=j:=by
      rcases Nat.lt_trichotomy i j with q | q | q
      ·have:=List.pairwise_iff_getElem.mp y1.tab.rise i j hi hj q;rw[ei,ej] at this; lia
      ·exact q
      ·have:=List.pairwise_iff_getElem.mp y1.tab.rise j i hj hi q;rw[ei,ej] at this; lia
     subst hij;exact ei.symm.trans ej
    subst this;exact e4 c ec hc
   ·subst z;exact hemp ⟨r,hr,e1.symm⟩
   ·obtain⟨r',hr',e3⟩:=e2 n z;exact hemp ⟨r',hr',e3⟩
  generalize hh:tupleKeyHash (intKind prog w) kx=hx at*;generalize hj:(advs t.mask (st0 t.mask hx) n).j=j at*;have hjl:j<=t.mask:=by rw[<- hj]; exact zbZ t.mask hx n
  have tab2:TabW (t.put j).1 (insertAt es (t.put j).2 (hx,Value.ref b)) (ins L (t.put j).2 (j,hx,Value.ref b)):=by
   have:=y1.tab.put (x:=Value.ref b) (h:=hx) (n:=n) (λm hm=>by
    obtain⟨r,hr,e,_⟩:=hocc m hm;exact⟨r,hr,e⟩) (by rw[hj]; exact hemp) (by rw[hj]; exact hjl)
   rw[hj] at this;exact this
  have hlp:(ins L (t.put j).2 (j,hx,Value.ref b)).length=L.length+1:=by
   unfold ins;rw[List.length_append,List.length_cons,List.length_take,List.length_drop];lia
  have hmk:(t.put j).1.mask=t.mask:=rfl;have hpl:(t.put j).1.plain=true:=y1.plain;have hperm:((ins L (t.put j).2 (j,hx,Value.ref b)).map (·.2)).Perm ((hx,Value.ref b)::L.map (·.2)):=by
   unfold ins;rw[List.map_append,List.map_cons];refine List.perm_middle.trans ?_;refine List.Perm.cons _ ?_;rw[<- List.map_append,List.take_append_drop]
  generalize hT2:(t.put j).1=t2 at*;generalize hL2:ins L (t.put j).2 (j,hx,Value.ref b)=L2 at*;generalize hE2:insertAt es (t.put j).2 (hx,Value.ref b)=es2 at*;have hput:t.put j=(t2,(t.put j).2):=by rw[<- hT2]
  rw[hpl];simp only[if_true];refine wpAny_bind (z50 hk1 ?_);simp only[if_true];have hsz2:es2.size=L.length+1:=by rw[tab2.size.2.1,hlp]
  refine wpAny_bind (wpAny_storeSet_of y1.get y1.data ?_ (by rw[hsz2]; exact fits_of_scanBound (by unfold scanBound; lia)));have g2:=z8U y1.get y1.data es2 t2;have sb2:=Heap.SameBut.update s1.heap a (Obj.putSet es2 t2);have hled2:t2.led=t.led:=by rw[<- hT2]; rfl
  have key2:∀h',Heap.SameBut a s1.heap h'->∀r:Int × Value,r∈(hx,Value.ref b)::L.map (·.2)->∃b' k,r.2 = .ref b'/\TK prog w h' k b'/\r.1=tupleKeyHash (intKind prog w) k:=λh' sb r hr=>by
   rcases List.mem_cons.mp hr with rfl | hr
   ·exact⟨b,kx,rfl,hk1.stay y1.get y1.data sb,hh.symm⟩
   ·obtain⟨r',hr',rfl⟩:=List.mem_map.mp hr;obtain⟨b',k',e',hk',eh⟩:=y1.key r' hr';exact⟨b',k',e',hk'.stay y1.get y1.data sb,eh⟩
  have fin:∀h' L',Heap.SameBut a s1.heap h'->zdo prog w h' a L'->(L'.map (·.2)).Perm ((hx,.ref b)::L.map (·.2))->Q true { s1 with heap:=h' }:=λh' L' sb ok pm=>by
   rw[<- hs1] at sb habs ⊢;exact hnew habs h' _ L' sb ok pm
  have h7:7<=t.mask:=by
   obtain⟨k,hk3,e⟩:=y1.tab.pow;have:2 ^ 3<=2 ^ k:=Nat.pow_le_pow_right (by decide) hk3;lia
  have at2:z9K prog w (s1.heap.update a (Obj.putSet es2 t2)) a L2 { o with data :=.set es2 (ep+1) t2 } es2 (ep+1) t2:=by
   refine⟨g2,y1.ex,rfl,tab2,?_,?_,hpl,?_,λr hr =>?_⟩
   ·rw[hlp,hmk]; lia
   ·rw[hmk]; exact hmask
   ·rw[hled2]; exact y1.led
   ·obtain⟨b',k',e',hk',eh⟩:=key2 _ sb2 r.2 (hperm.mem_iff.mp (List.mem_map.mpr ⟨r,hr,rfl⟩));exact⟨b',k',e',hk',eh⟩
  have hfill:t2.fill=L.length+1:=by rw[tab2.size.2.2,hlp]
  by_cases htf:t2.tooFull=true
  ·rw[htf];simp only[Bool.not_false,Bool.and_self,if_true];obtain⟨k,hk1',hk3,hk4,hk5⟩:=z7q (n:=SetTable.grown (es.size+1)) (by
    have:es.size=L.length:=y1.tab.size.2.1;unfold SetTable.grown;rw[this,if_neg (by lia)];exact Nat.lt_of_lt_of_le (show (L.length+1)*4<8192 by lia) (by decide))
   have hgr:SetTable.grown (es.size+1)=(L.length+1)*4:=by
    have:es.size=L.length:=y1.tab.size.2.1;unfold SetTable.grown;rw[this,if_neg (by lia)]
   have hk6:2 ^ k<=8192:=by
    rcases hk5 with z | z
    ·subst z; decide
    ·rw[hgr] at z
     rcases Nat.lt_or_ge k 14 with y | y
     ·exact Nat.pow_le_pow_right (by decide) (show k<=13 by lia)
     ·have:=Nat.pow_le_pow_right (show 0<2 by decide) y;have:(2:Nat) ^ 14=16384:=by decide
      lia
   have hmk1:2 ^ k - 1+1=2 ^ k:=Nat.sub_add_cancel (Nat.one_le_two_pow);obtain⟨t3,z21,L3,hl,m1,m2,m3,m4,m5,m6,tab3,pm3⟩:=zgu (es:=es2) (mask:=2 ^ k - 1) (finger:=t2.finger) (moves:=t2.movedTo (2 ^ k - 1)) (led:=t2.led) (plain:=t2.plain) hmk1 hk3 (by rw[hsz2,hmk1]; lia);unfold setRelay;refine wpAny_bind (wpAny_bind (wpAny_setState_of at2.get at2.data at2.fits ?_));dsimp only;rw[hk1'];rw[if_neg (show ¬ 2 ^ k > sizeLine by rw[sizeLine_eq]; lia)]
   try refine wpAny_bind (wpAny_pure ?_)
   have hrl:t2.relaid (es2.map (·.1)) (SetTable.grown (es.size+1))=some (t3,z21):=by
    unfold SetTable.relaid;rw[hk1'];exact hl
   rw[hrl];refine wpAny_bind ?_;show wpAny _ _ (if (((z21.filterMap (es2[·]?)).size != es2.size)=true) then _ else _) _ _ _;rw[if_neg (by rw[m6]; simp)];refine wpAny_pure ?_;dsimp only;generalize hE3:z21.filterMap (es2[·]?)=es3 at*;have hsz3:es3.size=L.length+1:=by rw[m6,hsz2]
   have hl3:L3.length=L.length+1:=by rw[<- tab3.size.2.1,hsz3]
   refine wpAny_storeSet_of at2.get at2.data ?_ (by rw[hsz3]; exact fits_of_scanBound (by unfold scanBound; lia));have g3:=z8U at2.get at2.data es3 t3;have sb3:=sb2.trans (Heap.SameBut.update (s1.heap.update a (Obj.putSet es2 t2)) a (Obj.putSet es3 t3));have e3:es3.toList=L3.map (·.2):=by rw[tab3.es]
   have e2':es2.toList=L2.map (·.2):=by rw[tab2.es]
   have pm:(L3.map (·.2)).Perm ((hx,Value.ref b)::L.map (·.2)):=by
    rw[e3,e2'] at pm3;exact pm3.trans hperm
   refine wpAny_pure (fin _ L3 sb3 ⟨_,_,_,_,⟨g3,y1.ex,rfl,tab3,?_,?_,m5.trans hpl,?_,λr hr =>?_⟩,?_⟩ pm)
   ·rw[hl3,m1]; lia
   ·rw[m1]; lia
   ·rw[m4,hled2]; exact y1.led
   ·obtain⟨b',k',e',hk',eh⟩:=key2 _ sb3 r.2 (pm.mem_iff.mp (List.mem_map.mpr ⟨r,hr,rfl⟩));exact⟨b',k',e',hk',eh⟩
   ·rw[hl3,m1]; lia
  ·have htf':t2.tooFull=false:=by simpa using htf
   rw[htf'];simp only[Bool.and_false,Bool.false_eq_true,if_false];refine wpAny_pure (fin _ L2 sb2 ⟨_,_,_,_,at2,?_⟩ hperm);unfold SetTable.tooFull at htf';rw[hfill] at htf';rw[hlp];have:=of_decide_eq_false htf';lia
end
end Tab
namespace Tab
open PySem PySem.SetTable PyProof.Rows
inductive Two {α β:Type}(R:α->β->Prop):List α->List β->Prop
 | nil:Two R [] []
 | cons {a b l m}:R a b->Two R l m->Two R (a::l) (b::m)
theorem Two.imp {α β:Type}{R R':α->β->Prop}(i:∀a b,R a b->R' a b){l:List α}{m:List β}(h:Two R l m):Two R' l m:=by
 induction h with
 | nil=>exact .nil
 | cons h _ ih=>exact .cons (i _ _ h) ih
theorem Two.perm {α β:Type}{R:α->β->Prop}{l l':List α}(p:l.Perm l'):∀{m:List β},Two R l m->∃m',m.Perm m'/\Two R l' m':=by
 induction p with
 | nil=>intro m h; exact⟨m,List.Perm.refl _,h⟩
 | cons x _ ih=>
  intro m h
  cases h with
  | cons h1 h2=>
   obtain⟨m',p',h'⟩:=ih h2;exact⟨_::m',p'.cons _,.cons h1 h'⟩
 | swap x y l=>
  intro m h
  cases h with
  | cons h1 h2=>
   cases h2 with
   | cons h3 h4=>exact⟨_,List.Perm.swap _ _ _,.cons h3 (.cons h1 h4)⟩
 | trans _ _ ih1 ih2=>
  intro m h;obtain⟨m',p',h'⟩:=ih1 h;obtain⟨m'',p'',h''⟩:=ih2 h';exact⟨m'',p'.trans p'',h''⟩
theorem Two.mem_left {α β:Type}{R:α->β->Prop}{l:List α}{m:List β}(h:Two R l m){a:α}(ha:a∈l):∃b∈m,R a b:=by
 induction h with
 | nil=>simp at ha
 | cons h _ ih=>
  rcases List.mem_cons.mp ha with rfl | ha
  ·exact⟨_,by simp,h⟩
  ·obtain⟨b,hb,r⟩:=ih ha;exact⟨b,by simp[hb],r⟩
theorem Two.mem_right {α β:Type}{R:α->β->Prop}{l:List α}{m:List β}(h:Two R l m){b:β}(hb:b∈m):∃a∈l,R a b:=by
 induction h with
 | nil=>simp at hb
 | cons h _ ih=>
  rcases List.mem_cons.mp hb with rfl | hb
  ·exact⟨_,by simp,h⟩
  ·obtain⟨a,ha,r⟩:=ih hb;exact⟨a,by simp[ha],r⟩
section
variable {prog:Program}{w:World}
noncomputable def IsK (prog:Program)(w:World)(M:Value->Prop)(h:Heap)(v:Value)(k:List Int):Prop:=M v/\∃b,v = .ref b/\TK prog w h k b
structure SetK (prog:Program)(w:World)(M:Value->Prop)(h:Heap)(a:Addr)(kl:List (List Int)):Prop where
 ex:∃L,zdo prog w h a L/\Two (IsK prog w M h) (L.map (·.2.2)) kl
 nd:kl.Nodup
theorem SetK.len {M:Value->Prop}{h:Heap}{a:Addr}{kl:List (List Int)}(x:SetK prog w M h a kl):∃L,zdo prog w h a L/\Two (IsK prog w M h) (L.map (·.2.2)) kl/\L.length=kl.length:=by
 obtain⟨L,h1,h2⟩:=x.ex;refine⟨L,h1,h2,?_⟩;have:∀{l:List Value}{m:List (List Int)},Two (IsK prog w M h) l m->l.length=m.length:=by
  intro l m t
  induction t with
  | nil=>rfl
  | cons _ _ ih=>simp[ih]
 have:=this h2;simpa using this
theorem SetK.stay {M:Value->Prop}{h h':Heap}{a:Addr}{kl:List (List Int)}{wr:List Addr}(x:SetK prog w M h a kl)(k:∀b o,b ∉ wr->h.get? b=some o->h'.get? b=some o)(ha:a ∉ wr)(hw:∀b∈wr,∀ks,¬ TK prog w h ks b):SetK prog w M h' a kl:=by
 obtain⟨L,⟨o,es,ep,t,y,hf⟩,h2⟩:=x.ex;have tk:∀{ks:List Int}{b:Addr},TK prog w h ks b->TK prog w h' ks b:=λ{ks b} z=>by
  have hb:b ∉ wr:=λq=>hw b q ks z;obtain⟨o,it,n,e,r⟩:=z;exact⟨o,it,n,k _ _ hb e,r⟩
 refine⟨⟨L,⟨o,es,ep,t,⟨k _ _ ha y.get,y.ex,y.data,y.tab,y.room,y.small,y.plain,y.led,λr hr =>?_⟩,hf⟩,h2.imp λa b ⟨m,c,e,z⟩=>⟨m,c,e,tk z⟩⟩,x.nd⟩;obtain⟨b,ks,e,z,q⟩:=y.key r hr;exact⟨b,ks,e,tk z,q⟩
variable {A:Around}{R:Result->Shared->Prop}{I:Addr}{fp wr:List Addr}{G:Array GenState->Array GenState->Prop}{n:Nat}{P:Nat->Value->Prop}{St:Nat->Shared->Prop}
theorem z6z {M:Value->Prop}(W:WalksS prog w A.in1 I fp wr G n P St)(S:Addr)(hSf:S ∉ fp)(hu:A.in1.units<cLine)(ks:Nat->List Int)(hn:n<=2040)(hw:∀i s,St i s->∀b∈wr,∀k,¬ TK prog w s.heap k b)(hM:∀j v,P j v->M v):
  ∀(k i:Nat) (s:Shared) (kl:List (List Int)),n - i=k->i<=n->St i s->(∀j v,P j v->∃b,v = .ref b/\TK prog w s.heap (ks j) b)->
   SetK prog w M s.heap S kl->kl.length<=i->(∀x,x∈kl↔∃j,j<i/\ks j=x)->
   (∀s' kl',Moved (S::wr) G s s'->SetK prog w M s'.heap S kl'->kl'.length<=n->(∀x,x∈kl'↔∃j,j<n/\ks j=x)->R (.ok (.ret .none)) s')->
   codeAny (model prog w) A (.builtin "set.update.loop" ⟨[.ref S,.ref I],[]⟩) R s:=by
 have hSw:S ∉ wr:=λh=>hSf (W.sub _ h);have hsub:∀b∈wr,b∈S::wr:=λb hb=>List.mem_cons_of_mem _ hb;intro k
 induction k with
 | zero=>
  intro i s kl hk hi hst hP hS hl hm hR;have hin:i=n:=by lia
  subst hin;refine codeAny_builtin F.entry_set_update_loop ?_;rw[Around.under_plainId F.plain_set_update_loop _];show wpAny _ A.in1 (pyNext (.ref I) >>= _) _ _ s;refine wpAny_bind (W.done s _ _ hst λs' hmv =>?_);show wpAny _ A.in1 (ret Value.none) _ _ s';exact wpAny_pure (hR s' kl (hmv.mono hsub) (hS.stay hmv.heap hSw (hw _ _ hst)) hl hm)
 | succ k ih=>
  intro i s kl hk hi hst hP hS hl hm hR;have hlt:i<n:=by lia
  refine codeAny_builtin F.entry_set_update_loop ?_;rw[Around.under_plainId F.plain_set_update_loop _];show wpAny _ A.in1 (pyNext (.ref I) >>= _) _ _ s;refine wpAny_bind (W.item i s _ _ hlt hst λv s' hPv hst' hmv =>?_);have hS':=hS.stay hmv.heap hSw (hw _ _ hst);have hP':∀j v,P j v->∃b,v = .ref b/\TK prog w s'.heap (ks j) b:=λj u hu'=>by
   obtain⟨b,e,z⟩:=hP j u hu';have hb:b ∉ wr:=λq=>hw _ _ hst b q _ z;obtain⟨o,it,m,e',r⟩:=z;exact⟨b,e,o,it,m,hmv.heap _ _ hb e',r⟩
  obtain⟨b,rfl,hkb⟩:=hP' i v hPv;show wpAny _ A.in1 (holding [Value.ref b] (setAdd S (.ref b)) >>= _) _ _ s';refine wpAny_bind (wpAny_holding ?_);obtain⟨L,hL,h2,hlen⟩:=hS'.len;have grow:∀(h':Heap) (tk:Nat),s'.toks<=tk->Heap.SameBut S s'.heap h'->St (i+1) { s' with heap:=h',toks:=tk }/\(∀j v,P j v->∃b,v = .ref b/\TK prog w h' (ks j) b)/\∀s'',Moved (S::wr) G { s' with heap:=h',toks:=tk } s''->Moved (S::wr) G s s'':=λh' tk htk hsb=>by
   obtain⟨o,es,ep,t,y,_⟩:=hL.ex;refine⟨W.frame _ s' _ _ hst' htk λc hc o' e =>?_,λj u hu' =>?_,λs'' hm'' =>?_⟩
   ·rw[hsb.2 c (λz:c=S=>hSf (by rw[<- z]; exact hc))]; exact e
   ·obtain⟨c,e,z⟩:=hP' j u hu';exact⟨c,e,z.stay y.get y.data hsb⟩
   ·refine Moved.trans W.gtrans ((hmv.mono hsub).then_heap htk λc o' hc e =>?_) hm'';rw[hsb.2 c (λz:c=S=>hc (by rw[z]; exact List.mem_cons_self))]; exact e
  refine wpAny_with_toks (Nat.le_refl s'.toks) ?_;refine z6g hL hu hkb (by lia) ?_ ?_
  ·intro hex tk htk;obtain⟨g1,g2,g3⟩:=grow s'.heap tk htk (Heap.SameBut.refl _ _);refine wpAny_pure ⟨plainId_quiet F.plain_set_update_loop _,ih (i+1) _ kl (by lia) hlt g1 g2 hS' (by lia) (λx =>?_) λs'' kl' hm''=>hR s'' kl' (g3 s'' hm'')⟩;rw[hm x]
   constructor
   ·rintro⟨j,hj,e⟩;exact⟨j,by lia,e⟩
   ·rintro⟨j,hj,e⟩
    rcases Nat.lt_or_ge j i with z | z
    ·exact⟨j,z,e⟩
    ·have:j=i:=by lia
     subst this;obtain⟨r,hr,c,ec,hc⟩:=hex;obtain⟨y,hy,_,c',ec',hc'⟩:=h2.mem_left (List.mem_map.mpr ⟨r,hr,rfl⟩);rw[ec] at ec'
     cases ec'
     have:=hc.inj hc';rw[<- e,this];exact(hm y).mp hy
  ·intro habs h' tk L' hsb hok pm htk;obtain⟨g1,g2,g3⟩:=grow h' tk htk hsb;obtain⟨o,es,ep,t,y,_⟩:=hL.ex;have t1:Two (IsK prog w M h') (Value.ref b::L.map (·.2.2)) (ks i::kl) :=.cons ⟨hM i _ hPv,b,rfl,hkb.stay y.get y.data hsb⟩ (h2.imp λa k ⟨m,c,e,z⟩=>⟨m,c,e,z.stay y.get y.data hsb⟩);have pm2:(Value.ref b::L.map (·.2.2)).Perm (L'.map (·.2.2)):=by
    have:=pm.symm.map (·.2);simpa[Function.comp_def] using this
   obtain⟨kl',p',t'⟩:=t1.perm pm2;have hnk:ks i ∉ kl:=λz=>by
    obtain⟨a',ha',_,c,e,z'⟩:=h2.mem_right z;obtain⟨r,hr,rfl⟩:=List.mem_map.mp ha';exact habs ⟨r,hr,c,e,z'⟩
   have nd':kl'.Nodup:=p'.nodup_iff.mp (List.nodup_cons.mpr ⟨hnk,hS.nd⟩);have hl':kl'.length=kl.length+1:=by rw[<- p'.length_eq]; rfl
   refine wpAny_pure ⟨plainId_quiet F.plain_set_update_loop _,ih (i+1) _ kl' (by lia) hlt g1 g2 ⟨⟨L',hok,t'⟩,nd'⟩ (by lia) (λx =>?_) λs'' kl'' hm''=>hR s'' kl'' (g3 s'' hm'')⟩;rw[<- p'.mem_iff,List.mem_cons,hm x]
   constructor
   ·rintro(e | ⟨j,hj,e⟩)
    ·exact⟨i,by lia,e.symm⟩
    ·exact⟨j,by lia,e⟩
   ·rintro⟨j,hj,e⟩
    rcases Nat.lt_or_ge j i with z | z
    ·exact .inr ⟨j,z,e⟩
    ·have:j=i:=by lia
     subst this;exact .inl e.symm
end
end Tab
namespace Tab
open PySem PySem.SetTable PyProof.Rows
section
variable {prog:Program}{w:World}{A:Around}{E:Value->Shared->Prop}{s:Shared}
theorem z8a:isSubtype (.type "tuple") (.type "set")=pure false:=by rw[isSubtype_type]; kernel_rfl
theorem z4O:isSubtype (.type "tuple") (.type "frozenset")=pure false:=by rw[isSubtype_type]; kernel_rfl
noncomputable abbrev led0 (w:World):Bool := !w.params.followText "set-order"
theorem z5w (a:Value){Q₁:Value->Shared->Prop}
  (h:Q₁ (.ref s.heap.objs.size) { s with heap:=s.heap.push { cls :=.type "set",dict:=none,data :=.set #[] 0 (.fresh 0 0 (led0 w)) } }):
  codeAny (model prog w) A (.call (.builtin "set.__new__") ⟨[.type "set",a],[]⟩) (wants Q₁ E) s:=by
 refine codeAny_of_tree ?_;show wpAny _ A.in1 (do checkBuiltinCall "set.__new__" ⟨[.type "set",a],[]⟩; again (.builtin "set.__new__" ⟨[.type "set",a],[]⟩)) _ _ s;refine wpAny_bind (wpAny_of_eq (F.newCall_set_1 a) (wpAny_pure ⟨plainId_quiet F.plain_set_new _,codeAny_builtin F.entry_set_new ?_⟩));rw[Around.under_plainId F.plain_set_new _];unfold Builtin.«set.__new__» Builtin.Frozenset.newClass;have hsub:=sub_set_self;obtain⟨hp,g,d,tk,os⟩:=s;dsimp only
 wp_walk
 refine wpAny_askSetting (wpAny_pure ?_);dsimp only;simp only[newObj];refine wpAny_bind (wpAny_alloc (wpAny_pure ?_));exact wpAny_pure h
theorem z7N {M:Value->Prop}{h:Heap}{a:Addr}(e:h.get? a=some { cls :=.type "set",dict:=none,data :=.set #[] 0 (.fresh 0 0 (led0 w)) }):SetK prog w M h a []:=by
 refine⟨⟨[],⟨_, #[],0,_,⟨e,⟨rfl,rfl,rfl⟩,rfl,⟨rfl,rfl,.nil,(λr hr=>by simp at hr),rfl,⟨3,Nat.le_refl _,rfl⟩,(λr hr=>by simp at hr)⟩,(by show 0<=7; decide),(by show 7<=8191; decide),rfl,rfl,(λr hr=>by simp at hr)⟩,(by show 0*5<7*3; decide)⟩,.nil⟩,.nil⟩
theorem z8I {M:Value->Prop}{l:Addr}{z06:Array Value}{ks:List (List Int)}{Q:Value->Shared->Prop}
  (hh:A.handled=none) (hu:A.units+8<cLine) (hl:s.heap.IsList l z06) (hi:Two (IsK prog w M s.heap) z06.toList ks) (hb:z06.size<=2040)
  (h:∀(h':Heap) (tk:Nat) (kl:List (List Int)),SetK prog w M h' s.heap.objs.size kl->kl.length<=z06.size->(∀x,x∈kl↔x∈ks)->
   (∀b o,b<s.heap.objs.size->s.heap.get? b=some o->h'.get? b=some o)->Q (.ref s.heap.objs.size) { s with heap:=h',toks:=tk }):
  wpAny (model prog w) A (call (.type "set") [.ref l]) Q E s:=by
 obtain⟨c,tl,hmro⟩:=F.called_set.mro;have hmade:=F.called_set.made;have hsub:=F.called_set.sub;refine wpAny_call (codeAny_of_tree ?_);show wpAny _ _ (callAny (.type "set") _) _ _ _;refine wpAny_pure ⟨Code.quiet_builtin _ (by decide +kernel),codeAny_builtin F.entry_type_call ?_⟩;rw[Around.under_plain (weight_type_call_type "set" [.ref l] []) rfl];have h1:=F.called_set.notType;have h2:=F.called_set.canCreate;have hct:=F.typeCall_set_1 (.ref l)
 repeat (any_goals (first | assumption | wp_step))
 refine codeAny_mono (z5w (.ref l) (E:=E) (Q₁:=λobj s₁=>obj = .ref s.heap.objs.size/\s₁={ s with heap:=s.heap.push { cls :=.type "set",dict:=none,data :=.set #[] 0 (.fresh 0 0 (led0 w)) } }) ⟨rfl,rfl⟩) λr s₁ hr =>?_
 cases r with
 | error e=>exact hr
 | ok fl=>
  cases fl with
  | ret obj=>
   obtain⟨rfl,rfl⟩:=hr;generalize hled:led0 w=led at*;have hS:(s.heap.push { cls :=.type "set",dict:=none,data :=.set #[] 0 (.fresh 0 0 led) }).get? s.heap.objs.size=some { cls :=.type "set",dict:=none,data :=.set #[] 0 (.fresh 0 0 led) }:=Heap.get?_push_size _ rfl;have hT:Shared.TypeIs { s with heap:=s.heap.push { cls :=.type "set",dict:=none,data :=.set #[] 0 (.fresh 0 0 led) } } (.ref s.heap.objs.size) "set":=⟨_,hS,rfl⟩
   have hli:=F.called_set.init.lookup;have hbi:=F.called_set.init.bind (.ref s.heap.objs.size)
   repeat (any_goals (first | assumption | wp_step))
   refine codeAny_mono (codeAny_call_builtin (R:=wants (λr s₂=>r = .none/\∃h' tk kl,s₂={ s with heap:=h',toks:=tk }/\SetK prog w M h' s.heap.objs.size kl/\kl.length<=z06.size/\(∀x,x∈kl↔x∈ks)/\
     (∀b o,b<s.heap.objs.size->s.heap.get? b=some o->h'.get? b=some o)) E) F.called_set.init.plain F.entry_set_init (check_set_init_1 hT ?_)) λr₂ s₂ hr₂ =>?_
   ·obtain⟨ol,hol,hcl,nl,hdl⟩:=hl;obtain⟨ocls,odict,odata,oslots⟩:=ol;simp only at hcl hdl;subst hcl; subst hdl;have hol':(s.heap.push { cls :=.type "set",dict:=none,data :=.set #[] 0 (.fresh 0 0 led) }).get? l=some { cls :=.type "list",dict:=odict,data :=.seq z06 nl,slots:=oslots }:=Heap.get?_push_of_some _ hol;have hsls:=F.sub_list_set;have hslf:=F.sub_list_frozenset;have hne:(Value.type "list" == Value.type "dict")=false:=by decide
    have hl1:(s.heap.push { cls :=.type "set",dict:=none,data :=.set #[] 0 (.fresh 0 0 led) }).IsList l z06:=⟨_,hol',rfl,nl,rfl⟩
    unfold Builtin.«set.__init__» noKeywords Builtin.Frozenset.updateFrom;generalize hPI:pyIter=PI
    wp_walk
    subst hPI;refine wpAny_pyIter_list hl1 ?_;refine wpAny_bind (wpAny_runValue ?_);have hlS:l<s.heap.objs.size:=Heap.lt_size hol;have hh3:A.in1.in1.in1.handled=none:=by simp[hh]
    have hneI:l≠(s.heap.push { cls :=.type "set",dict:=none,data :=.set #[] 0 (.fresh 0 0 led) }).objs.size:=by
     rw[Heap.size_push]; exact Nat.ne_of_lt (Nat.lt_succ_of_lt hlS)
    have hSf:s.heap.objs.size ∉ [(s.heap.push { cls :=.type "set",dict:=none,data :=.set #[] 0 (.fresh 0 0 led) }).objs.size,l]:=by
     rw[Heap.size_push]; simp only[List.mem_cons,List.mem_singleton,List.not_mem_nil,or_false,not_or];exact⟨Nat.ne_of_lt (Nat.lt_succ_self _),Nat.ne_of_gt hlS⟩
    have hkat:∀(i:Nat) (v:Value),z06[i]? = some v->M v/\∃b,v = .ref b/\TK prog w s.heap (ks.getD i []) b:=λi v hv=>by
     have hv':z06.toList[i]? = some v:=by simpa using hv
     generalize z06.toList=il at hi hv';clear hv h
     induction hi generalizing i with
     | nil=>simp at hv'
     | cons h0 _ ih=>
      cases i with
      | zero=>
       simp at hv';subst hv';exact h0
      | succ i=>exact ih i (by simpa using hv')
    have hks:ks.length=z06.size:=by
     have:∀{l:List Value}{m:List (List Int)},Two (IsK prog w M s.heap) l m->l.length=m.length:=by
      intro l m t
      induction t with
      | nil=>rfl
      | cons _ _ ih=>simp[ih]
     have:=this hi;simpa using this.symm
    refine z6z ((Walks.list hh3 _ l hneI z06).toS) s.heap.objs.size hSf (by simp; lia) (λi=>ks.getD i []) hb ?hw (λj v hv=>(hkat j v hv).1) (z06.size - 0) 0 _ [] (by lia) (Nat.zero_le _)
     ⟨⟨_,Heap.get?_push_size _ rfl,rfl,rfl⟩,?hl2⟩ (λj v hv => ?hP) ?hS0 (Nat.zero_le _) (λx=>by simp) ?hR
    case hl2=>exact⟨_,Heap.get?_push_of_some _ hol',rfl,nl,rfl⟩
    case hw=>
     intro i s0 hst b hb' k z;rw[List.mem_singleton.mp hb'] at z;obtain⟨⟨o1,e1,c1,_⟩,_⟩:=hst;obtain⟨o2,_,_,e2,c2,_⟩:=z;rw[e1] at e2
     cases e2
     rw[c1] at c2
     injection c2 with c3
     exact absurd c3 (by decide)
    case hP=>
     obtain⟨_,b,e,o2,it,m,e2,r⟩:=hkat j v hv;exact⟨b,e,o2,it,m,Heap.get?_push_of_some _ (Heap.get?_push_of_some _ e2),r⟩
    case hS0=>
     refine z7N (h:=(s.heap.push { cls :=.type "set",dict:=none,data :=.set #[] 0 (.fresh 0 0 led) }).push { cls :=.type "list_iterator",data :=.fields #[.ref l,.int 0 0] }) ?_;rw[hled];exact Heap.get?_push_of_some _ hS
    case hR=>
     intro s' kl hm hS' hkl hmem;obtain⟨h',g',d',tk',os'⟩:=s';have eg:g'=s.gens:=hm.gens;have ed:d'=s.drawn:=hm.drawn;have eo:os'=s.os:=hm.os;subst eg; subst ed; subst eo;show wpAny _ _ _ _ _ _;refine wpAny_pure ?_;show wpAny _ _ (ret Value.none) _ _ _;refine wpAny_pure ⟨rfl,h',tk',kl,rfl,hS',hkl,λx =>?_,λb o hb e =>?_⟩
     ·rw[hmem x]
      constructor
      ·rintro⟨j,hj,e⟩;have hj':j<ks.length:=by rw[hks]; exact hj
       rw[<- e];show ks.getD j []∈ks;rw[List.getD_eq_getElem?_getD,List.getElem?_eq_getElem hj'];exact List.getElem_mem hj'
      ·intro hx;obtain⟨j,hj,e⟩:=List.mem_iff_getElem.mp hx;refine⟨j,by rw[<- hks]; exact hj,?_⟩;show ks.getD j []=x;rw[List.getD_eq_getElem?_getD,List.getElem?_eq_getElem hj];exact e
     ·have hb1:b≠s.heap.objs.size:=Nat.ne_of_lt hb;have hb2:b≠(s.heap.push { cls :=.type "set",dict:=none,data :=.set #[] 0 (.fresh 0 0 led) }).objs.size:=by
       rw[Heap.size_push]; exact Nat.ne_of_lt (Nat.lt_succ_of_lt hb)
      exact hm.heap b o (by simp only[List.mem_cons,List.mem_singleton,List.not_mem_nil,or_false,not_or]; exact⟨hb1,hb2⟩) (Heap.get?_push_of_some _ (Heap.get?_push_of_some _ e))
   ·cases r₂ with
    | error e=>exact hr₂
    | ok fl₂=>
     cases fl₂ with
     | ret r=>
      obtain⟨rfl,h',tk,kl,rfl,hS',hk1,hk2,hk'⟩:=hr₂
      repeat (any_goals (first | assumption | wp_step))
      exact h _ _ _ hS' hk1 hk2 hk'
     | _=>exact hr₂.elim
  | _=>exact hr.elim
theorem z7J {M:Value->Prop}{l:Addr}{z06:Array Value}{ks:List (List Int)}{Q:Value->Shared->Prop}
  (hh:A.handled=none) (hu:A.units+8<cLine) (hl:s.heap.IsTuple l z06) (hi:Two (IsK prog w M s.heap) z06.toList ks) (hb:z06.size<=2040)
  (h:∀(h':Heap) (tk:Nat) (kl:List (List Int)),SetK prog w M h' s.heap.objs.size kl->kl.length<=z06.size->(∀x,x∈kl↔x∈ks)->
   (∀b o,b<s.heap.objs.size->s.heap.get? b=some o->h'.get? b=some o)->Q (.ref s.heap.objs.size) { s with heap:=h',toks:=tk }):
  wpAny (model prog w) A (call (.type "set") [.ref l]) Q E s:=by
 obtain⟨c,tl,hmro⟩:=F.called_set.mro;have hmade:=F.called_set.made;have hsub:=F.called_set.sub;refine wpAny_call (codeAny_of_tree ?_);show wpAny _ _ (callAny (.type "set") _) _ _ _;refine wpAny_pure ⟨Code.quiet_builtin _ (by decide +kernel),codeAny_builtin F.entry_type_call ?_⟩;rw[Around.under_plain (weight_type_call_type "set" [.ref l] []) rfl];have h1:=F.called_set.notType;have h2:=F.called_set.canCreate;have hct:=F.typeCall_set_1 (.ref l)
 repeat (any_goals (first | assumption | wp_step))
 refine codeAny_mono (z5w (.ref l) (E:=E) (Q₁:=λobj s₁=>obj = .ref s.heap.objs.size/\s₁={ s with heap:=s.heap.push { cls :=.type "set",dict:=none,data :=.set #[] 0 (.fresh 0 0 (led0 w)) } }) ⟨rfl,rfl⟩) λr s₁ hr =>?_
 cases r with
 | error e=>exact hr
 | ok fl=>
  cases fl with
  | ret obj=>
   obtain⟨rfl,rfl⟩:=hr;generalize hled:led0 w=led at*;have hS:(s.heap.push { cls :=.type "set",dict:=none,data :=.set #[] 0 (.fresh 0 0 led) }).get? s.heap.objs.size=some { cls :=.type "set",dict:=none,data :=.set #[] 0 (.fresh 0 0 led) }:=Heap.get?_push_size _ rfl;have hT:Shared.TypeIs { s with heap:=s.heap.push { cls :=.type "set",dict:=none,data :=.set #[] 0 (.fresh 0 0 led) } } (.ref s.heap.objs.size) "set":=⟨_,hS,rfl⟩
   have hli:=F.called_set.init.lookup;have hbi:=F.called_set.init.bind (.ref s.heap.objs.size)
   repeat (any_goals (first | assumption | wp_step))
   refine codeAny_mono (codeAny_call_builtin (R:=wants (λr s₂=>r = .none/\∃h' tk kl,s₂={ s with heap:=h',toks:=tk }/\SetK prog w M h' s.heap.objs.size kl/\kl.length<=z06.size/\(∀x,x∈kl↔x∈ks)/\
     (∀b o,b<s.heap.objs.size->s.heap.get? b=some o->h'.get? b=some o)) E) F.called_set.init.plain F.entry_set_init (check_set_init_1 hT ?_)) λr₂ s₂ hr₂ =>?_
   ·obtain⟨ol,hol,hcl,nl,hdl⟩:=hl;obtain⟨ocls,odict,odata,oslots⟩:=ol;simp only at hcl hdl;subst hcl; subst hdl;have hol':(s.heap.push { cls :=.type "set",dict:=none,data :=.set #[] 0 (.fresh 0 0 led) }).get? l=some { cls :=.type "tuple",dict:=odict,data :=.seq z06 nl,slots:=oslots }:=Heap.get?_push_of_some _ hol;have hsls:=z8a;have hslf:=z4O;have hne:(Value.type "tuple" == Value.type "dict")=false:=by decide
    have hl1:(s.heap.push { cls :=.type "set",dict:=none,data :=.set #[] 0 (.fresh 0 0 led) }).IsTuple l z06:=⟨_,hol',rfl,nl,rfl⟩
    unfold Builtin.«set.__init__» noKeywords Builtin.Frozenset.updateFrom;generalize hPI:pyIter=PI
    wp_walk
    subst hPI;refine wpAny_pyIter_tuple hl1 ?_;refine wpAny_bind (wpAny_runValue ?_);have hlS:l<s.heap.objs.size:=Heap.lt_size hol;have hh3:A.in1.in1.in1.handled=none:=by simp[hh]
    have hneI:l≠(s.heap.push { cls :=.type "set",dict:=none,data :=.set #[] 0 (.fresh 0 0 led) }).objs.size:=by
     rw[Heap.size_push]; exact Nat.ne_of_lt (Nat.lt_succ_of_lt hlS)
    have hSf:s.heap.objs.size ∉ [(s.heap.push { cls :=.type "set",dict:=none,data :=.set #[] 0 (.fresh 0 0 led) }).objs.size,l]:=by
     rw[Heap.size_push]; simp only[List.mem_cons,List.mem_singleton,List.not_mem_nil,or_false,not_or];exact⟨Nat.ne_of_lt (Nat.lt_succ_self _),Nat.ne_of_gt hlS⟩
    have hkat:∀(i:Nat) (v:Value),z06[i]? = some v->M v/\∃b,v = .ref b/\TK prog w s.heap (ks.getD i []) b:=λi v hv=>by
     have hv':z06.toList[i]? = some v:=by simpa using hv
     generalize z06.toList=il at hi hv';clear hv h
     induction hi generalizing i with
     | nil=>simp at hv'
     | cons h0 _ ih=>
      cases i with
      | zero=>
       simp at hv';subst hv';exact h0
      | succ i=>exact ih i (by simpa using hv')
    have hks:ks.length=z06.size:=by
     have:∀{l:List Value}{m:List (List Int)},Two (IsK prog w M s.heap) l m->l.length=m.length:=by
      intro l m t
      induction t with
      | nil=>rfl
      | cons _ _ ih=>simp[ih]
     have:=this hi;simpa using this.symm
    refine z6z ((Walks.tuple hh3 _ l hneI z06).toS) s.heap.objs.size hSf (by simp; lia) (λi=>ks.getD i []) hb ?hw (λj v hv=>(hkat j v hv).1) (z06.size - 0) 0 _ [] (by lia) (Nat.zero_le _)
     ⟨⟨_,Heap.get?_push_size _ rfl,rfl,rfl⟩,?hl2⟩ (λj v hv => ?hP) ?hS0 (Nat.zero_le _) (λx=>by simp) ?hR
    case hl2=>exact⟨_,Heap.get?_push_of_some _ hol',rfl,nl,rfl⟩
    case hw=>
     intro i s0 hst b hb' k z;rw[List.mem_singleton.mp hb'] at z;obtain⟨⟨o1,e1,c1,_⟩,_⟩:=hst;obtain⟨o2,_,_,e2,c2,_⟩:=z;rw[e1] at e2
     cases e2
     rw[c1] at c2
     injection c2 with c3
     exact absurd c3 (by decide)
    case hP=>
     obtain⟨_,b,e,o2,it,m,e2,r⟩:=hkat j v hv;exact⟨b,e,o2,it,m,Heap.get?_push_of_some _ (Heap.get?_push_of_some _ e2),r⟩
    case hS0=>
     refine z7N (h:=(s.heap.push { cls :=.type "set",dict:=none,data :=.set #[] 0 (.fresh 0 0 led) }).push { cls :=.type "tuple_iterator",data :=.fields #[.ref l,.int 0 0] }) ?_;rw[hled];exact Heap.get?_push_of_some _ hS
    case hR=>
     intro s' kl hm hS' hkl hmem;obtain⟨h',g',d',tk',os'⟩:=s';have eg:g'=s.gens:=hm.gens;have ed:d'=s.drawn:=hm.drawn;have eo:os'=s.os:=hm.os;subst eg; subst ed; subst eo;show wpAny _ _ _ _ _ _;refine wpAny_pure ?_;show wpAny _ _ (ret Value.none) _ _ _;refine wpAny_pure ⟨rfl,h',tk',kl,rfl,hS',hkl,λx =>?_,λb o hb e =>?_⟩
     ·rw[hmem x]
      constructor
      ·rintro⟨j,hj,e⟩;have hj':j<ks.length:=by rw[hks]; exact hj
       rw[<- e];show ks.getD j []∈ks;rw[List.getD_eq_getElem?_getD,List.getElem?_eq_getElem hj'];exact List.getElem_mem hj'
      ·intro hx;obtain⟨j,hj,e⟩:=List.mem_iff_getElem.mp hx;refine⟨j,by rw[<- hks]; exact hj,?_⟩;show ks.getD j []=x;rw[List.getD_eq_getElem?_getD,List.getElem?_eq_getElem hj];exact e
     ·have hb1:b≠s.heap.objs.size:=Nat.ne_of_lt hb;have hb2:b≠(s.heap.push { cls :=.type "set",dict:=none,data :=.set #[] 0 (.fresh 0 0 led) }).objs.size:=by
       rw[Heap.size_push]; exact Nat.ne_of_lt (Nat.lt_succ_of_lt hb)
      exact hm.heap b o (by simp only[List.mem_cons,List.mem_singleton,List.not_mem_nil,or_false,not_or]; exact⟨hb1,hb2⟩) (Heap.get?_push_of_some _ (Heap.get?_push_of_some _ e))
   ·cases r₂ with
    | error e=>exact hr₂
    | ok fl₂=>
     cases fl₂ with
     | ret r=>
      obtain⟨rfl,h',tk,kl,rfl,hS',hk1,hk2,hk'⟩:=hr₂
      repeat (any_goals (first | assumption | wp_step))
      exact h _ _ _ hS' hk1 hk2 hk'
     | _=>exact hr₂.elim
  | _=>exact hr.elim
end
end Tab
namespace Tim
open PySem PyProof.Rows
noncomputable def za9:Bool->Keyed->Array Keyed->Nat->Nat->Nat->StateT SortSt Sem (Option Nat):=sortPriv% PySem.Builtin.gallop
noncomputable def z1I:Nat->StateT SortSt Sem Unit:=sortPriv% PySem.Builtin.setMinGallop
noncomputable def zec:Array Keyed->Array Keyed->StateT SortSt Sem (Array Keyed):=sortPriv% PySem.Builtin.mergeLo
noncomputable def zed:Array Keyed->Array Keyed->StateT SortSt Sem (Array Keyed):=sortPriv% PySem.Builtin.mergeHi
noncomputable abbrev z1J (st:SortSt)(g:Nat):SortSt:=SortSt.mk' (kindOf st) (arrOf st) (pendingOf st) g (failedOf st)
theorem z1x (g:Nat):z1I g=modify λs=>z1J s g:=rfl
section
variable {M:Model}{A:Around}{E:Value->Shared->Prop}{s:Shared}{rk:Keyed->Nat}{κ:SortKind}{a₀:Array Keyed}
noncomputable def Asks (M:Model)(A:Around)(s:Shared)(κ:SortKind)(a₀:Array Keyed)(rk:Keyed->Nat):Prop:=
 ∀x y,x∈a₀.toList->y∈a₀.toList->∀(Q:Bool->Shared->Prop) (E:Value->Shared->Prop),Q (decide (rk x<rk y)) s->wpAny M A (keyLt' κ x.1 y.1) Q E s
structure TB (κ:SortKind)(a₀:Array Keyed)(st:SortSt):Prop where
 kind:kindOf st=κ
 failed:failedOf st=none
 perm:(arrOf st).Perm a₀
theorem zih {α:Type}{P:α->Prop}{G:Prop}(p:∀x,P x)(u:(∀x,P x)->G):G:=u p
theorem ze4 {α β:Type}{H P:α->β->Prop}{G:Prop}(p:∀x y,H x y->P x y)(u:(∀x y,H x y->P x y)->G):G:=u p
theorem zig {α:Type}{H P:α->Prop}{G:Prop}(p:∀x,H x->P x)(u:(∀x,H x->P x)->G):G:=u p
theorem z8M (hL:Asks M A s κ a₀ rk){st:SortSt}{x y:Keyed}{Q:Option Bool->SortSt->Prop}(hk:kindOf st=κ)(hx:x∈a₀.toList)(hy:y∈a₀.toList)(h:Q (some (decide (rk x<rk y))) st):
  wpS M A E s (lt' x y) Q st:=by
 rw[lt'_eq];refine wpS_bind (wpS_get ?_);rw[hk];refine wpS_bind (wpS_lift (wpAny_attempt (hL x y hx hy _ _ ⟨rfl,?_⟩)));exact wpS_pure h
theorem z0s {st:SortSt}{arr:Array Keyed}{i:Nat}{p:Keyed}{Q:Keyed->SortSt->Prop}(e:arr[i]? = some p)(h:Q p st):wpS M A E s (elem' arr i) Q st:=by
 rw[elem'_eq,e];exact wpS_pure h
theorem TB.size {st:SortSt}(h:TB κ a₀ st):(arrOf st).size=a₀.size:=h.perm.size_eq
theorem TB.mem {st:SortSt}(h:TB κ a₀ st){p:Keyed}(hp:p∈(arrOf st).toList):p∈a₀.toList:=(Array.perm_iff_toList_perm.mp h.perm).mem_iff.mp hp
noncomputable def Rk (rk:Keyed->Nat)(xs:Array Keyed)(i:Nat):Nat:=match xs[i]? with
 | some p=>rk p
 | none=>0
theorem z0H {xs:Array Keyed}{i:Nat}{p:Keyed}(h:xs[i]? = some p):Rk rk xs i=rk p:=by unfold Rk; rw[h]
theorem z1r {xs ys:Array Keyed}{i j:Nat}(h:xs[i]? = ys[j]?):Rk rk xs i=Rk rk ys j:=by unfold Rk; rw[h]
theorem z1B {xs:Array Keyed}{i:Nat}(h:i<xs.size):∃p,xs[i]? = some p/\p∈xs.toList:=⟨xs[i],getElem?_pos xs i h,by simp⟩
theorem TB.setArr {st:SortSt}(h:TB κ a₀ st){xs:Array Keyed}(hp:xs.Perm (arrOf st)):TB κ a₀ (setArr st xs):=⟨h.kind,h.failed,hp.trans h.perm⟩
theorem z5A (hL:Asks M A s κ a₀ rk){st:SortSt}{i j:Nat}{Q:Option Bool->SortSt->Prop}(hB:TB κ a₀ st)(hi:i<a₀.size)(hj:j<a₀.size)
  (h:Q (some (decide (Rk rk (arrOf st) i<Rk rk (arrOf st) j))) st):wpS M A E s (ltAt' i j) Q st:=by
 obtain⟨p,e1,m1⟩:=z1B (xs:=arrOf st) (i:=i) (by rw[hB.size]; exact hi);obtain⟨q,e2,m2⟩:=z1B (xs:=arrOf st) (i:=j) (by rw[hB.size]; exact hj);rw[z0H e1,z0H e2] at h;rw[ltAt'_eq];refine wpS_bind (wpS_get ?_);exact wpS_bind (z0s e1 (wpS_bind (z0s e2 (z8M hL hB.kind (hB.mem m1) (hB.mem m2) h))))
theorem z7M (hL:Asks M A s κ a₀ rk){st:SortSt}{left:Bool}{key:Keyed}{arr:Array Keyed}{base n hint:Nat}{Q:Option Nat->SortSt->Prop}(hk:kindOf st=κ)(hkey:key∈a₀.toList)
  (harr:∀p∈arr.toList,p∈a₀.toList) (hn:base+n<=arr.size) (hh:hint<n) (P:Nat->Bool)
  (hP:∀i,i<n->P i=(if left then decide (Rk rk arr (base+i)<rk key) else !decide (rk key<Rk rk arr (base+i))))
  (hmono:∀i j,i<=j->j<n->P j=true->P i=true)
  (h:∀k,k<=n->(∀i,i<k->P i=true)->(∀i,k<=i->i<n->P i=false)->Q (some k) st):wpS M A E s (za9 left key arr base n hint) Q st:=by
 have ask:∀(i:Nat) (R:Option Bool->SortSt->Prop),i<n->R (some (P i)) st->wpS M A E s (do
   let x <- elem' arr (base+i)
   if left=true then lt' x key else do
    let r <- lt' key x
    pure (r.map (!·))) R st:=by
  intro i R hi hr;obtain⟨p,e1,m1⟩:=z1B (xs:=arr) (i:=base+i) (by omega);rw[hP i hi,z0H e1] at hr;refine wpS_bind (z0s e1 ?_)
  cases left with
  | true=>exact z8M hL hk (harr _ m1) hkey hr
  | false=>exact wpS_bind (z8M hL hk hkey (harr _ m1) (wpS_pure hr))
 have hmonoF:∀i j,i<=j->j<n->P i=false->P j=false:=λi j hij hj hi=>by
  cases q:P j with
  | false=>rfl
  | true=>rw[hmono i j hij hj q] at hi; cases hi
 have last:∀lo hi,lo<=hi->hi<=n->(∀i,i<lo->P i=true)->(∀i,hi<=i->i<n->P i=false)->∀(f:Nat->Option (Option Nat) × Nat × Nat->StateT SortSt Sem (ForInStep (Option (Option Nat) × Nat × Nat))) (k:Option (Option Nat) × Nat × Nat->StateT SortSt Sem (Option Nat)),
   (∀x l r (R:ForInStep (Option (Option Nat) × Nat × Nat)->SortSt->Prop),r<=n->(l>=r->R (.done (none,l,r)) st)->(l<r->P (l+(r - l) / 2)=true->R (.yield (none,l+(r - l) / 2+1,r)) st)->(l<r->P (l+(r - l) / 2)=false->R (.yield (none,l,l+(r - l) / 2)) st)->wpS M A E s (f x (none,l,r)) R st)->
   (∀l r (R:Option Nat->SortSt->Prop),R (some r) st->wpS M A E s (k (none,l,r)) R st)->wpS M A E s (forIn [0:n] ((none,lo,hi):Option (Option Nat) × Nat × Nat) f >>= k) Q st:=by
  intro lo hi hlh hhn hlo hhi f k hf hk;refine wpS_bind (wpS_mono (wpS_forRange (I:=λx c st'=>st'=st/\∃l r,c=(none,l,r)/\l<=r/\r<=n/\r - l<=n - x/\(∀i,i<l->P i=true)/\(∀i,r<=i->i<n->P i=false))
   (Q:=λc st'=>st'=st/\∃l,c=(none,l,l)/\l<=n/\(∀i,i<l->P i=true)/\(∀i,l<=i->i<n->P i=false)) ?step ?fin ⟨rfl,lo,hi,rfl,hlh,hhn,by omega,hlo,hhi⟩) ?post)
  case fin=>
   rintro c st' ⟨rfl,l,r,rfl,h1,h2,h3,h4,h5⟩;have:l=r:=by omega
   subst this;exact⟨rfl,l,rfl,h2,h4,h5⟩
  case post=>
   rintro c st' ⟨rfl,l,rfl,h2,h4,h5⟩;exact hk _ _ _ (h l h2 h4 h5)
  case step=>
   rintro x c st' _ hx ⟨rfl,l,r,rfl,h1,h2,h3,h4,h5⟩;refine hf x l r _ h2 (λhge =>?_) (λhlt q =>?_) (λhlt q =>?_)
   ·have:l=r:=by omega
    subst this;exact⟨rfl,l,rfl,h2,h4,h5⟩
   ·exact⟨rfl,_,_,rfl,by omega,h2,by omega,λi hi=>hmono i _ (by omega) (by omega) q,h5⟩
   ·exact⟨rfl,_,_,rfl,by omega,by omega,by omega,h4,λi h1 h2=>hmonoF _ i h1 h2 q⟩
 try dsimp only
 refine wpS_bind (ask hint _ hh ?_)
 cases q:P hint with
 | true=>
  simp only[if_true];refine wpS_bind (wpS_mono (wpS_forRange (I:=λx c st'=>st'=st/\∃la o,c=(none,la,o)/\la<o/\x<o/\hint+la<n/\P (hint+la)=true)
   (Q:=λc st'=>st'=st/\∃la o,c=(none,la,o)/\la<o/\hint+la<n/\P (hint+la)=true/\(o>=n - hint\/(hint+o<n/\P (hint+o)=false))) ?step ?fin ⟨rfl,0,1,rfl,by omega,by omega,by omega,q⟩) ?post)
  case post=>
   rintro c st' ⟨rfl,la,o,rfl,h1,h2,h3,h4⟩;dsimp only;refine last (hint+la+1) (hint+min o (n - hint)) (by omega) (by omega) (λi hi=>hmono i (hint+la) (by omega) h2 h3) (λi h5 h6 =>?_) _ _ ?_ ?_
   rotate_left
   ·intro x l r R hr ha hb hc;dsimp only
    by_cases hge:l>=r
    ·rw[if_pos hge]; exact wpS_pure (ha hge)
    ·rw[if_neg hge];refine wpS_bind (ask (l+(r - l) / 2) _ (by omega) ?_)
     cases q9:P (l+(r - l) / 2) with
     | true=>simp only[if_true]; exact wpS_pure (hb (by omega) q9)
     | false=>simp only[Bool.false_eq_true,if_false]; exact wpS_pure (hc (by omega) q9)
   ·intro l r R hr;exact wpS_pure hr
   rcases h4 with h4 | ⟨h4,h7⟩
   ·omega
   ·exact hmonoF (hint+o) i (by omega) h6 h7
  case fin=>
   rintro c st' ⟨rfl,la,o,rfl,h1,h0,h2,h3⟩;exact⟨rfl,la,o,rfl,h1,h2,h3,.inl (by omega)⟩
  case step=>
   rintro x c st' _ hx ⟨rfl,la,o,rfl,h1,h0,h2,h3⟩;dsimp only
   by_cases hge:o>=n - hint
   ·rw[if_pos hge];exact wpS_pure ⟨rfl,la,o,rfl,h1,h2,h3,.inl hge⟩
   ·rw[if_neg hge];refine wpS_bind (ask (hint+o) _ (by omega) ?_)
    cases q':P (hint+o) with
    | true=>
     simp only[Bool.not_true,Bool.false_eq_true,if_false];exact wpS_pure ⟨rfl,_,_,rfl,by omega,by omega,by omega,q'⟩
    | false=>
     simp only[Bool.not_false,if_true];exact wpS_pure ⟨rfl,la,o,rfl,h1,h2,h3,.inr ⟨by omega,q'⟩⟩
 | false=>
  simp only[Bool.false_eq_true,if_false];refine wpS_bind (wpS_mono (wpS_forRange (I:=λx c st'=>st'=st/\∃la o,c=(none,la,o)/\la<o/\x<o/\la<=hint/\P (hint - la)=false)
   (Q:=λc st'=>st'=st/\∃la o,c=(none,la,o)/\la<o/\la<=hint/\P (hint - la)=false/\(o>=hint+1\/(o<=hint/\P (hint - o)=true))) ?step ?fin ⟨rfl,0,1,rfl,by omega,by omega,by omega,q⟩) ?post)
  case post=>
   rintro c st' ⟨rfl,la,o,rfl,h1,h2,h3,h4⟩;dsimp only;refine last (hint+1 - min o (hint+1)) (hint - la) (by omega) (by omega) (λi hi =>?_) (λi h5 h6=>hmonoF (hint - la) i h5 h6 h3) _ _ ?_ ?_
   rotate_left
   ·intro x l r R hr ha hb hc;dsimp only
    by_cases hge:l>=r
    ·rw[if_pos hge]; exact wpS_pure (ha hge)
    ·rw[if_neg hge];refine wpS_bind (ask (l+(r - l) / 2) _ (by omega) ?_)
     cases q9:P (l+(r - l) / 2) with
     | true=>simp only[if_true]; exact wpS_pure (hb (by omega) q9)
     | false=>simp only[Bool.false_eq_true,if_false]; exact wpS_pure (hc (by omega) q9)
   ·intro l r R hr;exact wpS_pure hr
   rcases h4 with h4 | ⟨h4,h7⟩
   ·omega
   ·exact hmono i (hint - o) (by omega) (by omega) h7
  case fin=>
   rintro c st' ⟨rfl,la,o,rfl,h1,h0,h2,h3⟩;exact⟨rfl,la,o,rfl,h1,h2,h3,.inl (by omega)⟩
  case step=>
   rintro x c st' _ hx ⟨rfl,la,o,rfl,h1,h0,h2,h3⟩;dsimp only
   by_cases hge:o>=hint+1
   ·rw[if_pos hge];exact wpS_pure ⟨rfl,la,o,rfl,h1,h2,h3,.inl hge⟩
   ·rw[if_neg hge];refine wpS_bind (ask (hint - o) _ (by omega) ?_)
    cases q':P (hint - o) with
    | false=>
     simp only[Bool.false_eq_true,if_false]
     by_cases h9:2*o+1<=hint+1
     ·exact wpS_pure ⟨rfl,_,_,rfl,by omega,by omega,by omega,q'⟩
     ·exact wpS_pure ⟨rfl,_,_,rfl,by omega,by omega,by omega,q'⟩
    | true=>
     simp only[if_true];exact wpS_pure ⟨rfl,la,o,rfl,h1,h2,h3,.inr ⟨by omega,q'⟩⟩
theorem z0e {σ α:Type}{c:Prop}[Decidable c]{x y:StateT σ Sem α}{Q:α->σ->Prop}{st:σ}(h:c)(k:wpS M A E s x Q st):wpS M A E s (if c then x else y) Q st:=by
 rw[if_pos h];exact k
theorem z0c {σ α:Type}{c:Prop}[Decidable c]{x y:StateT σ Sem α}{Q:α->σ->Prop}{st:σ}(h:¬ c)(k:wpS M A E s y Q st):wpS M A E s (if c then x else y) Q st:=by
 rw[if_neg h];exact k
end
section
variable {t1 t2 t3 t4 t5 t6 t7 C S:Type}{c:C}{s:S}{G:C->S->Prop}
theorem el5 {F:t1->t2->t3->t4->t5->C}{H:t1->t2->t3->t4->t5->S}{P:t1->t2->t3->t4->t5->Prop}(h:∃a b x d e,c=F a b x d e/\s=H a b x d e/\P a b x d e)(k:∀a b x d e,P a b x d e->G (F a b x d e) (H a b x d e)):G c s:=by
 obtain⟨a,b,x,d,e,rfl,rfl,p⟩:=h;exact k a b x d e p
theorem el7 {F:t1->t2->t3->t4->t5->t6->t7->C}{H:t1->t2->t3->t4->t5->t6->t7->S}{P:t1->t2->t3->t4->t5->t6->t7->Prop}(h:∃a b x d e f g,c=F a b x d e f g/\s=H a b x d e f g/\P a b x d e f g)(k:∀a b x d e f g,P a b x d e f g->G (F a b x d e f g) (H a b x d e f g)):G c s:=by
 obtain⟨a,b,x,d,e,f,g,rfl,rfl,p⟩:=h;exact k a b x d e f g p
theorem elc0 {C:Type}{c F:C}{P:Prop}{G:C->Prop}(h:c=F/\P)(k:P->G F):G c:=by
 obtain⟨rfl,p⟩:=h;exact k p
theorem elc1 {t1 C:Type}{c:C}{F:t1->C}{P:t1->Prop}{G:C->Prop}(h:∃a,c=F a/\P a)(k:∀a,P a->G (F a)):G c:=by
 obtain⟨a,rfl,p⟩:=h;exact k a p
end
end Tim
namespace Tim
open PySem PyProof.Rows
section
variable {M:Model}{A:Around}{E:Value->Shared->Prop}{s:Shared}{rk:Keyed->Nat}{κ:SortKind}{a₀:Array Keyed}
noncomputable def Seg (rk:Keyed->Nat)(xs:Array Keyed)(i j:Nat):Prop:=∀p q,i<=p->p<=q->q<j->Rk rk xs p<=Rk rk xs q
noncomputable def Gec (rk:Keyed->Nat)(xs:Array Keyed)(i j:Nat):Prop:=∀p q,i<=p->p<=q->q<j->Rk rk xs q<=Rk rk xs p
noncomputable def Low (xs ys:Array Keyed)(lo:Nat):Prop:=∀k,k<lo->xs[k]? = ys[k]?
theorem Seg.one {xs:Array Keyed}{i j:Nat}(h:j<=i+1):Seg rk xs i j:=λp q a1 a2 a3=>by
 obtain rfl:p=q:=by lia
 exact Nat.le_refl _
theorem Low.refl {xs:Array Keyed}{lo:Nat}:Low xs xs lo:=λ_ _=>rfl
theorem Low.trans {xs ys zs:Array Keyed}{lo:Nat}(h:Low xs ys lo)(k:Low ys zs lo):Low xs zs lo:=λi hi=>(h i hi).trans (k i hi)
theorem z7n {xs:Array Keyed}{i j:Nat}(hj:j<=xs.size)(k:Nat):
  Rk rk (mirror xs i j ((j - i) / 2)) k=if i<=k/\k<j then Rk rk xs (i+j - 1 - k) else Rk rk xs k:=by
 have e:=getElem?_mirror_all (i:=i) hj k
 by_cases h1:i<=k/\k<j
 ·rw[if_pos h1] at e ⊢; exact z1r e
 ·rw[if_neg h1] at e ⊢; exact z1r e
theorem z1k {xs:Array Keyed}{i j:Nat}(hj:j<=xs.size)(heq:∀k,i<=k->k<j->Rk rk xs k=Rk rk xs (j - 1))(k:Nat):
  Rk rk (mirror xs i j ((j - i) / 2)) k=Rk rk xs k:=by
 rw[z7n hj]
 split
 ·rw[heq _ (by lia) (by lia),heq k (by lia) (by lia)]
 ·rfl
theorem z4t {xs:Array Keyed}{i j lo:Nat}(hj:j<=xs.size)(hi:lo<=i):Low (mirror xs i j ((j - i) / 2)) xs lo:=λk hk=>by
 rw[getElem?_mirror_all hj k,if_neg (by lia)]
theorem z9L {xs:Array Keyed}{src d:Nat}(hs:src<xs.size)(hd:d<=src)(k:Nat):
  Rk rk (bubble xs src d) k=if k=src - d then Rk rk xs src else if src - d<k/\k<=src then Rk rk xs (k - 1) else Rk rk xs k:=by
 have e:=getElem?_bubble hs d hd k
 by_cases h1:k=src - d
 ·rw[if_pos h1] at e ⊢; exact z1r e
 ·rw[if_neg h1] at e ⊢
  by_cases h2:src - d<k/\k<=src
  ·rw[if_pos h2] at e ⊢; exact z1r e
  ·rw[if_neg h2] at e ⊢; exact z1r e
theorem zbL {xs:Array Keyed}{src d lo:Nat}(hs:src<xs.size)(hd:d<=src)(hl:lo<=src - d):Low (bubble xs src d) xs lo:=λk hk=>by
 rw[getElem?_bubble hs d hd k,if_neg (by lia),if_neg (by lia)]
theorem z2U {st:SortSt}{i j:Nat}{Q:Unit->SortSt->Prop}(h:Q () (setArr st (mirror (arrOf st) i j ((j - i) / 2)))):
  wpS M A E s (reverseSlice' i j) Q st:=by
 rw[reverseSlice'_eq]; exact wpS_modify h
theorem zbM {st:SortSt}{lo a nrem:Nat}{Q:Option Nat->SortSt->Prop}{f:Nat->Option (Option Nat) × Nat->StateT SortSt Sem (ForInStep (Option (Option Nat) × Nat))}{k:Option (Option Nat) × Nat->StateT SortSt Sem (Option Nat)}
  (ha:1<=a) (han:a<=nrem) (hs:Seg rk (arrOf st) lo (lo+a))
  (hf:∀x n (R:ForInStep (Option (Option Nat) × Nat)->SortSt->Prop),1<=n->n<nrem->(Rk rk (arrOf st) (lo+n)<Rk rk (arrOf st) (lo+n - 1)->R (.done (none,n)) st)->(Rk rk (arrOf st) (lo+n - 1)<=Rk rk (arrOf st) (lo+n)->R (.yield (none,n+1)) st)->wpS M A E s (f x (none,n)) R st)
  (hk:∀n,a<=n->n<=nrem->Seg rk (arrOf st) lo (lo+n)->(n=nrem\/Rk rk (arrOf st) (lo+n)<Rk rk (arrOf st) (lo+n - 1))->wpS M A E s (k (none,n)) Q st):
  wpS M A E s (forIn [a:nrem] ((none,a):Option (Option Nat) × Nat) f >>= k) Q st:=by
 refine wpS_bind (wpS_mono (wpS_forRange (I:=λx c st'=>st'=st/\c=(none,x)/\Seg rk (arrOf st) lo (lo+x))
  (Q:=λc st'=>st'=st/\∃n,c=(none,n)/\a<=n/\n<=nrem/\Seg rk (arrOf st) lo (lo+n)/\(n=nrem\/Rk rk (arrOf st) (lo+n)<Rk rk (arrOf st) (lo+n - 1))) ?step ?fin ⟨rfl,rfl,hs⟩) ?post)
 case fin=>
  rintro c st' ⟨rfl,rfl,hs'⟩;rw[show max a nrem=nrem by lia] at hs' ⊢;exact⟨rfl,nrem,rfl,han,Nat.le_refl _,hs',.inl rfl⟩
 case post=>
  rintro c st' ⟨rfl,n,rfl,h1,h2,h3,h4⟩;exact hk n h1 h2 h3 h4
 case step=>
  rintro x c st' hax hxn ⟨rfl,rfl,hs'⟩;refine hf x x _ (by lia) hxn (λhl=>⟨rfl,x,rfl,hax,by lia,hs',.inr hl⟩) (λhl=>⟨rfl,rfl,λp q h1 h2 h3 =>?_⟩)
  by_cases hq:q<lo+x
  ·exact hs' p q h1 h2 hq
  ·have e:q=lo+x:=by lia
   subst e
   by_cases hp:p=lo+x
   ·subst hp; exact Nat.le_refl _
   ·exact Nat.le_trans (hs' p (lo+x - 1) h1 (by lia) (by lia)) hl
theorem z8N (hL:Asks M A s κ a₀ rk){st:SortSt}{lo nrem:Nat}{Q:Option Nat->SortSt->Prop}(hn:lo+nrem<=a₀.size)(h1:1<=nrem)(hB:TB κ a₀ st)
  (h:∀m st',TB κ a₀ st'->pendingOf st'=pendingOf st->1<=m->m<=nrem->Seg rk (arrOf st') lo (lo+m)->Low (arrOf st') (arrOf st) lo->Q (some m) st'):
  wpS M A E s (countRun' lo nrem) Q st:=by
 try dsimp only
 refine zbM (rk:=rk) (lo:=lo) (Nat.le_refl 1) h1 (Seg.one (Nat.le_refl _)) ?f ?k
 case f=>
  intro x n R n1 n2 ha hb;dsimp only;refine wpS_bind (z5A hL hB (by lia) (by lia) ?_)
  by_cases hl:Rk rk (arrOf st) (lo+n)<Rk rk (arrOf st) (lo+n - 1)
  ·refine z0e (by simpa using hl) ?_; exact wpS_pure (ha hl)
  ·refine z0c (by simpa using hl) ?_; exact wpS_pure (hb (by lia))
 case k=>
  intro n hn1 hn2 hsn hor;dsimp only
  by_cases hnn:n=nrem
  ·refine z0e (by simpa using hnn) ?_;exact wpS_pure (h n st hB rfl hn1 hn2 hsn Low.refl)
  ·refine z0c (by simpa using hnn) ?_;have hlt:=hor.resolve_left hnn;have hsz:lo+n<=(arrOf st).size:=by rw[hB.size]; lia
   refine zig (H:=λst1:SortSt=>TB κ a₀ st1/\pendingOf st1=pendingOf st/\Gec rk (arrOf st1) lo (lo+n+1)/\Low (arrOf st1) (arrOf st) lo) (P := ?pp1) ?tl1 ?us1
   case us1=>
    intro J
    by_cases hgt:n > 1
    ·refine z0e hgt ?_;refine wpS_bind (z5A hL hB (by lia) (by lia) ?_)
     by_cases hrose:Rk rk (arrOf st) lo<Rk rk (arrOf st) (lo+n - 1)
     ·refine z0e (by simpa using hrose) ?_;exact wpS_pure (h n st hB rfl hn1 hn2 hsn Low.refl)
     refine z0c (by simpa using hrose) ?_;have hall:∀k,lo<=k->k<lo+n->Rk rk (arrOf st) k=Rk rk (arrOf st) (lo+n - 1):=by
      intro k k1 k2;have a1:=hsn lo k (by lia) (by lia) k2;have a2:=hsn k (lo+n - 1) (by lia) (by lia) (by lia);lia
     refine wpS_bind (z2U ?_);obtain⟨st1,e1,hB1,hp1,hG1,hl1⟩:∃st1:SortSt,st1=setArr st (mirror (arrOf st) lo (lo+n) ((lo+n - lo) / 2))/\TB κ a₀ st1/\pendingOf st1=pendingOf st/\Gec rk (arrOf st1) lo (lo+n+1)/\Low (arrOf st1) (arrOf st) lo:=by
      refine⟨_,rfl,hB.setArr (mirror_perm _ _ _ _),rfl,λp q p1 p2 p3 =>?_,z4t hsz (Nat.le_refl _)⟩;show Rk rk (mirror (arrOf st) _ _ _) q<=Rk rk (mirror (arrOf st) _ _ _) p;rw[z1k hsz hall,z1k hsz hall]
      by_cases hq:q<lo+n
      ·rw[hall p (by lia) (by lia),hall q (by lia) hq]; exact Nat.le_refl _
      ·have e:q=lo+n:=by lia
       subst e
       by_cases hp:p=lo+n
       ·subst hp; exact Nat.le_refl _
       ·rw[hall p (by lia) (by lia)]; lia
     rw[<- e1];exact J st1 ⟨hB1,hp1,hG1,hl1⟩
    ·refine z0c hgt ?_;refine J st ⟨hB,rfl,λp q p1 p2 p3 =>?_,Low.refl⟩
     by_cases hp:p=q
     ·subst hp; exact Nat.le_refl _
     ·obtain rfl:p=lo:=by lia
      obtain rfl:q=p+n:=by lia
      obtain rfl:n=1:=by lia
      rw[show p+1 - 1=p by lia] at hlt;lia
   rintro st1 ⟨hB1,hp1,hG1,hl1⟩;refine wpS_bind (wpS_lift (wpAny_rule ⟨rfl,?_⟩));refine wpS_bind (wpS_mono (wpS_forRange (I:=λx c st2=>∃neq,c=(none,x,neq)/\TB κ a₀ st2/\pendingOf st2=pendingOf st/\Low (arrOf st2) (arrOf st) lo/\Gec rk (arrOf st2) lo (lo+x)/\neq+1<=x/\
     (∀i,lo+x - (neq+1)<=i->i<lo+x->Rk rk (arrOf st2) i=Rk rk (arrOf st2) (lo+x - 1)))
    (Q:=λc st2=>∃m neq,c=(none,m,neq)/\m<=nrem/\TB κ a₀ st2/\pendingOf st2=pendingOf st/\Low (arrOf st2) (arrOf st) lo/\Gec rk (arrOf st2) lo (lo+m)/\neq+1<=m/\
     (∀i,lo+m - (neq+1)<=i->i<lo+m->Rk rk (arrOf st2) i=Rk rk (arrOf st2) (lo+m - 1))) ?step ?fin ⟨0,rfl,hB1,hp1,hl1,hG1,by lia,λi h1 h2=>by congr 1; lia⟩) ?post)
   case fin=>
    rintro c st2 hI1;apply elc1 (c:=c) hI1;intro neq p1;have hB2:=p1.1;have hp2:=p1.2.1;have hl2:=p1.2.2.1;have hG2:=p1.2.2.2.1;have hq:=p1.2.2.2.2.1;have he:=p1.2.2.2.2.2;clear p1 hI1;refine⟨_,neq,rfl,by lia,hB2,hp2,hl2,hG2,hq,he⟩
   case step=>
    rintro x c st2 hax hxn hI2;apply elc1 (c:=c) hI2;intro neq p2;have hB2:=p2.1;have hp2:=p2.2.1;have hl2:=p2.2.2.1;have hG2:=p2.2.2.2.1;have hq:=p2.2.2.2.2.1;have he:=p2.2.2.2.2.2;clear p2 hI2;dsimp only;have hsz2:lo+x<=(arrOf st2).size:=by rw[hB2.size]; lia
    refine wpS_bind (z5A hL hB2 (by lia) (by lia) ?_)
    by_cases hless:Rk rk (arrOf st2) (lo+x)<Rk rk (arrOf st2) (lo+x - 1)
    ·refine z0e (by simpa using hless) ?_;have step1:∀xs:Array Keyed,(∀k,Rk rk xs k=Rk rk (arrOf st2) k)->Gec rk xs lo (lo+(x+1)):=by
      intro xs hk p q p1 p2 p3;rw[hk,hk]
      by_cases hq':q<lo+x
      ·exact hG2 p q p1 p2 hq'
      ·obtain rfl:q=lo+x:=by lia
       by_cases hp':p=lo+x
       ·subst hp'; exact Nat.le_refl _
       ·exact Nat.le_trans (Nat.le_of_lt hless) (hG2 p (lo+x - 1) p1 (by lia) (by lia))
     by_cases hneq:neq > 0
     ·refine z0e hneq ?_;refine wpS_bind (z2U (wpS_pure ⟨0,rfl,hB2.setArr (mirror_perm _ _ _ _),hp2,(z4t hsz2 (by lia)).trans hl2,step1 _ (z1k hsz2 he),by lia,λi h1 h2=>by congr 1; lia⟩))
     ·refine z0c hneq ?_;exact wpS_pure ⟨0,rfl,hB2,hp2,hl2,step1 _ (λ_=>rfl),by lia,λi h1 h2=>by congr 1; lia⟩
    ·refine z0c (by simpa using hless) ?_;refine wpS_bind (z5A hL hB2 (by lia) (by lia) ?_)
     by_cases hlarger:Rk rk (arrOf st2) (lo+x - 1)<Rk rk (arrOf st2) (lo+x)
     ·refine z0e (by simpa using hlarger) ?_;exact wpS_pure ⟨x,neq,rfl,by lia,hB2,hp2,hl2,hG2,hq,he⟩
     ·refine z0c (by simpa using hlarger) ?_;have heqx:Rk rk (arrOf st2) (lo+x)=Rk rk (arrOf st2) (lo+x - 1):=by lia
      refine wpS_pure ⟨neq+1,rfl,hB2,hp2,hl2,λp q p1 p2 p3 =>?_,by lia,λi h1 h2 =>?_⟩
      ·by_cases hq':q<lo+x
       ·exact hG2 p q p1 p2 hq'
       ·obtain rfl:q=lo+x:=by lia
        by_cases hp':p=lo+x
        ·subst hp'; exact Nat.le_refl _
        ·rw[heqx]; exact hG2 p (lo+x - 1) p1 (by lia) (by lia)
      ·rw[show lo+(x+1) - 1=lo+x by lia]
       by_cases hix:i=lo+x
       ·subst hix; rfl
       ·rw[heqx]; exact he i (by lia) (by lia)
   case post=>
    rintro c st2 ⟨m,neq,rfl,hm,hB2,hp2,hl2,hG2,hq,he⟩;dsimp only;have hsz2:lo+m<=(arrOf st2).size:=by rw[hB2.size]; lia
    refine zig (H:=λst3:SortSt=>TB κ a₀ st3/\pendingOf st3=pendingOf st/\Low (arrOf st3) (arrOf st) lo/\Gec rk (arrOf st3) lo (lo+m)) (P := ?pp2) ?tl2 ?us2
    case us2=>
     intro J
     by_cases hneq:neq > 0
     ·refine z0e hneq ?_;refine wpS_bind (z2U ?_);obtain⟨st3,e3,hB3,hp3,hl3,hG3⟩:∃st3:SortSt,st3=setArr st2 (mirror (arrOf st2) (lo+m - (neq+1)) (lo+m) ((lo+m - (lo+m - (neq+1))) / 2))/\TB κ a₀ st3/\pendingOf st3=pendingOf st/\Low (arrOf st3) (arrOf st) lo/\Gec rk (arrOf st3) lo (lo+m):=by
       refine⟨_,rfl,hB2.setArr (mirror_perm _ _ _ _),hp2,(z4t hsz2 (by lia)).trans hl2,λp q p1 p2 p3 =>?_⟩;show Rk rk (mirror (arrOf st2) _ _ _) q<=Rk rk (mirror (arrOf st2) _ _ _) p;rw[z1k hsz2 he,z1k hsz2 he];exact hG2 p q p1 p2 p3
      rw[<- e3];exact J st3 ⟨hB3,hp3,hl3,hG3⟩
     ·refine z0c hneq ?_;exact J st2 ⟨hB2,hp2,hl2,hG2⟩
    rintro st3 ⟨hB3,hp3,hl3,hG3⟩;have hsz3:lo+m<=(arrOf st3).size:=by rw[hB3.size]; lia
    refine wpS_bind (z2U ?_);have hB4:TB κ a₀ (setArr st3 (mirror (arrOf st3) lo (lo+m) ((lo+m - lo) / 2))):=hB3.setArr (mirror_perm _ _ _ _);refine zbM (rk:=rk) (lo:=lo) (by lia) hm (λp q p1 p2 p3 =>?_) ?f ?k
    case f=>
     intro x n R n1 n2 ha hb;dsimp only;refine wpS_bind (z5A hL hB4 (by lia) (by lia) ?_)
     by_cases hl:Rk rk (mirror (arrOf st3) lo (lo+m) ((lo+m - lo) / 2)) (lo+n)<Rk rk (mirror (arrOf st3) lo (lo+m) ((lo+m - lo) / 2)) (lo+n - 1)
     ·refine z0e (by simpa using hl) ?_; exact wpS_pure (ha hl)
     ·refine z0c (by simpa using hl) ?_; exact wpS_pure (hb (Nat.le_of_not_lt hl))
    case k=>
     intro n hn1 hn2 hsn _;exact wpS_pure (h n _ hB4 hp3 (by lia) hn2 hsn ((z4t hsz3 (Nat.le_refl _)).trans hl3))
    show Rk rk (mirror (arrOf st3) lo (lo+m) ((lo+m - lo) / 2)) p<=Rk rk (mirror (arrOf st3) lo (lo+m) ((lo+m - lo) / 2)) q;rw[z7n hsz3,z7n hsz3,if_pos (by lia),if_pos (by lia)];exact hG3 _ _ (by lia) (by lia) (by lia)
end
end Tim
namespace Tim
open PySem PyProof.Rows
section
variable {M:Model}{A:Around}{E:Value->Shared->Prop}{s:Shared}{rk:Keyed->Nat}{κ:SortKind}{a₀:Array Keyed}
theorem z7p (hL:Asks M A s κ a₀ rk){st:SortSt}{lo n ok:Nat}{Q:Bool->SortSt->Prop}(hn:lo+n<=a₀.size)(hok:ok<=n)(h1:1<=ok)(hB:TB κ a₀ st)(hs:Seg rk (arrOf st) lo (lo+ok))
  (h:∀st',TB κ a₀ st'->pendingOf st'=pendingOf st->Seg rk (arrOf st') lo (lo+n)->Low (arrOf st') (arrOf st) lo->Q true st'):wpS M A E s (binarySort' lo n ok) Q st:=by
 refine wpS_bind (wpS_mono (wpS_forRange (I:=λk c st'=>c=(none,())/\TB κ a₀ st'/\pendingOf st'=pendingOf st/\Seg rk (arrOf st') lo (lo+k)/\Low (arrOf st') (arrOf st) lo)
  (Q:=λc st'=>c=(none,())/\TB κ a₀ st'/\pendingOf st'=pendingOf st/\Seg rk (arrOf st') lo (lo+n)/\Low (arrOf st') (arrOf st) lo) ?step ?fin ?init) ?post)
 case post=>
  rintro c st' hI1;apply elc0 (c:=c) hI1;intro p1;have hB':=p1.1;have hp':=p1.2.1;have hs':=p1.2.2.1;have hl':=p1.2.2.2;clear p1 hI1;exact wpS_pure (h st' hB' hp' hs' hl')
 case init=>
  rw[show max ok 1=ok by lia];exact⟨rfl,hB,rfl,hs,Low.refl⟩
 case fin=>
  rintro c st' ⟨hc,hB',hp',hs',hl'⟩;rw[show max (max ok 1) n=n by lia] at hs';exact⟨hc,hB',hp',hs',hl'⟩
 case step=>
  rintro k c st' hak hkn hI2;apply elc0 (c:=c) hI2;intro p2;have hB':=p2.1;have hp':=p2.2.1;have hs':=p2.2.2.1;have hl':=p2.2.2.2;clear p2 hI2;dsimp only;have hk:lo+k<a₀.size:=by lia
  refine wpS_bind (wpS_mono (wpS_forRange (I:=λx c st''=>st''=st'/\∃l r,c=(none,l,r)/\l<=r/\r<=k/\r - l<=k - x/\
    (∀i,i<l->Rk rk (arrOf st') (lo+i)<=Rk rk (arrOf st') (lo+k))/\(∀i,r<=i->i<k->Rk rk (arrOf st') (lo+k)<Rk rk (arrOf st') (lo+i)))
   (Q:=λc st''=>st''=st'/\∃l r,c=(none,l,r)/\l<=k/\
    (∀i,i<l->Rk rk (arrOf st') (lo+i)<=Rk rk (arrOf st') (lo+k))/\(∀i,l<=i->i<k->Rk rk (arrOf st') (lo+k)<Rk rk (arrOf st') (lo+i))) ?istep ?ifin ?iinit) ?ipost)
  case iinit=>exact⟨rfl,0,k,rfl,by lia,by lia,by lia,λi hi=>by lia,λi h1 h2=>by lia⟩
  case ifin=>
   rintro c st'' ⟨rfl,l,r,rfl,hlr,hrk,hm,hlo,hhi⟩;obtain rfl:l=r:=by lia
   exact⟨rfl,l,l,rfl,hrk,hlo,hhi⟩
  case istep=>
   rintro x c st'' _ hxk ⟨rfl,l,r,rfl,hlr,hrk,hm,hlo,hhi⟩;dsimp only
   by_cases hge:l>=r
   ·refine z0e hge ?_;obtain rfl:l=r:=by lia
    exact wpS_pure ⟨rfl,l,l,rfl,hrk,hlo,hhi⟩
   ·refine z0c hge ?_;refine wpS_bind (z5A hL hB' hk (by lia) ?_)
    by_cases hless:Rk rk (arrOf st'') (lo+k)<Rk rk (arrOf st'') (lo+(l+r) / 2)
    ·refine z0e (by simpa using hless) ?_;refine wpS_pure ⟨rfl,l,(l+r) / 2,rfl,by lia,by lia,by lia,hlo,λi h1 h2 =>?_⟩;exact Nat.lt_of_lt_of_le hless (hs' _ _ (by lia) (by lia) (by lia))
    ·refine z0c (by simpa using hless) ?_;refine wpS_pure ⟨rfl,(l+r) / 2+1,r,rfl,by lia,by lia,by lia,λi h1 =>?_,hhi⟩;exact Nat.le_trans (hs' (lo+i) (lo+(l+r) / 2) (by lia) (by lia) (by lia)) (Nat.le_of_not_lt hless)
  case ipost=>
   rintro c st'' ⟨rfl,l,r,rfl,hlk,hlo,hhi⟩;dsimp only;show wpS M A E s (moveDown' _ _ >>= _) _ _;rw[moveDown'_eq];have hks:lo+k<(arrOf st'').size:=by rw[hB'.size]; exact hk
   refine wpS_bind (wpS_modify (wpS_pure ⟨rfl,hB'.setArr (bubble_perm _ _ _),hp',?_,(zbL hks (by lia) (by lia)).trans hl'⟩));intro i j hi hij hj;show Rk rk (bubble (arrOf st'') (lo+k) (lo+k - (lo+l))) i<=Rk rk (bubble (arrOf st'') (lo+k) (lo+k - (lo+l))) j;rw[z9L hks (by lia),z9L hks (by lia),show lo+k - (lo+k - (lo+l))=lo+l by lia];have hlo':∀i,lo<=i->i<lo+l->Rk rk (arrOf st'') i<=Rk rk (arrOf st'') (lo+k):=λi h1 h2=>by
    have:=hlo (i - lo) (by lia)
    rwa [show lo+(i - lo)=i by lia] at this
   have hhi':∀i,lo+l<=i->i<lo+k->Rk rk (arrOf st'') (lo+k)<Rk rk (arrOf st'') i:=λi h1 h2=>by
    have:=hhi (i - lo) (by lia) (by lia)
    rwa [show lo+(i - lo)=i by lia] at this
   repeat' split
   all_goals first
    | (exfalso; lia)
    | exact Nat.le_refl _
    | exact hlo' _ (by lia) (by lia)
    | exact Nat.le_of_lt (hhi' _ (by lia) (by lia))
    | exact hs' _ _ (by lia) (by lia) (by lia)
end
end Tim
namespace Tim
open PySem PyProof.Rows
section
variable {M:Model}{A:Around}{E:Value->Shared->Prop}{s:Shared}{rk:Keyed->Nat}{κ:SortKind}{a₀:Array Keyed}
noncomputable def Up (rk:Keyed->Nat)(l:List Keyed):Prop:=l.Pairwise λx y=>rk x<=rk y
noncomputable def z2i (rk:Keyed->Nat)(l m:List Keyed):Prop:=∀x∈l,∀y∈m,rk x<=rk y
theorem Up.append {l m:List Keyed}(h:Up rk l)(k:Up rk m)(c:z2i rk l m):Up rk (l++m):=List.pairwise_append.mpr ⟨h,k,c⟩
theorem Up.drop {l:List Keyed}(h:Up rk l)(n:Nat):Up rk (l.drop n):=List.Pairwise.sublist (List.drop_sublist n l) h
theorem Up.take {l:List Keyed}(h:Up rk l)(n:Nat):Up rk (l.take n):=List.Pairwise.sublist (List.take_sublist n l) h
theorem Up.cut {l:List Keyed}(h:Up rk l)(n:Nat):z2i rk (l.take n) (l.drop n):=by
 have:=h;unfold Up at this;rw[<- List.take_append_drop n l] at this;exact(List.pairwise_append.mp this).2.2
theorem Up.seg {a:Array Keyed}(h:Up rk a.toList):Seg rk a 0 a.size:=λp q _ hpq hq=>by
 by_cases e:p=q
 ·subst e; exact Nat.le_refl _
 ·have:=List.pairwise_iff_getElem.mp h p q (by simpa using (by lia:p<a.size)) (by simpa using hq) (by lia);rw[z0H (getElem?_pos a p (by lia)),z0H (getElem?_pos a q hq)];simpa using this
theorem zc5 {a:Array Keyed}{i j:Nat}(h:Seg rk a i j)(hj:j<=a.size):Up rk (a.extract i j).toList:=by
 refine List.pairwise_iff_getElem.mpr λp q hp hq hpq =>?_;have hp':p<(a.extract i j).size:=by rw[<- Array.length_toList]; exact hp
 have hq':q<(a.extract i j).size:=by rw[<- Array.length_toList]; exact hq
 have hsz:(a.extract i j).size=j - i:=by rw[Array.size_extract]; lia
 have:=h (i+p) (i+q) (by lia) (by lia) (by lia);rw[z0H (getElem?_pos a (i+p) (by lia)),z0H (getElem?_pos a (i+q) (by lia))] at this;simpa[Array.getElem_extract] using this
structure Mrg (rk:Keyed->Nat)(a b o:List Keyed)(ia ib:Nat):Prop where
 up:Up rk o
 ina:z2i rk o (a.drop ia)
 inb:z2i rk o (b.drop ib)
 perm:(o++a.drop ia++b.drop ib).Perm (a++b)
theorem z6v (l:List Keyed)(i k:Nat):l.drop i=(l.drop i).take k++l.drop (i+k):=by
 rw[<- List.drop_drop]; exact(List.take_append_drop k _).symm
theorem Mrg.moveA {a b o:List Keyed}{ia ib:Nat}(h:Mrg rk a b o ia ib)(ha:Up rk a)(k:Nat)(hle:z2i rk ((a.drop ia).take k) (b.drop ib)):Mrg rk a b (o++(a.drop ia).take k) (ia+k) ib:=by
 have e:=z6v a ia k;refine⟨h.up.append ((ha.drop ia).take k) (λx hx y hy=>h.ina x hx y (List.mem_of_mem_take hy)),λx hx y hy =>?_,λx hx y hy =>?_,?_⟩
 ·rcases List.mem_append.mp hx with hx | hx
  ·exact h.ina x hx y (by rw[e]; exact List.mem_append.mpr (.inr hy))
  ·exact(ha.drop ia).cut k x hx y (by rw[List.drop_drop]; exact hy)
 ·rcases List.mem_append.mp hx with hx | hx
  ·exact h.inb x hx y hy
  ·exact hle x hx y hy
 ·have:=h.perm;rw[e] at this;simpa[List.append_assoc] using this
theorem Mrg.moveB {a b o:List Keyed}{ia ib:Nat}(h:Mrg rk a b o ia ib)(hb:Up rk b)(k:Nat)(hle:z2i rk ((b.drop ib).take k) (a.drop ia)):Mrg rk a b (o++(b.drop ib).take k) ia (ib+k):=by
 have e:=z6v b ib k;refine⟨h.up.append ((hb.drop ib).take k) (λx hx y hy=>h.inb x hx y (List.mem_of_mem_take hy)),λx hx y hy =>?_,λx hx y hy =>?_,?_⟩
 ·rcases List.mem_append.mp hx with hx | hx
  ·exact h.ina x hx y hy
  ·exact hle x hx y hy
 ·rcases List.mem_append.mp hx with hx | hx
  ·exact h.inb x hx y (by rw[e]; exact List.mem_append.mpr (.inr hy))
  ·exact(hb.drop ib).cut k x hx y (by rw[List.drop_drop]; exact hy)
 ·have hp:=h.perm;rw[e] at hp;refine List.Perm.trans ?_ hp;simp only[List.append_assoc];refine List.Perm.append_left o ?_;rw[<- List.append_assoc, <- List.append_assoc];exact List.Perm.append_right _ List.perm_append_comm
theorem Mrg.done {a b o:List Keyed}{ia ib:Nat}(h:Mrg rk a b o ia ib)(ha:Up rk a)(hb:Up rk b)(e:a.length<=ia\/b.length<=ib):Up rk (o++a.drop ia++b.drop ib):=by
 rcases e with e | e
 ·rw[List.drop_eq_nil_of_le e,List.append_nil]; exact h.up.append (hb.drop _) h.inb
 ·rw[List.drop_eq_nil_of_le e,List.append_nil]; exact h.up.append (ha.drop _) h.ina
theorem Mrg.lastA {a b o:List Keyed}{ia ib:Nat}(h:Mrg rk a b o ia ib)(ha:Up rk a)(hb:Up rk b)(e:z2i rk (b.drop ib) (a.drop ia)):Up rk (o++b.drop ib++a.drop ia)/\(o++b.drop ib++a.drop ia).Perm (a++b):=by
 refine⟨(h.up.append (hb.drop _) h.inb).append (ha.drop _) (λx hx y hy =>?_),?_⟩
 ·rcases List.mem_append.mp hx with hx | hx
  ·exact h.ina x hx y hy
  ·exact e x hx y hy
 ·refine List.Perm.trans ?_ h.perm;simp only[List.append_assoc];exact List.Perm.append_left o List.perm_append_comm
theorem z23 {l:List Keyed}{i:Nat}{p:Keyed}(h:l[i]? = some p):(l.drop i).take 1=[p]:=by
 obtain⟨hi,rfl⟩:=List.getElem?_eq_some_iff.mp h;rw[List.drop_eq_getElem_cons hi]; rfl
theorem z5f {l:List Keyed}{i k:Nat}{x:Keyed}(h:x∈(l.drop i).take k):∃j,j<k/\i+j<l.length/\l[i+j]? = some x:=by
 obtain⟨j,hj,e⟩:=List.getElem_of_mem h;have hj':j<k/\i+j<l.length:=by simp at hj; lia
 refine⟨j,hj'.1,hj'.2,?_⟩;rw[List.getElem_take,List.getElem_drop] at e;rw[List.getElem?_eq_getElem hj'.2,e]
theorem z9Z {l:List Keyed}{i:Nat}{x:Keyed}(h:x∈l.drop i):∃j,i+j<l.length/\l[i+j]? = some x:=by
 obtain⟨j,hj,e⟩:=List.getElem_of_mem h;have hj':i+j<l.length:=by simp at hj; lia
 refine⟨j,hj',?_⟩;rw[List.getElem_drop] at e;rw[List.getElem?_eq_getElem hj',e]
theorem z2R {a:Array Keyed}{j:Nat}{x:Keyed}(h:a.toList[j]? = some x):Rk rk a j=rk x:=z0H (by rw[<- Array.getElem?_toList]; exact h)
theorem z83 (hL:Asks M A s κ a₀ rk){st:SortSt}{key:Keyed}{arr:Array Keyed}{base n hint:Nat}{Q:Option Nat->SortSt->Prop}(hk:kindOf st=κ)(hkey:key∈a₀.toList)
  (harr:∀p∈arr.toList,p∈a₀.toList) (hn:base+n<=arr.size) (hh:hint<n) (hs:Seg rk arr base (base+n))
  (h:∀k,k<=n->(∀i,i<k->Rk rk arr (base+i)<=rk key)->(∀i,k<=i->i<n->rk key<Rk rk arr (base+i))->Q (some k) st):wpS M A E s (za9 false key arr base n hint) Q st:=by
 refine z7M hL hk hkey harr hn hh (λi => !decide (rk key<Rk rk arr (base+i))) (λi hi=>by simp) (λi j hij hj q =>?_) (λk hk h1 h2=>h k hk (λi hi =>?_) (λi h3 h4 =>?_))
 ·have:=hs (base+i) (base+j) (by lia) (by lia) (by lia);simp at q ⊢; lia
 ·have:=h1 i hi; simp at this; lia
 ·have:=h2 i h3 h4; simp at this; lia
theorem z84 (hL:Asks M A s κ a₀ rk){st:SortSt}{key:Keyed}{arr:Array Keyed}{base n hint:Nat}{Q:Option Nat->SortSt->Prop}(hk:kindOf st=κ)(hkey:key∈a₀.toList)
  (harr:∀p∈arr.toList,p∈a₀.toList) (hn:base+n<=arr.size) (hh:hint<n) (hs:Seg rk arr base (base+n))
  (h:∀k,k<=n->(∀i,i<k->Rk rk arr (base+i)<rk key)->(∀i,k<=i->i<n->rk key<=Rk rk arr (base+i))->Q (some k) st):wpS M A E s (za9 true key arr base n hint) Q st:=by
 refine z7M hL hk hkey harr hn hh (λi=>decide (Rk rk arr (base+i)<rk key)) (λi hi=>by simp) (λi j hij hj q =>?_) (λk hk h1 h2=>h k hk (λi hi =>?_) (λi h3 h4 =>?_))
 ·have:=hs (base+i) (base+j) (by lia) (by lia) (by lia);simp at q ⊢; lia
 ·have:=h1 i hi; simp at this; lia
 ·have:=h2 i h3 h4; simp at this; lia
end
end Tim
namespace Tim
open PySem PyProof.Rows
section
variable {M:Model}{A:Around}{E:Value->Shared->Prop}{s:Shared}{rk:Keyed->Nat}{κ:SortKind}{a₀:Array Keyed}
theorem z2W {a:Array Keyed}{i j:Nat}:(a.extract i j).toList=(a.toList.drop i).take (j - i):=by
 rw[Array.toList_extract]
theorem zap {a:Array Keyed}{i:Nat}:(a.extract i a.size).toList=a.toList.drop i:=by
 rw[z2W];exact List.take_of_length_le (by simp)
theorem z1G {a:Array Keyed}{i:Nat}{p:Keyed}(h:a[i]? = some p):a.toList[i]? = some p:=by rw[Array.getElem?_toList]; exact h
theorem z9M (hL:Asks M A s κ a₀ rk){st:SortSt}{a b:Array Keyed}{Q:Array Keyed->SortSt->Prop}(hk:kindOf st=κ)
  (hma:∀p∈a.toList,p∈a₀.toList) (hmb:∀p∈b.toList,p∈a₀.toList) (ha:Up rk a.toList) (hb:Up rk b.toList) (h1:1<=a.size) (h2:1<=b.size)
  (hf:z2i rk (b.toList.take 1) a.toList) (hl:z2i rk b.toList (a.toList.drop (a.size - 1)))
  (h:∀r g,Up rk r.toList->r.toList.Perm (a.toList++b.toList)->Q r (z1J st g)):wpS M A E s (zec a b) Q st:=by
 have sa:=ha.seg;have sb:=hb.seg;have la:a.toList.length=a.size:=by simp
 have lb:b.toList.length=b.size:=by simp
 have fin:∀(out:Array Keyed) (ia ib g:Nat),Mrg rk a.toList b.toList out.toList ia ib->(a.size<=ia\/b.size<=ib)->Q (out++a.extract ia a.size++b.extract ib b.size) (z1J st g):=λout ia ib g m e=>by
  have t:(out++a.extract ia a.size++b.extract ib b.size).toList=out.toList++a.toList.drop ia++b.toList.drop ib:=by
   rw[Array.toList_append,Array.toList_append,zap,zap]
  exact h _ g (by rw[t]; exact m.done ha hb (by rw[la,lb]; exact e)) (by rw[t]; exact m.perm)
 have fin2:∀(out:Array Keyed) (ia ib g:Nat),Mrg rk a.toList b.toList out.toList ia ib->ia+1=a.size->Q (out++b.extract ib b.size++a.extract ia a.size) (z1J st g):=λout ia ib g m e=>by
  have t:(out++b.extract ib b.size++a.extract ia a.size).toList=out.toList++b.toList.drop ib++a.toList.drop ia:=by
   rw[Array.toList_append,Array.toList_append,zap,zap]
  have q:=m.lastA ha hb (λx hx y hy=>hl x (List.mem_of_mem_drop hx) y (by rw[show a.size - 1=ia by lia]; exact hy));exact h _ g (by rw[t]; exact q.1) (by rw[t]; exact q.2)
 refine wpS_bind (wpS_lift (wpAny_rule ⟨rfl,?_⟩));dsimp only;obtain⟨b0,eb0,mb0⟩:=z1B (xs:=b) (i:=0) (by lia);refine wpS_bind (z0s eb0 ?_);have m0:Mrg rk a.toList b.toList (#[b0]:Array Keyed).toList 0 1:=by
  have z:Mrg rk a.toList b.toList [] 0 0:=⟨List.Pairwise.nil,(λx hx=>by cases hx),(λx hx=>by cases hx),by simp⟩
  have:=z.moveB hb 1 (by rw[List.drop_zero]; exact hf);rw[z23 (z1G eb0)] at this;simpa using this
 by_cases c1:1=b.size
 ·refine z0e (by simpa using c1) ?_;exact wpS_pure (fin _ _ _ (gallopOf st) m0 (.inr (by lia)))
 refine z0c (by simpa using c1) ?_
 by_cases c2:0+1=a.size
 ·refine z0e (by simpa using c2) ?_;exact wpS_pure (fin2 _ _ _ (gallopOf st) m0 c2)
 refine z0c (by simpa using c2) ?_;refine wpS_bind (wpS_get ?_);refine wpS_bind (wpS_mono (wpS_forRange
  (I:=λx c st'=>∃out ia ib mg g,c=(none,out,ia,ib,mg)/\st'=z1J st g/\Mrg rk a.toList b.toList out.toList ia ib/\ia+1<a.size/\ib<b.size/\x+1<=ia+ib)
  (Q:=λc st'=>∃r rest,c=(some r,rest)/\Q r st') ?step ?fin ⟨_,_,_,_,gallopOf st,rfl,rfl,m0,by lia,by lia,by lia⟩) ?post)
 case post=>
  rintro c st' ⟨r,rest,rfl,q⟩;exact wpS_pure q
 case fin=>
  rintro c st' hI1;apply el5 (c:=c) (s:=st') hI1;intro out ia ib mg g p1;have m:=p1.1;have i1:=p1.2.1;have i2:=p1.2.2.1;have i3:=p1.2.2.2;clear p1 hI1;lia
 case step=>
  rintro x c st' _ hx hI2;apply el5 (c:=c) (s:=st') hI2;intro out ia ib mg g p2;have m:=p2.1;have i1:=p2.2.1;have i2:=p2.2.2.1;have i3:=p2.2.2.2;clear p2 hI2;dsimp only;refine wpS_bind (wpS_mono (wpS_forRange
   (I:=λy c st'=>∃out ja jb ac bc,c=(none,out,ja,jb,ac,bc)/\st'=z1J st g/\Mrg rk a.toList b.toList out.toList ja jb/\ja+1<a.size/\jb<b.size/\ia+ib+y<=ja+jb)
   (Q:=λc st'=>(∃r rest,c=(some r,rest)/\Q r st')\/∃out ja jb ac bc,c=(none,out,ja,jb,ac,bc)/\st'=z1J st g/\Mrg rk a.toList b.toList out.toList ja jb/\ja+1<a.size/\jb<b.size/\ia+ib+1<=ja+jb)
   ?istep ?ifin ⟨_,_,_,_,_,rfl,rfl,m,i1,i2,by lia⟩) ?ipost)
  case ifin=>
   rintro c st' hI3;apply el5 (c:=c) (s:=st') hI3;intro out ja jb ac bc p3;have m:=p3.1;have j1:=p3.2.1;have j2:=p3.2.2.1;have j3:=p3.2.2.2;clear p3 hI3;exact .inr ⟨_,_,_,_,_,rfl,rfl,m,j1,j2,by lia⟩
  case istep=>
   rintro y c st' _ hy hI4;apply el5 (c:=c) (s:=st') hI4;intro out ja jb ac bc p4;have m:=p4.1;have j1:=p4.2.1;have j2:=p4.2.2.1;have j3:=p4.2.2.2;clear p4 hI4;dsimp only;obtain⟨pb,eb,mb⟩:=z1B (xs:=b) (i:=jb) j2;obtain⟨pa,ea,ma⟩:=z1B (xs:=a) (i:=ja) (by lia);refine wpS_bind (z0s eb (wpS_bind (z0s ea (wpS_bind (z8M hL hk (hmb _ mb) (hma _ ma) ?_)))))
   by_cases hw:rk pb<rk pa
   ·refine z0e (by simpa using hw) ?_;refine wpS_bind (z0s eb ?_);have m':Mrg rk a.toList b.toList (out.push pb).toList ja (jb+1):=by
     have:=m.moveB hb 1 (by
      rw[z23 (z1G eb)];intro x hx y hy;obtain rfl:=List.mem_singleton.mp hx;obtain⟨j,hj,e⟩:=z9Z hy;have:=sa ja (ja+j) (by lia) (by lia) (by lia);rw[z0H ea,z2R e] at this;lia)
     rw[z23 (z1G eb)] at this;simpa using this
    by_cases c3:jb+1=b.size
    ·refine z0e (by simpa using c3) ?_;exact wpS_pure (.inl ⟨_,_,rfl,fin _ _ _ g m' (.inr (by lia))⟩)
    refine z0c (by simpa using c3) ?_
    split
    ·exact wpS_pure (.inr ⟨_,_,_,_,_,rfl,rfl,m',j1,by lia,by lia⟩)
    ·exact wpS_pure ⟨_,_,_,_,_,rfl,rfl,m',j1,by lia,by lia⟩
   ·refine z0c (by simpa using hw) ?_;refine wpS_bind (z0s ea ?_);have m':Mrg rk a.toList b.toList (out.push pa).toList (ja+1) jb:=by
     have:=m.moveA ha 1 (by
      rw[z23 (z1G ea)];intro x hx y hy;obtain rfl:=List.mem_singleton.mp hx;obtain⟨j,hj,e⟩:=z9Z hy;have:=sb jb (jb+j) (by lia) (by lia) (by lia);rw[z0H eb,z2R e] at this;lia)
     rw[z23 (z1G ea)] at this;simpa using this
    by_cases c3:ja+1+1=a.size
    ·refine z0e (by simpa using c3) ?_;exact wpS_pure (.inl ⟨_,_,rfl,fin2 _ _ _ g m' c3⟩)
    refine z0c (by simpa using c3) ?_
    split
    ·exact wpS_pure (.inr ⟨_,_,_,_,_,rfl,rfl,m',by lia,j2,by lia⟩)
    ·exact wpS_pure ⟨_,_,_,_,_,rfl,rfl,m',by lia,j2,by lia⟩
  case ipost=>
   rintro c st' (hA | hI5)
   ·obtain⟨r,rest,rfl,q⟩:=hA;obtain⟨r1,r2,r3,r4,r5⟩:=rest;exact wpS_pure ⟨_,_,rfl,q⟩
   apply el5 (c:=c) (s:=st') hI5;intro out ka kb ac bc p5;have m:=p5.1;have j1:=p5.2.1;have j2:=p5.2.2.1;have j3:=p5.2.2.2;clear p5 hI5;dsimp only;refine wpS_bind (wpS_lift (wpAny_rule ⟨rfl,?_⟩));refine wpS_bind (wpS_mono (wpS_forRange
    (I:=λy c st'=>∃out ja jb mg ac bc g,c=(none,out,ja,jb,mg,ac,bc)/\st'=z1J st g/\Mrg rk a.toList b.toList out.toList ja jb/\ja+1<a.size/\jb<b.size/\ia+ib+1<=ja+jb)
    (Q:=λc st'=>(∃r rest,c=(some r,rest)/\Q r st')\/∃out ja jb mg ac bc g,c=(none,out,ja,jb,mg,ac,bc)/\st'=z1J st g/\Mrg rk a.toList b.toList out.toList ja jb/\ja+1<a.size/\jb<b.size/\ia+ib+1<=ja+jb)
    ?gstep ?gfin ⟨_,_,_,_,_,_,g,rfl,rfl,m,j1,j2,j3⟩) ?gpost)
   case gfin=>
    rintro c st' z;exact .inr z
   case gpost=>
    rintro c st' (hA | hI6)
    ·obtain⟨r,rest,rfl,q⟩:=hA;obtain⟨r1,r2,r3,r4,r5,r6⟩:=rest;exact wpS_pure ⟨_,_,rfl,q⟩
    apply el7 (c:=c) (s:=st') hI6;intro out ka kb mg ac bc g p6;have m:=p6.1;have j1:=p6.2.1;have j2:=p6.2.2.1;have j3:=p6.2.2.2;clear p6 hI6;dsimp only;show wpS M A E s (z1I _ >>= _) _ _;rw[z1x];refine wpS_bind (wpS_modify (wpS_pure ⟨_,_,_,_,mg+1,rfl,rfl,m,j1,j2,by lia⟩))
   case gstep=>
    clear m j1 j2 j3 out ka kb ac bc g;rintro y c st' _ hy hI7;apply el7 (c:=c) (s:=st') hI7;intro out ja jb mg ac bc g p7;have m:=p7.1;have j1:=p7.2.1;have j2:=p7.2.2.1;have j3:=p7.2.2.2;clear p7 hI7;dsimp only;obtain⟨pb,eb,mb⟩:=z1B (xs:=b) (i:=jb) j2;refine zih (α:=Nat) (P := ?pp1) ?tl1 ?us1
    case us1=>
     intro J
     by_cases cg:mg > 1
     ·refine z0e cg ?_;generalize mg - 1=mg';exact J mg'
     ·refine z0c cg ?_;exact J mg
    intro mg';show wpS M A E s (z1I _ >>= _) _ _;rw[z1x];refine wpS_bind (wpS_modify ?_);refine wpS_bind (z0s eb ?_);refine wpS_bind (z83 hL hk (hmb _ mb) hma (by lia) (by lia) (λp q p1 p2 p3=>sa p q (by lia) p2 (by lia)) λk hk1 g1 g2 =>?_);dsimp only;have mA:Mrg rk a.toList b.toList (out.toList++(a.toList.drop ja).take k) (ja+k) jb:=m.moveA ha k (by
     intro x hx y hy;obtain⟨i,hi,hi2,e⟩:=z5f hx;obtain⟨j,hj,e2⟩:=z9Z hy;have q1:=g1 i hi;have q2:=sb jb (jb+j) (by lia) (by lia) (by lia);rw[z2R e] at q1;rw[z0H eb,z2R e2] at q2;lia)
    have hgt:z2i rk [pb] (a.toList.drop (ja+k)):=by
     intro x hx y hy;obtain rfl:=List.mem_singleton.mp hx;obtain⟨j,hj,e⟩:=z9Z hy;have:=g2 (k+j) (by lia) (by lia);rw[show ja+(k+j)=ja+k+j by lia,z2R e] at this;lia
    refine ze4 (H:=λ(ka:Nat) (out1:Array Keyed)=>ka+1<a.size/\ja<=ka/\Mrg rk a.toList b.toList out1.toList ka jb/\z2i rk [pb] (a.toList.drop ka)) (P := ?pp2) ?tl2 ?us2
    case us2=>
     intro J
     by_cases c3:k > 0
     ·refine z0e c3 ?_;have mA':Mrg rk a.toList b.toList (out++a.extract ja (ja+k)).toList (ja+k) jb:=by
       rw[Array.toList_append,z2W,show ja+k - ja=k by lia]; exact mA
      by_cases c4:ja+k+1=a.size
      ·refine z0e (by simpa using c4) ?_;exact wpS_pure (.inl ⟨_,_,rfl,fin2 _ _ _ mg' mA' c4⟩)
      refine z0c (by simpa using c4) ?_
      by_cases c5:ja+k=a.size
      ·refine z0e (by simpa using c5) ?_;exact wpS_pure (.inl ⟨_,_,rfl,fin _ _ _ mg' mA' (.inl (by lia))⟩)
      refine z0c (by simpa using c5) ?_;have kl:ja+k+1<a.size/\ja<=ja+k:=by lia
      generalize out++a.extract ja (ja+k)=out1 at mA' ⊢;have hg:=hgt;generalize ja+k=ka at mA' hg kl ⊢;exact J ka out1 ⟨kl.1,kl.2,mA',hg⟩
     ·refine z0c c3 ?_;obtain rfl:k=0:=by lia
      exact J ja out ⟨by lia,by lia,m,hgt⟩
    clear mA hgt g1 g2 m;rintro ka out1 ⟨kl,kk,mA',hgt⟩;refine wpS_bind (z0s eb ?_);have mB:Mrg rk a.toList b.toList (out1.push pb).toList ka (jb+1):=by
     have:=mA'.moveB hb 1 (by rw[z23 (z1G eb)]; exact hgt);rw[z23 (z1G eb)] at this;simpa using this
    by_cases c6:jb+1=b.size
    case pos=>
     refine z0e (by simpa using c6) ?_;exact wpS_pure (.inl ⟨_,_,rfl,fin _ _ _ mg' mB (.inr (by lia))⟩)
    refine z0c (by simpa using c6) ?_;obtain⟨pa,ea,ma⟩:=z1B (xs:=a) (i:=ka) (by lia);refine wpS_bind (z0s ea ?_);refine wpS_bind (z84 hL hk (hma _ ma) hmb (by lia) (by lia) (λp q p1 p2 p3=>sb p q (by lia) p2 (by lia)) λl hl1 f1 f2 =>?_);dsimp only;have mC:Mrg rk a.toList b.toList ((out1.push pb).toList++(b.toList.drop (jb+1)).take l) ka (jb+1+l):=mB.moveB hb l (by
     intro x hx y hy;obtain⟨i,hi,hi2,e⟩:=z5f hx;obtain⟨j,hj,e2⟩:=z9Z hy;have q1:=f1 i hi;have q2:=sa ka (ka+j) (by lia) (by lia) (by lia);rw[z2R e] at q1;rw[z0H ea,z2R e2] at q2;lia)
    have hgt2:z2i rk [pa] (b.toList.drop (jb+1+l)):=by
     intro x hx y hy;obtain rfl:=List.mem_singleton.mp hx;obtain⟨j,hj,e⟩:=z9Z hy;have:=f2 (l+j) (by lia) (by lia);rw[show jb+1+(l+j)=jb+1+l+j by lia,z2R e] at this;lia
    refine ze4 (H:=λ(kb:Nat) (out2:Array Keyed)=>kb<b.size/\jb+1<=kb/\Mrg rk a.toList b.toList out2.toList ka kb/\z2i rk [pa] (b.toList.drop kb)) (P := ?pp3) ?tl3 ?us3
    case us3=>
     intro J
     by_cases c7:l > 0
     ·refine z0e c7 ?_;have mC':Mrg rk a.toList b.toList (out1.push pb++b.extract (jb+1) (jb+1+l)).toList ka (jb+1+l):=by
       rw[Array.toList_append,z2W,show jb+1+l - (jb+1)=l by lia]; exact mC
      by_cases c8:jb+1+l=b.size
      ·refine z0e (by simpa using c8) ?_;exact wpS_pure (.inl ⟨_,_,rfl,fin _ _ _ mg' mC' (.inr (by lia))⟩)
      refine z0c (by simpa using c8) ?_;have kl:jb+1+l<b.size/\jb+1<=jb+1+l:=by lia
      generalize out1.push pb++b.extract (jb+1) (jb+1+l)=out2 at mC' ⊢;have hg:=hgt2;generalize jb+1+l=kb at mC' hg kl ⊢;exact J kb out2 ⟨kl.1,kl.2,mC',hg⟩
     ·refine z0c c7 ?_;obtain rfl:l=0:=by lia
      exact J (jb+1) (out1.push pb) ⟨by lia,by lia,mB,hgt2⟩
    clear mC hgt2 f1 f2 mB mA' hgt;rintro kb out2 ⟨kbl,kk2,mC',hgt2⟩;refine wpS_bind (z0s ea ?_);have mD:Mrg rk a.toList b.toList (out2.push pa).toList (ka+1) kb:=by
     have:=mC'.moveA ha 1 (by rw[z23 (z1G ea)]; exact hgt2);rw[z23 (z1G ea)] at this;simpa using this
    by_cases c9:ka+1+1=a.size
    case pos=>
     refine z0e (by simpa using c9) ?_;exact wpS_pure (.inl ⟨_,_,rfl,fin2 _ _ _ mg' mD c9⟩)
    refine z0c (by simpa using c9) ?_
    split
    ·exact wpS_pure (.inr ⟨_,_,_,_,_,_,mg',rfl,rfl,mD,by lia,kbl,by lia⟩)
    ·exact wpS_pure ⟨_,_,_,_,_,_,mg',rfl,rfl,mD,by lia,kbl,by lia⟩
end
end Tim
namespace Tim
open PySem PyProof.Rows
section
variable {M:Model}{A:Around}{E:Value->Shared->Prop}{s:Shared}{rk:Keyed->Nat}{κ:SortKind}{a₀:Array Keyed}
structure Mrh (rk:Keyed->Nat)(a b o:List Keyed)(na nb:Nat):Prop where
 up:Up rk o
 ina:z2i rk (a.take na) o
 inb:z2i rk (b.take nb) o
 perm:(a.take na++b.take nb++o).Perm (a++b)
theorem zas (l:List Keyed){n k:Nat}(h:k<=n):l.take n=l.take k++(l.take n).drop k:=by
 have:=(List.take_append_drop k (l.take n)).symm
 rwa [List.take_take,Nat.min_eq_left h] at this
theorem Mrh.moveA {a b o:List Keyed}{na nb:Nat}(h:Mrh rk a b o na nb)(ha:Up rk a)(k:Nat)(hk:k<=na)(hle:z2i rk (b.take nb) ((a.take na).drop k)):Mrh rk a b ((a.take na).drop k++o) k nb:=by
 have e:=zas a hk;refine⟨((ha.take na).drop k).append h.up (λx hx y hy=>h.ina x (List.mem_of_mem_drop hx) y hy),λx hx y hy =>?_,λx hx y hy =>?_,?_⟩
 ·rcases List.mem_append.mp hy with hy | hy
  ·have:=(ha.take na).cut k x (by rw[List.take_take,Nat.min_eq_left hk]; exact hx) y hy;exact this
  ·exact h.ina x (by rw[e]; exact List.mem_append.mpr (.inl hx)) y hy
 ·rcases List.mem_append.mp hy with hy | hy
  ·exact hle x hx y hy
  ·exact h.inb x hx y hy
 ·have hp:=h.perm;rw[e] at hp;refine List.Perm.trans ?_ hp;simp only[List.append_assoc];refine List.Perm.append_left _ ?_;rw[<- List.append_assoc, <- List.append_assoc];exact List.Perm.append_right _ List.perm_append_comm
theorem Mrh.moveB {a b o:List Keyed}{na nb:Nat}(h:Mrh rk a b o na nb)(hb:Up rk b)(k:Nat)(hk:k<=nb)(hle:z2i rk (a.take na) ((b.take nb).drop k)):Mrh rk a b ((b.take nb).drop k++o) na k:=by
 have e:=zas b hk;refine⟨((hb.take nb).drop k).append h.up (λx hx y hy=>h.inb x (List.mem_of_mem_drop hx) y hy),λx hx y hy =>?_,λx hx y hy =>?_,?_⟩
 ·rcases List.mem_append.mp hy with hy | hy
  ·exact hle x hx y hy
  ·exact h.ina x hx y hy
 ·rcases List.mem_append.mp hy with hy | hy
  ·have:=(hb.take nb).cut k x (by rw[List.take_take,Nat.min_eq_left hk]; exact hx) y hy;exact this
  ·exact h.inb x (by rw[e]; exact List.mem_append.mpr (.inl hx)) y hy
 ·have hp:=h.perm;rw[e] at hp;simpa[List.append_assoc] using hp
theorem Mrh.done {a b o:List Keyed}{na nb:Nat}(h:Mrh rk a b o na nb)(ha:Up rk a)(hb:Up rk b)(e:na=0\/nb=0):Up rk (a.take na++b.take nb++o):=by
 rcases e with rfl | rfl
 ·rw[List.take_zero,List.nil_append]; exact(hb.take _).append h.up h.inb
 ·rw[List.take_zero,List.append_nil]; exact(ha.take _).append h.up h.ina
theorem Mrh.firstB {a b o:List Keyed}{na nb:Nat}(h:Mrh rk a b o na nb)(ha:Up rk a)(hb:Up rk b)(e:z2i rk (b.take nb) (a.take na)):Up rk (b.take nb++a.take na++o)/\(b.take nb++a.take na++o).Perm (a++b):=by
 refine⟨((hb.take _).append (ha.take _) e).append h.up (λx hx y hy =>?_),?_⟩
 ·rcases List.mem_append.mp hx with hx | hx
  ·exact h.inb x hx y hy
  ·exact h.ina x hx y hy
 ·exact List.Perm.trans (List.Perm.append_right _ List.perm_append_comm) h.perm
theorem z28 {l:List Keyed}{n:Nat}{p:Keyed}(h:l[n]? = some p):(l.take (n+1)).drop n=[p]:=by
 obtain⟨hi,rfl⟩:=List.getElem?_eq_some_iff.mp h;rw[List.drop_take,show n+1 - n=1 by lia];exact z23 (List.getElem?_eq_getElem hi)
theorem zbo {l:List Keyed}{n:Nat}{x:Keyed}(h:x∈l.take n):∃j,j<n/\j<l.length/\l[j]? = some x:=by
 have:=z5f (i:=0) (k:=n) (l:=l) (x:=x) (by simpa using h);obtain⟨j,h1,h2,h3⟩:=this;exact⟨j,h1,by lia,by simpa using h3⟩
theorem zf4 {l:List Keyed}{n k:Nat}{x:Keyed}(h:x∈(l.take n).drop k):∃j,k<=j/\j<n/\j<l.length/\l[j]? = some x:=by
 rw[List.drop_take] at h;obtain⟨j,h1,h2,h3⟩:=z5f h;exact⟨k+j,by lia,by lia,h2,h3⟩
theorem zaq {a:Array Keyed}{n:Nat}:(a.extract 0 n).toList=a.toList.take n:=by
 rw[z2W,List.drop_zero,Nat.sub_zero]
theorem z9N (hL:Asks M A s κ a₀ rk){st:SortSt}{a b:Array Keyed}{Q:Array Keyed->SortSt->Prop}(hk:kindOf st=κ)
  (hma:∀p∈a.toList,p∈a₀.toList) (hmb:∀p∈b.toList,p∈a₀.toList) (ha:Up rk a.toList) (hb:Up rk b.toList) (h1:1<=a.size) (h2:1<=b.size)
  (hf:z2i rk (b.toList.take 1) a.toList) (hl:z2i rk b.toList (a.toList.drop (a.size - 1)))
  (h:∀r g,Up rk r.toList->r.toList.Perm (a.toList++b.toList)->Q r (z1J st g)):wpS M A E s (zed a b) Q st:=by
 have sa:=ha.seg;have sb:=hb.seg;have la:a.toList.length=a.size:=by simp
 have lb:b.toList.length=b.size:=by simp
 have fin:∀(out:Array Keyed) (na nb g:Nat),Mrh rk a.toList b.toList out.toList.reverse na nb->(na=0\/nb=0)->Q (a.extract 0 na++b.extract 0 nb++out.reverse) (z1J st g):=λout na nb g m e=>by
  have t:(a.extract 0 na++b.extract 0 nb++out.reverse).toList=a.toList.take na++b.toList.take nb++out.toList.reverse:=by
   rw[Array.toList_append,Array.toList_append,zaq,zaq,Array.toList_reverse]
  exact h _ g (by rw[t]; exact m.done ha hb e) (by rw[t]; exact m.perm)
 have fin2:∀(out:Array Keyed) (na nb g:Nat),Mrh rk a.toList b.toList out.toList.reverse na nb->nb=1->Q (b.extract 0 nb++a.extract 0 na++out.reverse) (z1J st g):=λout na nb g m e=>by
  have t:(b.extract 0 nb++a.extract 0 na++out.reverse).toList=b.toList.take nb++a.toList.take na++out.toList.reverse:=by
   rw[Array.toList_append,Array.toList_append,zaq,zaq,Array.toList_reverse]
  have q:=m.firstB ha hb (λx hx y hy=>hf x (by rw[e] at hx; exact hx) y (List.mem_of_mem_take hy));exact h _ g (by rw[t]; exact q.1) (by rw[t]; exact q.2)
 refine wpS_bind (wpS_lift (wpAny_rule ⟨rfl,?_⟩));dsimp only;obtain⟨pz,ez,mz⟩:=z1B (xs:=a) (i:=a.size - 1) (by lia);refine wpS_bind (z0s ez ?_);have m0:Mrh rk a.toList b.toList (#[pz]:Array Keyed).toList.reverse (a.size - 1) b.size:=by
  have z:Mrh rk a.toList b.toList [] (a.size - 1+1) b.size:=⟨List.Pairwise.nil,(λx _ y hy=>by cases hy),(λx _ y hy=>by cases hy),by
   rw[show a.size - 1+1=a.toList.length by lia, <- lb,List.take_length,List.take_length,List.append_nil]⟩
  have:=z.moveA ha (a.size - 1) (by lia) (by
   rw[z28 (z1G ez)];intro x hx y hy;exact hl x (List.mem_of_mem_take hx) y (by
    obtain rfl:=List.mem_singleton.mp hy;rw[List.drop_eq_getElem_cons (by lia)];have:=z1G ez;rw[List.getElem?_eq_getElem (by lia)] at this;rw[Option.some.inj this];exact List.mem_cons_self))
  rw[z28 (z1G ez)] at this;simpa using this
 by_cases c1:a.size - 1=0
 ·refine z0e (by simpa using c1) ?_;exact wpS_pure (fin _ _ _ (gallopOf st) m0 (.inl c1))
 refine z0c (by simpa using c1) ?_
 by_cases c2:b.size=1
 ·refine z0e (by simpa using c2) ?_;exact wpS_pure (fin2 _ _ _ (gallopOf st) m0 c2)
 refine z0c (by simpa using c2) ?_;refine wpS_bind (wpS_get ?_);refine wpS_bind (wpS_mono (wpS_forRange
  (I:=λx c st'=>∃out na nb mg g,c=(none,na,nb,out,mg)/\st'=z1J st g/\Mrh rk a.toList b.toList out.toList.reverse na nb/\0<na/\1<nb/\na<a.size/\nb<=b.size/\na+nb+x+1<=a.size+b.size)
  (Q:=λc st'=>∃r rest,c=(some r,rest)/\Q r st') ?step ?fin ⟨_,_,_,_,gallopOf st,rfl,rfl,m0,by lia,by lia,by lia,by lia,by lia⟩) ?post)
 case post=>
  rintro c st' ⟨r,rest,rfl,q⟩;exact wpS_pure q
 case fin=>
  rintro c st' hI1;apply el5 (c:=c) (s:=st') hI1;intro out na nb mg g p1;have m:=p1.1;have i1:=p1.2.1;have i2:=p1.2.2.1;have i3:=p1.2.2.2;clear p1 hI1;lia
 case step=>
  rintro x c st' _ hx hI2;apply el5 (c:=c) (s:=st') hI2;intro out na nb mg g p2;have m:=p2.1;have i1:=p2.2.1;have i2:=p2.2.2.1;have i3:=p2.2.2.2.1;have i4:=p2.2.2.2.2.1;have i5:=p2.2.2.2.2.2;clear p2 hI2;dsimp only;refine wpS_bind (wpS_mono (wpS_forRange
   (I:=λy c st'=>∃out ja jb ac bc,c=(none,ja,jb,out,ac,bc)/\st'=z1J st g/\Mrh rk a.toList b.toList out.toList.reverse ja jb/\0<ja/\1<jb/\ja<a.size/\jb<=b.size/\ja+jb+y<=na+nb)
   (Q:=λc st'=>(∃r rest,c=(some r,rest)/\Q r st')\/∃out ja jb ac bc,c=(none,ja,jb,out,ac,bc)/\st'=z1J st g/\Mrh rk a.toList b.toList out.toList.reverse ja jb/\0<ja/\1<jb/\ja<a.size/\jb<=b.size/\ja+jb+1<=na+nb)
   ?istep ?ifin ⟨_,_,_,_,_,rfl,rfl,m,i1,i2,i3,i4,by lia⟩) ?ipost)
  case ifin=>
   rintro c st' hI3;apply el5 (c:=c) (s:=st') hI3;intro out ja jb ac bc p3;have m:=p3.1;have j1:=p3.2.1;have j2:=p3.2.2.1;have j3:=p3.2.2.2.1;have j4:=p3.2.2.2.2.1;have j5:=p3.2.2.2.2.2;clear p3 hI3;exact .inr ⟨_,_,_,_,_,rfl,rfl,m,j1,j2,j3,j4,by lia⟩
  case istep=>
   rintro y c st' _ hy hI4;apply el5 (c:=c) (s:=st') hI4;intro out ja jb ac bc p4;have m:=p4.1;have j1:=p4.2.1;have j2:=p4.2.2.1;have j3:=p4.2.2.2.1;have j4:=p4.2.2.2.2.1;have j5:=p4.2.2.2.2.2;clear p4 hI4;obtain⟨ja,rfl⟩:∃i,ja=i+1:=⟨ja - 1,by lia⟩
   obtain⟨jb,rfl⟩:∃i,jb=i+1:=⟨jb - 1,by lia⟩
   dsimp only[Nat.add_one_sub_one];obtain⟨pb,eb,mb⟩:=z1B (xs:=b) (i:=jb) (by lia);obtain⟨pa,ea,ma⟩:=z1B (xs:=a) (i:=ja) (by lia);refine wpS_bind (z0s eb (wpS_bind (z0s ea (wpS_bind (z8M hL hk (hmb _ mb) (hma _ ma) ?_)))))
   by_cases hw:rk pb<rk pa
   ·refine z0e (by simpa using hw) ?_;refine wpS_bind (z0s ea ?_);have m':Mrh rk a.toList b.toList (out.push pa).toList.reverse ja (jb+1):=by
     have:=m.moveA ha ja (by lia) (by
      rw[z28 (z1G ea)];intro x hx y hy;obtain rfl:=List.mem_singleton.mp hy;obtain⟨j,hj,hj2,e⟩:=zbo hx;have:=sb j jb (by lia) (by lia) (by lia);rw[z0H eb,z2R e] at this;lia)
     rw[z28 (z1G ea)] at this;simpa using this
    by_cases c3:ja=0
    ·refine z0e (by simpa using c3) ?_;exact wpS_pure (.inl ⟨_,_,rfl,fin _ _ _ g m' (.inl c3)⟩)
    refine z0c (by simpa using c3) ?_
    split
    ·exact wpS_pure (.inr ⟨_,_,_,_,_,rfl,rfl,m',by lia,j2,by lia,j4,by lia⟩)
    ·exact wpS_pure ⟨_,_,_,_,_,rfl,rfl,m',by lia,j2,by lia,j4,by lia⟩
   ·refine z0c (by simpa using hw) ?_;refine wpS_bind (z0s eb ?_);have m':Mrh rk a.toList b.toList (out.push pb).toList.reverse (ja+1) jb:=by
     have:=m.moveB hb jb (by lia) (by
      rw[z28 (z1G eb)];intro x hx y hy;obtain rfl:=List.mem_singleton.mp hy;obtain⟨j,hj,hj2,e⟩:=zbo hx;have:=sa j ja (by lia) (by lia) (by lia);rw[z0H ea,z2R e] at this;lia)
     rw[z28 (z1G eb)] at this;simpa using this
    by_cases c3:jb=1
    ·refine z0e (by simpa using c3) ?_;exact wpS_pure (.inl ⟨_,_,rfl,fin2 _ _ _ g m' c3⟩)
    refine z0c (by simpa using c3) ?_
    split
    ·exact wpS_pure (.inr ⟨_,_,_,_,_,rfl,rfl,m',j1,by lia,by lia,by lia,by lia⟩)
    ·exact wpS_pure ⟨_,_,_,_,_,rfl,rfl,m',j1,by lia,by lia,by lia,by lia⟩
  case ipost=>
   rintro c st' (hA | hI5)
   ·obtain⟨r,rest,rfl,q⟩:=hA;obtain⟨r1,r2,r3,r4,r5⟩:=rest;exact wpS_pure ⟨_,_,rfl,q⟩
   apply el5 (c:=c) (s:=st') hI5;intro out ka kb ac bc p5;have m:=p5.1;have j1:=p5.2.1;have j2:=p5.2.2.1;have j3:=p5.2.2.2.1;have j4:=p5.2.2.2.2.1;have j5:=p5.2.2.2.2.2;clear p5 hI5;dsimp only;refine wpS_bind (wpS_lift (wpAny_rule ⟨rfl,?_⟩));refine wpS_bind (wpS_mono (wpS_forRange
    (I:=λy c st'=>∃out ja jb mg ac bc g,c=(none,ja,jb,out,mg,ac,bc)/\st'=z1J st g/\Mrh rk a.toList b.toList out.toList.reverse ja jb/\0<ja/\1<jb/\ja<a.size/\jb<=b.size/\ja+jb+1<=na+nb)
    (Q:=λc st'=>(∃r rest,c=(some r,rest)/\Q r st')\/∃out ja jb mg ac bc g,c=(none,ja,jb,out,mg,ac,bc)/\st'=z1J st g/\Mrh rk a.toList b.toList out.toList.reverse ja jb/\0<ja/\1<jb/\ja<a.size/\jb<=b.size/\ja+jb+1<=na+nb)
    ?gstep ?gfin ⟨_,_,_,_,_,_,g,rfl,rfl,m,j1,j2,j3,j4,j5⟩) ?gpost)
   case gfin=>
    rintro c st' z;exact .inr z
   case gpost=>
    rintro c st' (hA | hI6)
    ·obtain⟨r,rest,rfl,q⟩:=hA;obtain⟨r1,r2,r3,r4,r5,r6⟩:=rest;exact wpS_pure ⟨_,_,rfl,q⟩
    apply el7 (c:=c) (s:=st') hI6;intro out ka kb mg ac bc g p6;have m:=p6.1;have j1:=p6.2.1;have j2:=p6.2.2.1;have j3:=p6.2.2.2.1;have j4:=p6.2.2.2.2.1;have j5:=p6.2.2.2.2.2;clear p6 hI6;dsimp only;show wpS M A E s (z1I _ >>= _) _ _;rw[z1x];refine wpS_bind (wpS_modify (wpS_pure ⟨_,_,_,_,mg+1,rfl,rfl,m,j1,j2,j3,j4,by lia⟩))
   case gstep=>
    clear m j1 j2 j3 j4 j5 out ka kb ac bc g;rintro y c st' _ hy hI7;apply el7 (c:=c) (s:=st') hI7;intro out ja jb mg ac bc g p7;have m:=p7.1;have j1:=p7.2.1;have j2:=p7.2.2.1;have j3:=p7.2.2.2.1;have j4:=p7.2.2.2.2.1;have j5:=p7.2.2.2.2.2;clear p7 hI7;obtain⟨jb,rfl⟩:∃i,jb=i+1:=⟨jb - 1,by lia⟩
    dsimp only[Nat.add_one_sub_one];obtain⟨pb,eb,mb⟩:=z1B (xs:=b) (i:=jb) (by lia);refine zih (α:=Nat) (P := ?pp1) ?tl1 ?us1
    case us1=>
     intro J
     by_cases cg:mg > 1
     ·refine z0e cg ?_;generalize mg - 1=mg';exact J mg'
     ·refine z0c cg ?_;exact J mg
    intro mg';show wpS M A E s (z1I _ >>= _) _ _;rw[z1x];refine wpS_bind (wpS_modify ?_);refine wpS_bind (z0s eb ?_);refine wpS_bind (z83 hL hk (hmb _ mb) hma (by lia) (by lia) (λp q p1 p2 p3=>sa p q (by lia) p2 (by lia)) λk hk1 g1 g2 =>?_);simp only[Nat.zero_add] at g1 g2;dsimp only;have mA:Mrh rk a.toList b.toList ((a.toList.take ja).drop k++out.toList.reverse) k (jb+1):=m.moveA ha k hk1 (by
     intro x hx y hy;obtain⟨i,hi,hi2,e⟩:=zbo hx;obtain⟨j,hj,hj2,hj3,e2⟩:=zf4 hy;have q1:=g2 j hj hj2;have q2:=sb i jb (by lia) (by lia) (by lia);rw[z2R e2] at q1;rw[z0H eb,z2R e] at q2;lia)
    have hgt:z2i rk (a.toList.take k) [pb]:=by
     intro x hx y hy;obtain rfl:=List.mem_singleton.mp hy;obtain⟨j,hj,hj2,e⟩:=zbo hx;have:=g1 j hj;rw[z2R e] at this;lia
    refine ze4 (H:=λ(ka:Nat) (out1:Array Keyed)=>0<ka/\ka<=ja/\Mrh rk a.toList b.toList out1.toList.reverse ka (jb+1)/\z2i rk (a.toList.take ka) [pb]) (P := ?pp2) ?tl2 ?us2
    case us2=>
     intro J;have hk2:=hk1;have hg:=hgt
     by_cases c3:ja - k > 0
     ·refine z0e c3 ?_;have mA':Mrh rk a.toList b.toList (out++(a.extract k ja).reverse).toList.reverse k (jb+1):=by
       rw[Array.toList_append,List.reverse_append,Array.toList_reverse,List.reverse_reverse,z2W, <- List.drop_take]; exact mA
      by_cases c4:k=0
      ·refine z0e (by simpa using c4) ?_;exact wpS_pure (.inl ⟨_,_,rfl,fin _ _ _ mg' mA' (.inl c4)⟩)
      refine z0c (by simpa using c4) ?_;generalize out++(a.extract k ja).reverse=out1 at mA' ⊢;generalize k=ka at mA' hg hk2 c4 ⊢;exact J ka out1 ⟨by lia,hk2,mA',hg⟩
     ·refine z0c c3 ?_;obtain rfl:k=ja:=by lia
      exact J k out ⟨by lia,by lia,m,hg⟩
    clear mA hgt g1 g2;rintro ka out1 ⟨kl,kn,mA',hgt⟩;refine wpS_bind (z0s eb ?_);have mB:Mrh rk a.toList b.toList (out1.push pb).toList.reverse ka jb:=by
     have:=mA'.moveB hb jb (by lia) (by rw[z28 (z1G eb)]; exact hgt);rw[z28 (z1G eb)] at this;simpa using this
    by_cases c6:jb=1
    case pos=>
     refine z0e (by simpa using c6) ?_;exact wpS_pure (.inl ⟨_,_,rfl,fin2 _ _ _ mg' mB c6⟩)
    refine z0c (by simpa using c6) ?_;obtain⟨kc,ekc⟩:∃i,ka=i+1:=⟨ka - 1,by lia⟩
    subst ekc;dsimp only[Nat.add_one_sub_one];obtain⟨pa,ea,ma⟩:=z1B (xs:=a) (i:=kc) (by lia);refine wpS_bind (z0s ea ?_);refine wpS_bind (z84 hL hk (hma _ ma) hmb (by lia) (by lia) (λp q p1 p2 p3=>sb p q (by lia) p2 (by lia)) λl hl1 f1 f2 =>?_);simp only[Nat.zero_add] at f1 f2;dsimp only;have mC:Mrh rk a.toList b.toList ((b.toList.take jb).drop l++(out1.push pb).toList.reverse) (kc+1) l:=mB.moveB hb l hl1 (by
     intro x hx y hy;obtain⟨i,hi,hi2,e⟩:=zbo hx;obtain⟨j,hj,hj2,hj3,e2⟩:=zf4 hy;have q1:=f2 j hj hj2;have q2:=sa i kc (by lia) (by lia) (by lia);rw[z2R e2] at q1;rw[z0H ea,z2R e] at q2;lia)
    have hgt2:z2i rk (b.toList.take l) [pa]:=by
     intro x hx y hy;obtain rfl:=List.mem_singleton.mp hy;obtain⟨j,hj,hj2,e⟩:=zbo hx;have:=f1 j hj;rw[z2R e] at this;lia
    refine ze4 (H:=λ(kb:Nat) (out2:Array Keyed)=>1<kb/\kb<=jb/\Mrh rk a.toList b.toList out2.toList.reverse (kc+1) kb/\z2i rk (b.toList.take kb) [pa]) (P := ?pp3) ?tl3 ?us3
    case us3=>
     intro J;have hk2:=hl1;have hg:=hgt2
     by_cases c7:jb - l > 0
     ·refine z0e c7 ?_;have mC':Mrh rk a.toList b.toList (out1.push pb++(b.extract l jb).reverse).toList.reverse (kc+1) l:=by
       rw[Array.toList_append,List.reverse_append,Array.toList_reverse,List.reverse_reverse,z2W, <- List.drop_take]; exact mC
      by_cases c8:l=1
      ·refine z0e (by simpa using c8) ?_;exact wpS_pure (.inl ⟨_,_,rfl,fin2 _ _ _ mg' mC' c8⟩)
      refine z0c (by simpa using c8) ?_
      by_cases c8':l=0
      ·refine z0e (by simpa using c8') ?_;exact wpS_pure (.inl ⟨_,_,rfl,fin _ _ _ mg' mC' (.inr c8')⟩)
      refine z0c (by simpa using c8') ?_;generalize out1.push pb++(b.extract l jb).reverse=out2 at mC' ⊢;generalize l=kb at mC' hg hk2 c8 c8' ⊢;exact J kb out2 ⟨by lia,hk2,mC',hg⟩
     ·refine z0c c7 ?_;obtain rfl:l=jb:=by lia
      exact J l (out1.push pb) ⟨by lia,by lia,mB,hgt2⟩
    clear mC hgt2 f1 f2;rintro kb out2 ⟨kbl,kbn,mC',hgt2⟩;refine wpS_bind (z0s ea ?_);have mD:Mrh rk a.toList b.toList (out2.push pa).toList.reverse kc kb:=by
     have:=mC'.moveA ha kc (by lia) (by rw[z28 (z1G ea)]; exact hgt2);rw[z28 (z1G ea)] at this;simpa using this
    by_cases c9:kc=0
    case pos=>
     refine z0e (by simpa using c9) ?_;exact wpS_pure (.inl ⟨_,_,rfl,fin _ _ _ mg' mD (.inl c9)⟩)
    refine z0c (by simpa using c9) ?_
    split
    ·exact wpS_pure (.inr ⟨_,_,_,_,_,_,mg',rfl,rfl,mD,by lia,by lia,by lia,by lia,by lia⟩)
    ·exact wpS_pure ⟨_,_,_,_,_,_,mg',rfl,rfl,mD,by lia,by lia,by lia,by lia,by lia⟩
end
end Tim
namespace Tim
open PySem PyProof.Rows
section
variable {M:Model}{A:Around}{E:Value->Shared->Prop}{s:Shared}{rk:Keyed->Nat}{κ:SortKind}{a₀:Array Keyed}
noncomputable def Runs (rk:Keyed->Nat)(xs:Array Keyed):List (Nat × Nat)->Nat->Nat->Prop
 | [],i,j=>i=j
 | (b,n)::r,i,j=>b=i/\1<=n/\Seg rk xs i (i+n)/\Runs rk xs r (i+n) j
theorem Runs.le {xs:Array Keyed}:∀{l:List (Nat × Nat)}{i j:Nat},Runs rk xs l i j->i+l.length<=j
 | [],i,j,h=>by cases h; simp
 | (b,n)::r,i,j,h=>by
  have:=Runs.le h.2.2.2;have:=h.2.1;simp only[List.length_cons]; lia
theorem Runs.app {xs:Array Keyed}:∀{l m:List (Nat × Nat)}{i j:Nat},Runs rk xs (l++m) i j↔∃k,Runs rk xs l i k/\Runs rk xs m k j
 | [],m,i,j=>⟨λh=>⟨i,rfl,h⟩,λ⟨k,h,h'⟩=>by cases h; exact h'⟩
 | (b,n)::r,m,i,j=>by
  constructor
  ·rintro⟨h1,h2,h3,h4⟩;obtain⟨k,q1,q2⟩:=Runs.app.mp h4;exact⟨k,⟨h1,h2,h3,q1⟩,q2⟩
  ·rintro⟨k,⟨h1,h2,h3,h4⟩,q⟩;exact⟨h1,h2,h3,Runs.app.mpr ⟨k,h4,q⟩⟩
theorem Seg.congr {xs ys:Array Keyed}{i j:Nat}(e:∀k,i<=k->k<j->ys[k]? = xs[k]?)(h:Seg rk xs i j):Seg rk ys i j:=λp q h1 h2 h3=>by
 rw[z1r (e p h1 (by lia)),z1r (e q (by lia) h3)];exact h p q h1 h2 h3
theorem Runs.congr {xs ys:Array Keyed}:∀{l:List (Nat × Nat)}{i j:Nat},(∀k,i<=k->k<j->ys[k]? = xs[k]?)->Runs rk xs l i j->Runs rk ys l i j
 | [],_,_,_,h=>h
 | (b,n)::r,i,j,e,h=>by
  have:=Runs.le h.2.2.2;exact⟨h.1,h.2.1,h.2.2.1.congr λk h1 h2=>e k h1 (by lia),Runs.congr (λk h1 h2=>e k (by lia) h2) h.2.2.2⟩
noncomputable def prs (p:Array (Nat × Nat × Nat)):List (Nat × Nat):=p.toList.map λr=>(r.1,r.2.1)
theorem zcf (p:Array (Nat × Nat × Nat)):(prs p).length=p.size:=by simp[prs]
theorem zgP (i:Nat):∀(m:List Keyed) (n:Nat) (arr:Array Keyed),i+n+m.length<=arr.size->
  ((m.zipIdx n).foldl (λa x=>match x with | (p,j)=>a.setIfInBounds (i+j) p) arr).size=arr.size/\
  ∀k,((m.zipIdx n).foldl (λa x=>match x with | (p,j)=>a.setIfInBounds (i+j) p) arr)[k]? = if i+n<=k/\k<i+n+m.length then m[k - (i+n)]? else arr[k]?
 | [],n,arr,_=>⟨rfl,λk=>by rw[if_neg (by simp)]; rfl⟩
 | x::m,n,arr,h=>by
  simp only[List.length_cons] at h;have ih:=zgP i m (n+1) (arr.setIfInBounds (i+n) x) (by rw[Array.size_setIfInBounds]; lia);rw[List.zipIdx_cons,List.foldl_cons];refine⟨ih.1.trans Array.size_setIfInBounds,λk =>?_⟩;rw[ih.2 k];simp only[List.length_cons]
  by_cases h1:i+(n+1)<=k/\k<i+(n+1)+m.length
  ·rw[if_pos h1,if_pos (by lia),show k - (i+n)=k - (i+(n+1))+1 by lia,List.getElem?_cons_succ]
  ·rw[if_neg h1]
   by_cases h2:k=i+n
   ·subst h2;rw[if_pos (by lia),Nat.sub_self,Array.getElem?_setIfInBounds_self_of_lt (by lia)]; rfl
   ·rw[if_neg (by lia),Array.getElem?_setIfInBounds_ne (by lia)]
theorem z6w (hL:Asks M A s κ a₀ rk){st:SortSt}{i hi:Nat}{Q:Bool->SortSt->Prop}(hB:TB κ a₀ st)(hr:Runs rk (arrOf st) (prs (pendingOf st)) 0 hi)(hhi:hi<=a₀.size)(hi1:i+1<(pendingOf st).size)
  (h:∀st',TB κ a₀ st'->Runs rk (arrOf st') (prs (pendingOf st')) 0 hi->(pendingOf st').size+1=(pendingOf st).size->(∀k,hi<=k->(arrOf st')[k]? = (arrOf st)[k]?)->Q true st'):
  wpS M A E s (mergeAt' i) Q st:=by
 obtain⟨kd,X,P,G,F⟩:=st
 replace hi1:i+1<P.size:=hi1
 replace h:∀st',TB κ a₀ st'->Runs rk (arrOf st') (prs (pendingOf st')) 0 hi->(pendingOf st').size+1=P.size->(∀k,hi<=k->(arrOf st')[k]? = X[k]?)->Q true st':=h
 obtain⟨⟨sa,na,pw⟩,ep⟩:∃v,P[i]? = some v:=⟨_,getElem?_pos _ i (by lia)⟩
 obtain⟨⟨sb,nb,pw2⟩,ep2⟩:∃v,P[i+1]? = some v:=⟨_,getElem?_pos _ (i+1) hi1⟩
 obtain⟨l1,l2,el,ll⟩:∃l1 l2,P.toList=l1++(sa,na,pw)::(sb,nb,pw2)::l2/\l1.length=i:=by
  have e1:P.toList[i]? = some (sa,na,pw):=by rw[Array.getElem?_toList]; exact ep
  have e2:P.toList[i+1]? = some (sb,nb,pw2):=by rw[Array.getElem?_toList]; exact ep2
  obtain⟨q1,r1⟩:=List.getElem?_eq_some_iff.mp e1;obtain⟨q2,r2⟩:=List.getElem?_eq_some_iff.mp e2;refine⟨P.toList.take i,P.toList.drop (i+2),?_,by rw[List.length_take]; lia⟩;rw[<- r1, <- r2, <- List.drop_eq_getElem_cons q2, <- List.drop_eq_getElem_cons q1,List.take_append_drop]
 have hr':Runs rk X (prs P) 0 hi:=hr;unfold prs at hr';rw[el,List.map_append,List.map_cons,List.map_cons] at hr';obtain⟨k0,r1,r2⟩:=Runs.app.mp hr';obtain⟨f1,f2,f3,f4,f5,f6,f7⟩:=r2;dsimp only at f1 f2 f3 f4 f5 f6 f7;subst f1;subst f4;have hend:=Runs.le f7;have hsz:X.size=a₀.size:=hB.size;have hpend:(P.setIfInBounds i (sa,na+nb,pw)).eraseIdxIfInBounds (i+1)=(l1++(sa,na+nb,pw)::l2).toArray:=by
  apply Array.toList_inj.mp;rw[Array.toList_eraseIdxIfInBounds,Array.toList_setIfInBounds,el, <- ll,List.set_append_right _ _ (Nat.le_refl _),Nat.sub_self,List.set_cons_zero,List.eraseIdx_append_of_length_le (by lia),show l1.length+1 - l1.length=1 by lia]
  rfl
 have hps:P.size=l1.length+l2.length+2:=by
  rw[<- Array.length_toList,el,List.length_append,List.length_cons,List.length_cons]; lia
 have fin:∀(st':SortSt),TB κ a₀ st'->pendingOf st'=(P.setIfInBounds i (sa,na+nb,pw)).eraseIdxIfInBounds (i+1)->Seg rk (arrOf st') sa (sa+na+nb)->(∀k,k<sa\/sa+na+nb<=k->(arrOf st')[k]? = X[k]?)->Q true st':=by
  intro st' hB' hp' hs' ho;refine h st' hB' ?_ ?_ (λk hk=>ho k (.inr (by lia)))
  ·rw[hp',hpend];unfold prs;rw[List.map_append,List.map_cons];refine Runs.app.mpr ⟨sa,r1.congr (λk _ hk=>ho k (.inl hk)),rfl,(by show 1<=na+nb; lia),?_,?_⟩
   ·rw[show sa+(na+nb)=sa+na+nb by lia]; exact hs'
   ·rw[show sa+(na+nb)=sa+na+nb by lia]; exact f7.congr (λk hk _=>ho k (.inr hk))
  ·rw[hp',hpend,hps];show (l1++(sa,na+nb,pw)::l2).length+1=_;rw[List.length_append,List.length_cons]; lia
 refine wpS_bind (wpS_get ?_);rw[ep,ep2];dsimp only;refine wpS_bind ?_;show wpS M A E s (set (setPending (SortSt.mk' kd X P G F) ((P.setIfInBounds i (sa,na+nb,pw)).eraseIdxIfInBounds (i+1))):StateT SortSt Sem PUnit) _ (SortSt.mk' kd X P G F);obtain⟨st1,e1⟩:∃st1:SortSt,st1=setPending (SortSt.mk' kd X P G F) ((P.setIfInBounds i (sa,na+nb,pw)).eraseIdxIfInBounds (i+1)):=⟨_,rfl⟩
 rw[<- e1];have hset:∀(R:PUnit->SortSt->Prop),R ⟨⟩ st1->wpS M A E s (set st1:StateT SortSt Sem PUnit) R (SortSt.mk' kd X P G F):=λR hR=>by
  unfold wpS;rw[StateT.run_set];exact wpAny_pure ⟨rfl,hR⟩
 refine hset _ ?_;have a1:arrOf st1=X:=by rw[e1]
 have p1:pendingOf st1=(P.setIfInBounds i (sa,na+nb,pw)).eraseIdxIfInBounds (i+1):=by rw[e1]
 have hB1:TB κ a₀ st1:=by rw[e1]; exact⟨hB.kind,hB.failed,hB.perm⟩
 clear e1;have hmem:∀p∈X.toList,p∈a₀.toList:=λp hp=>hB.mem (st:=SortSt.mk' kd X P G F) hp;obtain⟨qb,eb,mb⟩:=z1B (xs:=X) (i:=sa+na) (by lia);refine wpS_bind (z0s eb ?_);refine wpS_bind (z83 hL hB1.kind (hmem _ mb) hmem (by lia) (by lia) f3 λk hk1 g1 g2 =>?_);dsimp only
 by_cases c1:na - k=0
 ·rw[if_pos (by simpa using c1)];obtain rfl:k=na:=by lia
  refine wpS_pure (fin st1 hB1 p1 (λp q x1 x2 x3 =>?_) (λk _=>by rw[a1]));rw[a1]
  by_cases y1:q<sa+k
  ·exact f3 p q x1 x2 y1
  ·by_cases y2:sa+k<=p
   ·exact f6 p q y2 x2 x3
   ·have z1:=g1 (p - sa) (by lia);have z2:=f6 (sa+k) q (by lia) (by lia) x3;rw[show sa+(p - sa)=p by lia] at z1;rw[z0H eb] at z2;lia
 rw[if_neg (by simpa using c1)];rw[show sa+k+(na - k) - 1=sa+na - 1 by lia];obtain⟨qa,ea,ma⟩:=z1B (xs:=X) (i:=sa+na - 1) (by lia);refine wpS_bind (z0s ea ?_);refine wpS_bind (z84 hL hB1.kind (hmem _ ma) hmem (by lia) (by lia) f6 λl hl1 u1 u2 =>?_);dsimp only
 by_cases c2:l=0
 ·rw[if_pos (by simpa using c2)];refine wpS_pure (fin st1 hB1 p1 (λp q x1 x2 x3 =>?_) (λk _=>by rw[a1]));rw[a1]
  by_cases y1:q<sa+na
  ·exact f3 p q x1 x2 y1
  ·by_cases y2:sa+na<=p
   ·exact f6 p q y2 x2 x3
   ·have z1:=u2 (q - (sa+na)) (by lia) (by lia);have z2:=f3 p (sa+na - 1) x1 (by lia) (by lia);rw[show sa+na+(q - (sa+na))=q by lia] at z1;rw[z0H ea] at z2;lia
 rw[if_neg (by simpa using c2)];have back:∀(r:Array Keyed) (g:Nat),Up rk r.toList->r.toList.Perm ((X.extract (sa+k) (sa+na)).toList++(X.extract (sa+na) (sa+na+l)).toList)->
   ∀(arr':Array Keyed),arr'=r.toList.zipIdx.foldl (λa x=>match x with | (p,j)=>a.setIfInBounds (sa+k+j) p) X->Q true (setArr (z1J st1 g) arr'):=by
  intro r g ru rp arr' earr;have rl:r.toList.length=na - k+l:=by
   rw[rp.length_eq,List.length_append,Array.length_toList,Array.length_toList,Array.size_extract,Array.size_extract]; lia
  have w:=zgP (sa+k) r.toList 0 X (by lia);rw[<- earr] at w;simp only[Nat.add_zero,rl] at w;rw[show sa+k+(na - k+l)=sa+na+l by lia] at w;have rm:∀x∈r.toList,Rk rk X (sa+na)<=rk x/\rk x<=Rk rk X (sa+na - 1):=by
   intro x hx
   rcases List.mem_append.mp (rp.mem_iff.mp hx) with hx | hx
   ·rw[z2W] at hx;obtain⟨j,j1,j2,je⟩:=z5f hx;have z1:=g2 (k+j) (by lia) (by lia);have z2:=f3 (sa+k+j) (sa+na - 1) (by lia) (by lia) (by lia);rw[show sa+(k+j)=sa+k+j by lia,z2R je] at z1;rw[z2R je] at z2;rw[z0H eb];lia
   ·rw[z2W] at hx;obtain⟨j,j1,j2,je⟩:=z5f hx;have z1:=u1 j (by lia);have z2:=f6 (sa+na) (sa+na+j) (by lia) (by lia) (by lia);rw[z2R je] at z1 z2;rw[z0H ea];lia
  have at1:∀p,p<sa+k\/sa+na+l<=p->arr'[p]? = X[p]? := λp hp=>by rw[w.2 p,if_neg (by lia)]
  have at2:∀p,sa+k<=p->p<sa+na+l->∃x,x∈r.toList/\r.toList[p - (sa+k)]? = some x/\Rk rk arr' p=rk x:=λp h1 h2=>by
   have hlt:p - (sa+k)<r.toList.length:=by lia
   refine⟨r.toList[p - (sa+k)],List.getElem_mem hlt,List.getElem?_eq_getElem hlt,z0H ?_⟩;rw[w.2 p,if_pos ⟨h1,h2⟩,List.getElem?_eq_getElem hlt]
  have hperm:arr'.Perm X:=by
   apply Array.perm_iff_toList_perm.mpr;have ex:arr'.toList=X.toList.take (sa+k)++(r.toList++X.toList.drop (sa+na+l)):=by
    apply List.ext_getElem?;intro p;rw[Array.getElem?_toList,w.2 p,List.getElem?_append,List.length_take,Array.length_toList,Nat.min_eq_left (by lia)]
    by_cases h1:p<sa+k
    ·rw[if_neg (by lia),if_pos h1,List.getElem?_take,if_pos h1,Array.getElem?_toList]
    ·rw[if_neg h1,List.getElem?_append,rl]
     by_cases h2:p<sa+na+l
     ·rw[if_pos (by lia),if_pos (by lia)]
     ·rw[if_neg (by lia),if_neg (by lia),List.getElem?_drop,Array.getElem?_toList]
      congr 1; lia
   have ey:X.toList=X.toList.take (sa+k)++(((X.extract (sa+k) (sa+na)).toList++(X.extract (sa+na) (sa+na+l)).toList)++X.toList.drop (sa+na+l)):=by
    rw[z2W,z2W];have d1:=z6v X.toList (sa+k) (sa+na - (sa+k));have d2:=z6v X.toList (sa+na) (sa+na+l - (sa+na));rw[show sa+k+(sa+na - (sa+k))=sa+na by lia] at d1;rw[show sa+na+(sa+na+l - (sa+na))=sa+na+l by lia] at d2;rw[List.append_assoc, <- d2, <- d1,List.take_append_drop]
   rw[ex]
   conv=>rhs; rw[ey]
   exact List.Perm.append_left _ (List.Perm.append_right _ rp)
  refine fin _ ⟨hB1.kind,hB1.failed,hperm.trans hB.perm⟩ p1 (λp q x1 x2 x3 =>?_) (λp hp=>at1 p (by lia));show Rk rk arr' p<=Rk rk arr' q
  by_cases p2:p<sa+k
  ·rw[z1r (at1 p (.inl p2))]
   by_cases q2:q<sa+k
   ·rw[z1r (at1 q (.inl q2))]; exact f3 p q x1 x2 (by lia)
   ·have z1:=g1 (p - sa) (by lia);rw[show sa+(p - sa)=p by lia] at z1
    by_cases q3:q<sa+na+l
    ·obtain⟨x,xm,_,xr⟩:=at2 q (by lia) q3;rw[xr];have:=(rm x xm).1;rw[z0H eb] at this;lia
    ·rw[z1r (at1 q (.inr (by lia)))];have:=f6 (sa+na) q (by lia) (by lia) x3;rw[z0H eb] at this;lia
  ·by_cases p3:p<sa+na+l
   ·obtain⟨x,xm,xi,xr⟩:=at2 p (by lia) p3;rw[xr]
    by_cases q3:q<sa+na+l
    ·obtain⟨y,ym,yi,yr⟩:=at2 q (by lia) q3;rw[yr]
     by_cases epq:p=q
     ·subst epq; rw[xi] at yi; cases yi; exact Nat.le_refl _
     ·obtain⟨v1,w1⟩:=List.getElem?_eq_some_iff.mp xi;obtain⟨v2,w2⟩:=List.getElem?_eq_some_iff.mp yi;have:=List.pairwise_iff_getElem.mp ru (p - (sa+k)) (q - (sa+k)) v1 v2 (by lia);rw[w1,w2] at this;exact this
    ·rw[z1r (at1 q (.inr (by lia)))];have z1:=(rm x xm).2;have z2:=u2 (q - (sa+na)) (by lia) (by lia);rw[show sa+na+(q - (sa+na))=q by lia] at z2;rw[z0H ea] at z1;lia
   ·rw[z1r (at1 p (.inr (by lia))),z1r (at1 q (.inr (by lia)))];exact f6 p q (by lia) x2 x3
 have upx:Up rk (X.extract (sa+k) (sa+na)).toList:=zc5 (λp q x1 x2 x3=>f3 p q (by lia) x2 x3) (by lia);have upy:Up rk (X.extract (sa+na) (sa+na+l)).toList:=zc5 (λp q x1 x2 x3=>f6 p q x1 x2 (by lia)) (by lia);have szx:(X.extract (sa+k) (sa+na)).size=na - k:=by rw[Array.size_extract]; lia
 have szy:(X.extract (sa+na) (sa+na+l)).size=l:=by rw[Array.size_extract]; lia
 have mx:∀p∈(X.extract (sa+k) (sa+na)).toList,p∈a₀.toList:=λp hp=>hmem p (by rw[z2W] at hp; exact List.mem_of_mem_drop (List.mem_of_mem_take hp));have my:∀p∈(X.extract (sa+na) (sa+na+l)).toList,p∈a₀.toList:=λp hp=>hmem p (by rw[z2W] at hp; exact List.mem_of_mem_drop (List.mem_of_mem_take hp));have c3:z2i rk ((X.extract (sa+na) (sa+na+l)).toList.take 1) (X.extract (sa+k) (sa+na)).toList:=by
  intro x hx y hy;rw[z2W] at hx hy;rw[List.take_take] at hx;obtain⟨i1,j1,j2,je⟩:=z5f hx;obtain⟨i2,k1,k2,ke⟩:=z5f hy;have z1:=g2 (k+i2) (by lia) (by lia);rw[show sa+(k+i2)=sa+k+i2 by lia,z2R ke] at z1;obtain rfl:i1=0:=by lia
  have z3:Rk rk X (sa+na)=rk x:=z2R je;rw[z0H eb] at z3;lia
 have c4:z2i rk (X.extract (sa+na) (sa+na+l)).toList ((X.extract (sa+k) (sa+na)).toList.drop ((X.extract (sa+k) (sa+na)).size - 1)):=by
  intro x hx y hy;rw[z2W] at hx;obtain⟨i1,j1,j2,je⟩:=z5f hx;rw[szx] at hy;obtain⟨i2,k2,ke⟩:=z9Z hy;rw[Array.length_toList,szx] at k2;obtain rfl:i2=0:=by lia
  have z1:=u1 i1 (by lia);rw[z2R je] at z1;rw[Array.getElem?_toList,Array.getElem?_extract,if_pos (by lia),show sa+k+(na - k - 1+0)=sa+na - 1 by lia,ea] at ke
  cases ke
  lia
 have last:∀(r:Array Keyed) (g:Nat),Up rk r.toList->r.toList.Perm ((X.extract (sa+k) (sa+na)).toList++(X.extract (sa+na) (sa+na+l)).toList)->
   Q ((failedOf st1).isNone) (setArr (z1J st1 g) (r.toList.zipIdx.foldl (λa x=>match x with | (p,j)=>a.setIfInBounds (sa+k+j) p) (arrOf st1))):=λr g ru rp=>by
  rw[hB1.failed,a1];exact back r g ru rp _ rfl
 by_cases c5:na - k<=l
 ·rw[if_pos c5];refine wpS_bind (z9M hL hB1.kind mx my upx upy (by lia) (by lia) c3 c4 λr g ru rp =>?_);exact wpS_bind (wpS_modify (wpS_bind (wpS_get (wpS_pure (last r g ru rp)))))
 ·rw[if_neg c5];refine wpS_bind (z9N hL hB1.kind mx my upx upy (by lia) (by lia) c3 c4 λr g ru rp =>?_);exact wpS_bind (wpS_modify (wpS_bind (wpS_get (wpS_pure (last r g ru rp)))))
end
end Tim
namespace Tim
open PySem PyProof.Rows
section
variable {M:Model}{A:Around}{E:Value->Shared->Prop}{s:Shared}{rk:Keyed->Nat}{κ:SortKind}{a₀:Array Keyed}
theorem zfY (p:Array (Nat × Nat × Nat))(i w:Nat):prs (p.modify i λx=>match x with | (st,len,_)=>(st,len,w))=prs p:=by
 unfold prs;rw[Array.toList_modify];apply List.ext_getElem?;intro k;rw[List.getElem?_map,List.getElem?_map,List.getElem?_modify]
 cases p.toList[k]? with
 | none=>rfl
 | some v=>
  obtain⟨v1,v2,v3⟩:=v
  by_cases e:i=k <;> simp[e]
theorem zg2 {c:Prop}[Decidable c]{n:Nat}(h:1<n):(if c then n - 2 - 1 else n - 2)+1<n:=by
 split <;> lia
theorem zdT (p:Array (Nat × Nat × Nat))(v:Nat × Nat × Nat):prs (p.push v)=prs p++[(v.1,v.2.1)]:=by
 unfold prs; rw[Array.toList_push,List.map_append]; rfl
theorem z8L (hL:Asks M A s κ a₀ rk){st:SortSt}{Q:Unit->SortSt->Prop}(hB:TB κ a₀ st)(hp:pendingOf st = #[])(h1:1<=a₀.size)
  (h:∀st',TB κ a₀ st'->Seg rk (arrOf st') 0 a₀.size->Q () st'):wpS M A E s sortRuns' Q st:=by
 refine wpS_bind (wpS_get ?_);dsimp only;have hz:(PyProof.Rows.arrOf st).size=a₀.size:=hB.size;rw[hz];obtain⟨mr,emr⟩:∃mr,minRun' a₀.size a₀.size 0=mr:=⟨_,rfl⟩
 delta minRun' at emr
 rw[emr];refine wpS_bind (wpS_mono (wpS_forRange
  (I:=λx c st'=>∃lo,c=(none,lo)/\TB κ a₀ st'/\Runs rk (arrOf st') (prs (pendingOf st')) 0 lo/\lo<=a₀.size/\x<=lo)
  (Q:=λc st'=>c=(none,a₀.size)/\TB κ a₀ st'/\Runs rk (arrOf st') (prs (pendingOf st')) 0 a₀.size) ?step ?fin ⟨0,rfl,hB,by rw[hp]; exact rfl,by lia,by lia⟩) ?post)
 case fin=>
  rintro c st' hI1;apply elc1 (c:=c) hI1;intro lo p1;have hB':=p1.1;have hr':=p1.2.1;have l1:=p1.2.2.1;have l2:=p1.2.2.2;clear p1 hI1;obtain rfl:lo=a₀.size:=by lia
  exact⟨rfl,hB',hr'⟩
 case step=>
  rintro x c st' _ hx hI2;apply elc1 (c:=c) hI2;intro lo p2;have hB':=p2.1;have hr':=p2.2.1;have l1:=p2.2.2.1;have l2:=p2.2.2.2;clear p2 hI2;dsimp only
  by_cases c1:lo>=a₀.size
  ·refine z0e c1 ?_;obtain rfl:lo=a₀.size:=by lia
   exact wpS_pure ⟨rfl,hB',hr'⟩
  refine z0c c1 ?_;refine wpS_bind (z8N hL (by lia) (by lia) hB' λm st1 hB1 hp1 m1 m2 hs1 hl1 =>?_);dsimp only;have hr1:Runs rk (arrOf st1) (prs (pendingOf st1)) 0 lo:=by rw[hp1]; exact hr'.congr (λk _ hk=>hl1 k hk)
  by_cases c2:m<mr
  case' pos=>
   refine z0e c2 ?_;refine wpS_bind (wpS_lift (wpAny_rule ⟨rfl,?_⟩));refine wpS_bind (z7p hL (by lia) (by lia) m1 hB1 hs1 λst2 hB2 hp2 hs2 hl2 =>?_);refine z0c (by decide) ?_;have hr2:Runs rk (arrOf st2) (prs (pendingOf st2)) 0 lo:=by rw[hp2]; exact hr1.congr (λk _ hk=>hl2 k hk)
   obtain⟨n,en,n1,n2⟩:∃n,n=min (a₀.size - lo) mr/\1<=n/\lo+n<=a₀.size:=⟨_,rfl,by lia,by lia⟩
   rw[<- en] at hs2 ⊢;clear en
  case' neg=>
   refine z0c c2 ?_;obtain⟨n,en,n1,n2⟩:∃n,n=m/\1<=n/\lo+n<=a₀.size:=⟨_,rfl,by lia,by lia⟩
   obtain⟨st2,e2,hB2,hr2⟩:∃st2,st2=st1/\TB κ a₀ st2/\Runs rk (arrOf st2) (prs (pendingOf st2)) 0 lo:=⟨_,rfl,hB1,hr1⟩
   have hs2:Seg rk (arrOf st2) lo (lo+n):=by rw[e2,en]; exact hs1
   rw[<- en, <- e2];clear en e2
  all_goals
   refine wpS_bind (wpS_get ?_);have push:∀st3,TB κ a₀ st3->Runs rk (arrOf st3) (prs (pendingOf st3)) 0 lo->Seg rk (arrOf st3) lo (lo+n)->TB κ a₀ (setPending st3 ((pendingOf st3).push (lo,n,0)))/\Runs rk (arrOf st3) (prs ((pendingOf st3).push (lo,n,0))) 0 (lo+n):=λst3 hB3 hr3 hs3=>by
    refine⟨⟨hB3.kind,hB3.failed,hB3.perm⟩,?_⟩;rw[zdT];exact Runs.app.mpr ⟨lo,hr3,rfl,n1,hs3,rfl⟩
   split
   ·rename_i s1 n1' w eb
    refine wpS_bind (wpS_mono (wpS_forRange (I:=λy c st3=>c=(none,())/\TB κ a₀ st3/\Runs rk (arrOf st3) (prs (pendingOf st3)) 0 lo/\Seg rk (arrOf st3) lo (lo+n))
     (Q:=λc st3=>c=(none,())/\TB κ a₀ st3/\Runs rk (arrOf st3) (prs (pendingOf st3)) 0 lo/\Seg rk (arrOf st3) lo (lo+n)) ?istep (λ_ _ z=>z) ⟨rfl,hB2,hr2,hs2⟩) ?ipost)
    case istep=>
     rintro y c st3 _ _ hI3;apply elc0 (c:=c) hI3;intro p3;have hB3:=p3.1;have hr3:=p3.2.1;have hs3:=p3.2.2;clear p3 hI3;refine wpS_bind (wpS_get ?_)
     split
     ·rename_i f1 f2 old eo
      split
      ·exact wpS_pure ⟨rfl,hB3,hr3,hs3⟩
      ·have hgt:(pendingOf st3).size > 1:=by
        by_cases q:(pendingOf st3).size > 1
        ·exact q
        ·rw[if_neg q] at eo; cases eo
       refine wpS_bind (z6w hL hB3 hr3 l1 (by show (pendingOf st3).size - 2+1<(pendingOf st3).size; lia) λst4 hB4 hr4 _ ho4 =>?_);refine z0c (by decide) ?_;exact wpS_pure ⟨rfl,hB4,hr4,hs3.congr λk hk _=>ho4 k hk⟩
     ·exact wpS_pure ⟨rfl,hB3,hr3,hs3⟩
    case ipost=>
     rintro c st3 hI4;apply elc0 (c:=c) hI4;intro p4;have hB3:=p4.1;have hr3:=p4.2.1;have hs3:=p4.2.2;clear p4 hI4;dsimp only;refine wpS_bind (wpS_modify (wpS_bind (wpS_modify (wpS_pure ?_))));have:=push (setPending st3 ((pendingOf st3).modify ((pendingOf st3).size - 1) λx=>match x with | (st,len,_)=>(st,len,power' a₀.size (2*s1+n1') (2*s1+n1'+n1'+n) a₀.size))) ⟨hB3.kind,hB3.failed,hB3.perm⟩ (by
      show Runs rk (arrOf st3) (prs ((pendingOf st3).modify _ _)) 0 lo;rw[zfY]; exact hr3) hs3
     exact⟨lo+n,rfl,this.1,this.2,n2,by lia⟩
   ·have:=push st2 hB2 hr2 hs2;exact wpS_bind (wpS_modify (wpS_pure ⟨lo+n,rfl,this.1,this.2,n2,by lia⟩))
 case post=>
  rintro c st' hI5;apply elc0 (c:=c) hI5;intro p5;have hB':=p5.1;have hr':=p5.2;clear p5 hI5;dsimp only;have hle:=hr'.le;rw[zcf] at hle;refine wpS_bind (wpS_mono (wpS_forRange (I:=λy c st3=>c=(none,())/\TB κ a₀ st3/\Runs rk (arrOf st3) (prs (pendingOf st3)) 0 a₀.size/\((pendingOf st3).size<=1\/(pendingOf st3).size+y<=a₀.size))
   (Q:=λc st3=>c=(none,())/\TB κ a₀ st3/\Runs rk (arrOf st3) (prs (pendingOf st3)) 0 a₀.size/\(pendingOf st3).size<=1) ?fstep ?ffin ⟨rfl,hB',hr',.inr (by lia)⟩) ?fpost)
  case ffin=>
   rintro c st3 hI6;apply elc0 (c:=c) hI6;intro p6;have hB3:=p6.1;have hr3:=p6.2.1;have hs3:=p6.2.2;clear p6 hI6;exact⟨rfl,hB3,hr3,by lia⟩
  case fpost=>
   rintro c st3 hI7;apply elc0 (c:=c) hI7;intro p7;have hB3:=p7.1;have hr3:=p7.2.1;have hs3:=p7.2.2;clear p7 hI7;refine wpS_pure (h st3 hB3 ?_);rw[<- zcf] at hs3
   match hl:prs (pendingOf st3),hr3,hs3 with
   | [],hr3,_=>have:0=a₀.size:=hr3; lia
   | [(b,n)],hr3,_=>
    obtain⟨q1,q2,q3,q4⟩:=hr3;have:0+n=a₀.size:=q4;rw[<- this]; exact q3
   | _::_::_,_,hs3=>simp at hs3
  case fstep=>
   rintro y c st3 _ _ hI8;apply elc0 (c:=c) hI8;intro p8;have hB3:=p8.1;have hr3:=p8.2.1;have hs3:=p8.2.2;clear p8 hI8;refine wpS_bind (wpS_get ?_)
   by_cases c3:(pendingOf st3).size<=1
   ·refine z0e c3 ?_;exact wpS_pure ⟨rfl,hB3,hr3,c3⟩
   ·refine z0c c3 ?_;refine wpS_bind (z6w hL hB3 hr3 (Nat.le_refl _) ?_ λst4 hB4 hr4 hz4 ho4 =>?_)
    ·show (if _ then (pendingOf st3).size - 2 - 1 else (pendingOf st3).size - 2)+1<(pendingOf st3).size;exact zg2 (by lia)
    ·refine z0c (by decide) ?_;exact wpS_pure ⟨rfl,hB4,hr4,by lia⟩
end
end Tim
namespace Tim
open PySem PyProof.Rows PySem.W HT
theorem za2:∀k:List Int,z0r k k=false
 | []=>rfl
 | x::xs=>by rw[z1o,if_pos rfl]; exact za2 xs
theorem zcN:∀{a b c:List Int},z0r a b=true->z0r b c=true->z0r a c=true
 | [],[],_,h,_=>by cases h
 | [],_::_,[],_,k=>by cases k
 | [],_::_,_::_,_,_=>rfl
 | _::_,[],_,h,_=>by cases h
 | _::_,_::_,[],_,k=>by cases k
 | x::xs,y::ys,z::zs,h,k=>by
  rw[z1o] at h k ⊢
  by_cases e1:x=y
  ·subst e1
   by_cases e2:x=z
   ·subst e2;rw[if_pos rfl] at h k ⊢;exact zcN h k
   ·rw[if_neg e2] at k ⊢; exact k
  ·rw[if_neg e1] at h;have h':=of_decide_eq_true h
   by_cases e2:y=z
   ·subst e2;rw[if_neg e1]; exact h
   ·rw[if_neg e2] at k;have k':=of_decide_eq_true k;rw[if_neg (by omega)];exact decide_eq_true (by omega)
theorem za1:∀(a b:List Int),z0r a b=false->z0r b a=false->a=b
 | [],[],_,_=>rfl
 | [],_::_,h,_=>by cases h
 | _::_,[],_,k=>by cases k
 | x::xs,y::ys,h,k=>by
  rw[z1o] at h k
  by_cases e:x=y
  ·subst e;rw[if_pos rfl] at h k;rw[za1 xs ys h k]
  ·rw[if_neg e] at h;rw[if_neg (Ne.symm e)] at k;have h':=of_decide_eq_false h;have k':=of_decide_eq_false k;omega
noncomputable def rkL (l:List (List Int))(k:List Int):Nat:=l.countP λq=>z0r q k
theorem z9x {α:Type}{p q:α->Bool}{l:List α}(h:∀x,p x=true->q x=true){a:α}(ha:a∈l)(hp:p a=false)(hq:q a=true):l.countP p<l.countP q:=by
 induction l with
 | nil=>cases ha
 | cons y l ih=>
  rw[List.countP_cons,List.countP_cons];have hle:l.countP p<=l.countP q:=List.countP_mono_left λx _ hx=>h x hx
  rcases List.mem_cons.mp ha with rfl | ha
  ·rw[hp,hq]; simp; omega
  ·have:=ih ha
   by_cases py:p y=true
   ·rw[py,h y py]; simp; omega
   ·rw[if_neg py]; split <;> omega
theorem zeP {l:List (List Int)}{a b:List Int}(ha:a∈l)(hb:b∈l):z0r a b=decide (rkL l a<rkL l b):=by
 cases q:z0r a b with
 | true=>
  symm
  apply decide_eq_true;exact z9x (λx hx=>zcN hx q) ha (za2 a) q
 | false=>
  symm
  apply decide_eq_false;intro hlt
  cases q2:z0r b a with
  | true=>
   have:=z9x (p:=λx=>z0r x b) (q:=λx=>z0r x a) (λx hx=>zcN hx q2) hb (za2 b) q2;unfold rkL at hlt; omega
  | false=>
   rw[za1 a b q q2] at hlt;omega
section
variable {prog:Program}{w:World}{A:Around}{E:Value->Shared->Prop}{s:Shared}
theorem z6W {b fin:Bool}{Q:Bool->Shared->Prop}:∀{vs ws:List Value}{ns ms:List Int}(i:Nat),IntsAre vs ns->IntsAre ws ms->fin=decide (ns.length<ms.length)->Q (z0r ns ms) s->KatLex prog w A b fin Q (vs.zip ws) i s
 | _,_,_,_,i,.nil,.nil,hf,h=>by
  refine kat_nil ?_; rw[hf]; exact h
 | _,_,_,_,i,.nil,.cons m u r,hf,h=>by
  refine kat_nil ?_; rw[hf];rw[show decide (([]:List Int).length<(m::_).length)=true by simp]; exact h
 | _,_,_,_,i,.cons n t r,.nil,hf,h=>by
  refine kat_nil ?_; rw[hf];rw[show decide ((n::_).length<([]:List Int).length)=false by simp]; exact h
 | _,_,_,_,i,.cons n t r,.cons m u r2,hf,h=>by
  refine kat_cons (wpAny_eqBool_int ?_);rw[z1o] at h
  by_cases e:n=m
  ·subst e;rw[if_pos rfl] at h;rw[show (n == n)=true by simp];exact kat_yes (z6W (i+1) r r2 (by rw[hf]; simp) h)
  ·rw[if_neg e] at h;rw[show (n == m)=false by simpa using e];refine kat_no ?_
   cases hb:(b && i == 0) with
   | true=>exact oneLt_int h
   | false=>exact kat_one _ _ (lt_int h)
noncomputable def TI (h:Heap)(v:Value)(k:List Int):Prop:=∃a o z06 n,v = .ref a/\h.get? a=some o/\o.cls = .type "tuple"/\o.data = .seq z06 n/\IntsAre z06.toList k
theorem TI.keep {h h':Heap}{v:Value}{k:List Int}(x:TI h v k)(g:∀b o,h.get? b=some o->o.cls = .type "tuple"->h'.get? b=some o):TI h' v k:=by
 obtain⟨a,o,z06,n,e,h1,h2,h3,h4⟩:=x;exact⟨a,o,z06,n,e,g _ _ h1 h2,h2,h3,h4⟩
theorem zeE {vs:List Value}{key:Value->List Int}(hk:∀v∈vs,TI s.heap v (key v))(b:Bool):Asks (model prog w) A s (tuples' b) (pairsOf vs) (λp=>rkL (vs.map key) (key p.1)):=by
 intro x y hx hy Q E h;rw[pairsOf_toList] at hx hy;have mx:=(mem_zip_self hx).2;have my:=(mem_zip_self hy).2;rw[<- zeP (List.mem_map.mpr ⟨_,mx,rfl⟩) (List.mem_map.mpr ⟨_,my,rfl⟩)] at h;obtain⟨a1,o1,i1,n1,e1,g1,c1,d1,k1⟩:=hk _ mx;obtain⟨a2,o2,i2,n2,e2,g2,c2,d2,k2⟩:=hk _ my;rw[e1] at h k1;rw[e2] at h k2;rw[e1,e2];exact kat_lt g1 d1 g2 d2 (z6W 0 k1 k2 (by rw[<- IntsAre.length k1, <- IntsAre.length k2,Array.length_toList,Array.length_toList]) h)
theorem z6X {h:Heap}{key:Value->List Int}:∀{vs:List Value},(∀v∈vs,TI h v (key v)/\key v≠[])->∃fs:List Value,KatTups h vs fs/\fs.length=vs.length/\∀f∈fs,∃n t,f = .int n t
 | [],_=>⟨[],.nil,rfl,λ_ h=>by cases h⟩
 | v::vs,hk=>by
  obtain⟨fs,q1,q2,q3⟩:=z6X (vs:=vs) (λv hv=>hk v (List.mem_cons_of_mem _ hv));obtain⟨⟨a,o,z06,n,e,h1,h2,h3,h4⟩,hne⟩:=hk v (List.mem_cons_self ..);subst e;obtain⟨x,xs,ex⟩:∃x xs,key (.ref a)=x::xs:=by
   cases hq:key (.ref a) with
   | nil=>exact(hne hq).elim
   | cons x xs=>exact⟨x,xs,rfl⟩
  rw[ex] at h4;generalize hi:z06.toList=il at h4
  cases h4 with
  | cons _ t r=>
   refine⟨.int x t::fs,.cons h1 h2 h3 ?_ q1,by simp[q2],λf hf =>?_⟩
   ·rw[<- Array.getElem?_toList,hi]; rfl
   ·rcases List.mem_cons.mp hf with rfl | hf
    ·exact⟨_,_,rfl⟩
    ·exact q3 f hf
theorem zej {vs:List Value}{key:Value->List Int}{Q:SortKind->Shared->Prop}(hk:∀v∈vs,TI s.heap v (key v)/\key v≠[])(hne:0<vs.length)(h:Q (tuples' true) s):wpAny (model prog w) A (keyKind' vs.toArray) Q E s:=by
 obtain⟨fs,q1,q2,q3⟩:=z6X hk;refine kat_kind (T :=.type "int") q1 (by omega) (λv hv =>?_) rfl h;obtain⟨n,t,rfl⟩:=q3 v hv;exact Looks.now
theorem zdQ {α:Type}{R:α->α->Prop}{l:List α}(h:l.length<2):l.Pairwise R:=by
 match l,h with
 | [],_=>exact List.Pairwise.nil
 | [x],_=>exact List.pairwise_singleton _ _
theorem z7A {a:Addr}{vs:List Value}{key:Value->List Int}{n:Nat}{P:PySem.Fin->Shared->Prop}(ho:s.heap.get? a=some (seqObj "list" vs.toArray n))(hz:vs.length<=sizeLine)
  (hk:∀v∈vs,TI s.heap v (key v)/\key v≠[])
  (h:∀out:List Value,out.Perm vs->out.Pairwise (λx y=>z0r (key y) (key x)=false)->P (.done (.ret .none)) { s with heap:=sortedHeap s.heap a vs out.toArray }):
  wpAny (model prog w) A (Builtin.«list.sort» ⟨[.ref a],[]⟩) P E s:=by
 rw[list_sort_plain];have ha:a<s.heap.objs.size:=Heap.lt_size ho;refine wpAny_bind (listItems_at ho rfl ?_);refine wpAny_bind (listUpdate_at ho rfl ?_ (by rw[List.size_toArray]; omega) (Nat.zero_le _));obtain⟨e1,ho1⟩:∃e1,(s.heap.update a (Obj.mapSeq λ_ => #[])).get? a=some (seqObj "list" #[] e1):=⟨_,get?_update_seq ho (λ_ => #[])⟩
 refine wpAny_bind (seqEpoch_at ho1 rfl ?_);refine wpAny_bind (wpAny_newTuple ?_ (by show vs.length<=_; omega));refine wpAny_bind (wpAny_newList ?_ (Nat.zero_le _));refine wpAny_holding ?_;have ho6:(((s.heap.update a (Obj.mapSeq λ_ => #[])).push (seqObj "tuple" vs.toArray 0)).push (seqObj "list" #[] 0)).get? a=some (seqObj "list" #[] e1):=by
  rw[Heap.get?_push_ne _ _ _ (by rw[size_push',Heap.size_update]; exact Nat.ne_of_lt (Nat.lt_succ_of_lt ha)),Heap.get?_push_ne _ _ _ (by rw[Heap.size_update]; exact Nat.ne_of_lt ha)];exact ho1
 have keep:∀b o,s.heap.get? b=some o->o.cls = .type "tuple"->(((s.heap.update a (Obj.mapSeq λ_ => #[])).push (seqObj "tuple" vs.toArray 0)).push (seqObj "list" #[] 0)).get? b=some o:=λb o hb hc=>by
  have hlt:b<s.heap.objs.size:=Heap.lt_size hb;have hne:b≠a:=by
   rintro rfl;rw[ho] at hb
   cases hb
   exact absurd (show Value.type "list"=Value.type "tuple" from hc) (by decide)
  rw[Heap.get?_push_ne _ _ _ (by rw[size_push',Heap.size_update]; exact Nat.ne_of_lt (Nat.lt_succ_of_lt hlt)),Heap.get?_push_ne _ _ _ (by rw[Heap.size_update]; exact Nat.ne_of_lt hlt),Heap.get?_update_ne _ _ _ _ hne];exact hb
 show wpAny (model prog w) A _ P E { s with heap:=((s.heap.update a (Obj.mapSeq λ_ => #[])).push (seqObj "tuple" vs.toArray 0)).push (seqObj "list" #[] 0) };dsimp only;have hsz:vs.toArray.size=vs.length:=by simp
 have hk':∀v∈vs,TI (((s.heap.update a (Obj.mapSeq λ_ => #[])).push (seqObj "tuple" vs.toArray 0)).push (seqObj "list" #[] 0)) v (key v)/\key v≠[]:=λv hv=>⟨(hk v hv).1.keep keep,(hk v hv).2⟩
 have snd:∀st':SortSt,(arrOf st').Perm (pairsOf vs)->∃out:List Value,(arrOf st').map (·.2)=out.toArray/\out.Perm vs/\(arrOf st').toList.map (·.1)=out:=λst' hp=>by
  refine⟨(arrOf st').toList.map (·.2),?_,?_,?_⟩
  ·apply Array.toList_inj.mp;rw[Array.toList_map]
  ·have:=(Array.perm_iff_toList_perm.mp hp).map (·.2);rw[pairsOf_toList] at this;refine this.trans ?_;rw[List.map_snd_zip (Nat.le_refl _)]
  ·apply List.map_congr_left;intro p hp';have:=(Array.perm_iff_toList_perm.mp hp).mem_iff.mp hp';rw[pairsOf_toList] at this;exact(mem_zip_self this).1
 have outsz:∀st':SortSt,(arrOf st').Perm (pairsOf vs)->((arrOf st').map (·.2)).size<=sizeLine:=λst' hp=>by
  rw[Array.size_map,hp.size_eq,pairsOf_size]; exact hz
 by_cases h2:vs.toArray.size<2
 ·rw[if_pos h2,if_pos h2];refine wpAny_bind (wpAny_pure ?_);rw[StateT.run_pure];refine wpAny_bind (wpAny_pure ?_);dsimp only;refine wpAny_bind (seqEpoch_at ho6 rfl ?_);have hp0:(arrOf (SortSt.mk' general' (vs.toArray.zip vs.toArray) #[] 7 none)).Perm (pairsOf vs):=Array.Perm.refl _;refine wpAny_bind (listUpdate_at ho6 rfl ?_ (Nat.zero_le _) (Nat.le_succ_of_le (outsz _ hp0)));simp only[bne_self_eq_false,Bool.false_eq_true,if_false];obtain⟨out,o1,o2,o3⟩:=snd _ hp0;have ee:sortedHeap s.heap a vs out.toArray=sortedHeap s.heap a vs ((arrOf (SortSt.mk' general' (vs.toArray.zip vs.toArray) #[] 7 none)).map (·.2)):=by rw[o1]
  have hfin:=h out o2 (by
   have hl:out.length<2:=by rw[o2.length_eq]; omega
   exact zdQ hl)
  rw[ee] at hfin;exact wpAny_pure hfin
 ·rw[if_neg h2,if_neg h2];refine wpAny_bind (zej (s:={ s with heap:=((s.heap.update a (Obj.mapSeq λ_ => #[])).push (seqObj "tuple" vs.toArray 0)).push (seqObj "list" #[] 0) }) hk' (by omega) ?_);refine wpAny_bind (wpAny_mono (z8L (a₀:=pairsOf vs) (κ:=tuples' true) (rk:=λp=>rkL (vs.map key) (key p.1)) (st:=SortSt.mk' (tuples' true) (vs.toArray.zip vs.toArray) #[] 7 none)
   (Q:=λ_ st'=>TB (tuples' true) (pairsOf vs) st'/\Seg (λp=>rkL (vs.map key) (key p.1)) (arrOf st') 0 (pairsOf vs).size)
   (zeE (λv hv=>(hk' v hv).1) true) ⟨rfl,rfl,Array.Perm.refl _⟩ rfl (by rw[pairsOf_size]; omega) λst' b1 b2=>⟨b1,b2⟩) ?_ λ_ _ e=>e)
  rintro⟨⟨⟩,st'⟩ s' ⟨rfl,hB,hs⟩;dsimp only at hB hs ⊢;refine wpAny_bind (seqEpoch_at ho6 rfl ?_);refine wpAny_bind (listUpdate_at ho6 rfl ?_ (Nat.zero_le _) (Nat.le_succ_of_le (outsz st' hB.perm)));rw[hB.failed];simp only[bne_self_eq_false,Bool.false_eq_true,if_false];obtain⟨out,o1,o2,o3⟩:=snd st' hB.perm;have hfin:=h out o2 (by
   have hup:Up (λp=>rkL (vs.map key) (key p.1)) (arrOf st').toList:=by
    have:=zc5 hs (by rw[hB.perm.size_eq]; exact Nat.le_refl _);rw[<- hB.perm.size_eq] at this;simpa using this
   rw[<- o3];refine List.pairwise_map.mpr (List.Pairwise.imp_of_mem (λ{x y} hx hy hxy =>?_) hup);have mx:x.1∈vs:=o2.mem_iff.mp (by rw[<- o3]; exact List.mem_map.mpr ⟨x,hx,rfl⟩);have my:y.1∈vs:=o2.mem_iff.mp (by rw[<- o3]; exact List.mem_map.mpr ⟨y,hy,rfl⟩);rw[zeP (List.mem_map.mpr ⟨_,my,rfl⟩) (List.mem_map.mpr ⟨_,mx,rfl⟩)];exact decide_eq_false (Nat.not_lt.mpr hxy))
  rw[<- o1] at hfin;exact wpAny_pure hfin
end
end Tim
namespace Tim
open PySem PyProof.Rows PySem.W HT
section
variable {prog:Program}{w:World}{A:Around}{E:Value->Shared->Prop}{s:Shared}
noncomputable def zj7 (key:Value->List Int)(Q:Value->Shared->Prop)(vs:List Value)(s1:Shared):Prop:=
 vs.length<=sizeLine/\(∀x∈vs,TI s1.heap x (key x)/\key x≠[])/\∀out:List Value,out.Perm vs->out.Pairwise (λx y=>z0r (key y) (key x)=false)->
  ∀h',(∀b o,s1.heap.get? b=some o->h'.get? b=some o)->(∃e,h'.get? s1.heap.objs.size=some (seqObj "list" out.toArray e))->Q (.ref s1.heap.objs.size) { s1 with heap:=h' }
theorem z6E {v:Value}{key:Value->List Int}{Q:Value->Shared->Prop}(hcol:∀E',wpAny (model prog w) A.in1 (collect v) (zj7 key Q) E' s):wpAny (model prog w) A (call (.builtin "sorted") [v]) Q E s:=by
 refine Calls.call_function_entry kind_sorted plain_sorted entry_sorted (args_sorted1 _) ?_;unfold Builtin.«sorted»;refine wpAny_bind (m:=checkCount "sorted" 1 1 _) (wpAny_pure ?_);refine wpAny_bind (wpAny_mono (hcol _) (λvs s1 q =>?_) λ_ _ e=>e);obtain⟨hz,hk,h⟩:=q;refine wpAny_bind (wpAny_newList ?_ hz);have hoL:(s1.heap.push (seqObj "list" vs.toArray 0)).get? s1.heap.objs.size=some (seqObj "list" vs.toArray 0):=Heap.get?_push_size _ rfl;have keep:∀b o,s1.heap.get? b=some o->(s1.heap.push (seqObj "list" vs.toArray 0)).get? b=some o:=λb o q=>Heap.get?_push_of_some _ q;show wpAny _ _ _ _ _ { s1 with heap:=s1.heap.push (seqObj "list" vs.toArray 0) };refine wpAny_bind (wpAny_holding (wpAny_call_entry slot_list_sort ⟨_,hoL,rfl⟩ entry_list_sort (z7A (key:=key) hoL hz (λx hx=>⟨(hk x hx).1.keep λb o g _=>keep b o g,(hk x hx).2⟩) λout o1 o2=>⟨_,rfl,?_⟩) (args_list_sort _)));refine wpAny_pure ⟨_,rfl,h out o1 o2 _ (λb o g =>?_) ?_⟩
 ·have hlt:b<s1.heap.objs.size:=Heap.lt_size g;rw[sortedHeap_old (Nat.ne_of_lt hlt) (by rw[size_push']; exact Nat.lt_succ_of_lt hlt)];exact keep b o g
 ·exact sortedHeap_at hoL
end
end Tim
namespace Tab
open PySem PySem.SetTable PyProof.Rows
theorem z7G:entryFor table "set.__iter__"=some Builtin.«frozenset.__iter__»:=
 entryFor_alias (id':="frozenset.__iter__") (by kernel_rfl) rfl (by decide +kernel) (by kernel_rfl)
theorem z1C:Slot "set_iterator" "__next__" "set_iterator.__next__":=
 .of (owner:="set_iterator") (n:="__next__") (by rw[typeLookup_type,builtinLookup_eq_fast]; kernel_rfl) (by decide +kernel) (by decide +kernel) (by decide +kernel)
  (by first | exact .inl (by decide +kernel) | exact .inr (by decide +kernel)) (by rw[isSubtype_type]; kernel_rfl)
theorem z62:Slot "set_iterator" "__iter__" "set_iterator.__iter__":=
 .of (owner:="set_iterator") (n:="__iter__") (by rw[typeLookup_type,builtinLookup_eq_fast]; kernel_rfl) (by decide +kernel) (by decide +kernel) (by decide +kernel)
  (by first | exact .inl (by decide +kernel) | exact .inr (by decide +kernel)) (by rw[isSubtype_type]; kernel_rfl)
theorem z5q:entryFor table "set_iterator.__next__"=some Builtin.«set_iterator.__next__»:=entryFor_of_fast (by kernel_rfl)
theorem z6e (a:Value):argsOk "set_iterator.__next__" ⟨[a],[]⟩:=by unfold argsOk; kernel_rfl
section
variable {prog:Program}{w:World}{A:Around}{E:Value->Shared->Prop}{s:Shared}
noncomputable def z2Q (h:Heap)(it S:Addr)(slot i n ep:Nat):Prop:=∃o,h.get? it=some o/\o.cls = .type "set_iterator"/\o.data = .fields #[.int slot 0,.int i 0,.ref S,.int n 0,.int ep 0]
theorem z2Q.typeIs {it S:Addr}{slot i n ep:Nat}(x:z2Q s.heap it S slot i n ep):s.TypeIs (.ref it) "set_iterator":=let ⟨o,ho,hc,_⟩:=x; ⟨o,ho,hc⟩
theorem z6h {S:Addr}{o:Obj}{es:Array (Int × Value)}{ep:Nat}{t:SetTable}{Q:Value->Shared->Prop}(ho:s.heap.get? S=some o)(hc:o.cls = .type "set")(hd:o.data = .set es ep t)(hf:t.fits es.size=true)(hp:t.plain=true)
  (h:Q (.ref s.heap.objs.size) { s with heap:=s.heap.push { cls :=.type "set_iterator",data :=.fields #[.int 0 0,.int 0 0,.ref S,.int es.size 0,.int ep 0] } }):wpAny (model prog w) A (pyIter (.ref S)) Q E s:=by
 have hT:s.TypeIs (.ref S) "set":=⟨o,ho,hc⟩
 refine wpAny_pyIter_slot hT F.slot_set_iter (wpAny_call_entry F.slot_set_iter hT z7G ?_ (F.args_set_iter_1 _));show wpAny _ _ (Builtin.Frozenset.sizeOf S >>= _) _ _ s;unfold Builtin.Frozenset.sizeOf setEntries setDrawn setEpoch;refine wpAny_bind (wpAny_bind (wpAny_bind (wpAny_setState_of ho hd hf (wpAny_pure (wpAny_pure ?_)))));refine wpAny_bind (wpAny_bind (wpAny_setState_of ho hd hf ?_));show wpAny _ _ (setsByText >>= λbyText=>pure (!byText && (!t.plain && decide (es.size > 1)))) _ _ s;unfold setsByText;refine wpAny_bind (wpAny_bind (wpAny_askSetting (wpAny_pure (wpAny_pure ?_))));rw[hp];simp only[Bool.not_true,Bool.false_and,Bool.and_false,Bool.false_eq_true,if_false];refine wpAny_bind (wpAny_pure (wpAny_bind (wpAny_bind (wpAny_setState_of ho hd hf (wpAny_pure ?_)))));exact wpAny_bind (wpAny_newObj_type (wpAny_pure ⟨_,rfl,"set_iterator",_,⟨_,Heap.get?_push_size _ rfl,rfl⟩,z1C.lookup,h⟩))
end
end Tab
namespace Tab
open PySem PySem.SetTable PyProof.Rows
section
variable {prog:Program}{w:World}{A:Around}{E:Value->Shared->Prop}{s:Shared}
noncomputable def nxt (w:World)(S:Addr)(es:Array (Int × Value))(ep:Nat)(t:SetTable)(slot i:Nat):Option (Value × Nat):=
 if w.params.followText "set-order"=true then ((pickOrder (w.params.setOrder S ep) es)[i]?).map λe=>(e.2,slot) else
  match es[below t.place slot]?, t.place[below t.place slot]? with
  | some (_,x),some j=>some (x,j+1)
  | _,_=>none
theorem z4Z {S:Addr}{o:Obj}{es:Array (Int × Value)}{ep:Nat}{t:SetTable}{slot i:Nat}{Q:Option (Value × Nat)->Shared->Prop}(ho:s.heap.get? S=some o)(hd:o.data = .set es ep t)(hf:t.fits es.size=true)(hp:t.plain=true)(hl:t.led = !w.params.followText "set-order")
  (h:Q (nxt w S es ep t slot i) s):wpAny (model prog w) A (setNext S slot i ep) Q E s:=by
 unfold setNext;refine wpAny_bind (wpAny_setState_of ho hd hf ?_);show wpAny _ _ (setsByText >>= _) _ _ s;unfold setsByText;refine wpAny_bind (wpAny_bind (wpAny_askSetting (wpAny_pure ?_)));unfold nxt at h
 by_cases c:w.params.followText "set-order"=true
 ·have c':(model prog w).w.params.followText "set-order"=true:=c;rw[if_pos c] at h;rw[if_pos c'];rw[if_neg (by simp)];unfold setWalk;refine wpAny_bind (wpAny_bind (wpAny_setState_of ho hd hf ?_));show wpAny _ _ (setsByText >>= _) _ _ s;unfold setsByText;refine wpAny_bind (wpAny_bind (wpAny_askSetting (wpAny_pure ?_)));rw[if_pos c'];exact wpAny_bind (wpAny_askSetting (wpAny_pure (wpAny_pure h)))
 ·have c':¬ (model prog w).w.params.followText "set-order"=true:=c;rw[if_neg c] at h;rw[if_neg c'];have hled:t.led=true:=by rw[hl]; simpa using c
  show wpAny _ _ (if (!t.plain && decide (es.size > 1))=true then _ else _) _ _ s;rw[hp,if_neg (by simp)];show wpAny _ _ ((if (!t.led && !es.isEmpty)=true then unsupported "set:maker-not-led" else pure PUnit.unit) >>= _) _ _ s;rw[hled,if_neg (by simp)];exact wpAny_bind (wpAny_pure (wpAny_pure h))
end
end Tab
namespace Tab
open PySem PySem.SetTable PyProof.Rows
section
variable {prog:Program}{w:World}{A:Around}{E:Value->Shared->Prop}{s:Shared}
theorem z3U {it S:Addr}{o:Obj}{es:Array (Int × Value)}{ep:Nat}{t:SetTable}{slot i slot':Nat}{x:Value}{Q:Option Value->Shared->Prop}(hit:z2Q s.heap it S slot i es.size ep)
  (ho:s.heap.get? S=some o) (hd:o.data = .set es ep t) (hf:t.fits es.size=true) (hp:t.plain=true) (hl:t.led = !w.params.followText "set-order") (hx:nxt w S es ep t slot i=some (x,slot'))
  (hQ:∀h',z2Q h' it S slot' (i+1) es.size ep->Heap.SameBut it s.heap h'->Q (some x) { s with heap:=h' }):wpAny (model prog w) A (pyNext (.ref it)) Q E s:=by
 obtain⟨oi,hoi,hci,hdi⟩:=id hit;unfold pyNext;refine wpAny_bind (wpAny_attempt (wpAny_callSpecial?_slot (name:=Str.ofString "__next__") hit.typeIs z1C
  (wpAny_call_entry z1C hit.typeIs z5q ?_ (z6e _))))
 show wpAny _ _ (fieldsOf (.ref it) >>= _) _ _ s;refine wpAny_bind (wpAny_fieldsOf hoi hdi ?_);show wpAny _ _ (setEntries S >>= _) _ _ s;unfold setEntries;refine wpAny_bind (wpAny_bind (wpAny_setState_of ho hd hf (wpAny_pure ?_)));rw[if_neg (by simp)];show wpAny _ _ (setNext S (slot:Int).toNat (i:Int).toNat (ep:Int).toNat >>= _) _ _ s;simp only[Int.toNat_natCast];refine wpAny_bind (z4Z ho hd hf hp hl ?_);rw[hx];dsimp only;refine wpAny_bind (wpAny_setField hoi hdi (by simp) ?_);have g1:=Heap.get?_update_self (Obj.mapFields (·.setIfInBounds 0 (rawInt (slot':Int)))) hoi (Obj.isFreed_of_fields (Obj.data_mapFields hdi _));refine wpAny_bind (wpAny_setField g1 (Obj.data_mapFields hdi _) (by simp) ?_);refine wpAny_pure ⟨x,rfl,wpAny_pure (hQ _ ?_ ((Heap.SameBut.update ..).trans (Heap.SameBut.update ..)))⟩;refine⟨_,Heap.get?_update_self _ g1 (Obj.isFreed_of_fields (Obj.data_mapFields (Obj.data_mapFields hdi _) _)),((Obj.cls_mapFields ..).trans (Obj.cls_mapFields ..)).trans hci,?_⟩;rw[Obj.data_mapFields (Obj.data_mapFields hdi _)];simp[rawInt]
theorem z4u {it S:Addr}{o:Obj}{es:Array (Int × Value)}{ep:Nat}{t:SetTable}{slot i:Nat}{Q:Option Value->Shared->Prop}(hh:A.handled=none)(hit:z2Q s.heap it S slot i es.size ep)
  (ho:s.heap.get? S=some o) (hd:o.data = .set es ep t) (hf:t.fits es.size=true) (hp:t.plain=true) (hl:t.led = !w.params.followText "set-order") (hx:nxt w S es ep t slot i=none)
  (hQ:∀h',Heap.ExtBut it s.heap h'->Q none { s with heap:=h' }):wpAny (model prog w) A (pyNext (.ref it)) Q E s:=by
 obtain⟨oi,hoi,hci,hdi⟩:=id hit;unfold pyNext;refine wpAny_bind (wpAny_attempt (wpAny_callSpecial?_slot (name:=Str.ofString "__next__") hit.typeIs z1C
  (wpAny_call_entry z1C hit.typeIs z5q ?_ (z6e _))))
 show wpAny _ _ (fieldsOf (.ref it) >>= _) _ _ s;refine wpAny_bind (wpAny_fieldsOf hoi hdi ?_);show wpAny _ _ (setEntries S >>= _) _ _ s;unfold setEntries;refine wpAny_bind (wpAny_bind (wpAny_setState_of ho hd hf (wpAny_pure ?_)));rw[if_neg (by simp)];show wpAny _ _ (setNext S (slot:Int).toNat (i:Int).toNat (ep:Int).toNat >>= _) _ _ s;simp only[Int.toNat_natCast];refine wpAny_bind (z4Z ho hd hf hp hl ?_);rw[hx];dsimp only;refine wpAny_bind (wpAny_setField hoi hdi (by simp) ?_);show wpAny _ _ (newExc (.type "StopIteration") [] >>= _) _ _ _;refine wpAny_bind ?_;simp only[newExc,newTuple];refine wpAny_bind (wpAny_newObj_type ?_ (by size_fits));refine wpAny_bind (m:=firstArgMember _ _) (wpAny_of_eq (a:=Value.none) (by first | rfl | (simp only[firstArgMember]; rfl)) ?_);refine wpAny_newObj_type ?_ (by size_fits);simp only[raiseNew];refine wpAny_bind (wpAny_handled ?_)
 first | rw[show A.in1.handled=none from hh] | rw[hh]
 refine wpAny_bind (wpAny_pure (wpAny_throw ?_));refine wpAny_bind (wpAny_isInstance (T:="StopIteration") (b:=true) ⟨_,Heap.get?_push_size _ rfl,rfl⟩ isSubtype_stop ?_);exact wpAny_pure (hQ _ (((Heap.SameBut.update ..).extBut.push _).push _))
end
end Tab
namespace Tab
open PySem PySem.SetTable PyProof.Rows
theorem z95 {α:Type}(next:Nat->Nat):∀(n k:Nat) (left:List α) (out:Array α),left.length=n->(pickOrder.go next n k left out).toList.Perm (out.toList++left)
 | 0,k,left,out,h=>by
  rw[List.eq_nil_of_length_eq_zero h,List.append_nil];exact List.Perm.refl _
 | n+1,k,left,out,h=>by
  have hlt:next k % left.length<left.length:=Nat.mod_lt _ (by omega);rw[pickOrder.go,List.getElem?_eq_getElem hlt];refine(z95 next n (k+1) _ _ (by rw[List.length_eraseIdx_of_lt hlt]; omega)).trans ?_;rw[Array.toList_push,List.append_assoc];refine List.Perm.append_left _ ?_;show (left[next k % left.length]::left.eraseIdx (next k % left.length)).Perm left;rw[List.eraseIdx_eq_take_drop_succ];refine(List.perm_middle.symm).trans ?_;rw[<- List.drop_eq_getElem_cons hlt,List.take_append_drop]
theorem z7t {α:Type}(next:Nat->Nat)(xs:Array α):(pickOrder next xs).toList.Perm xs.toList:=by
 have:=z95 next xs.size 0 xs.toList #[] (by simp);simpa[pickOrder] using this
noncomputable def ordE (w:World)(S:Addr)(es:Array (Int × Value))(ep:Nat):Array (Int × Value):=if w.params.followText "set-order"=true then pickOrder (w.params.setOrder S ep) es else es
theorem z98 (w:World)(S:Addr)(es:Array (Int × Value))(ep:Nat):(ordE w S es ep).toList.Perm es.toList:=by
 unfold ordE
 split
 ·exact z7t _ _
 ·exact List.Perm.refl _
theorem z6R (w:World)(S:Addr)(es:Array (Int × Value))(ep:Nat):(ordE w S es ep).size=es.size:=by
 rw[<- Array.length_toList,(z98 w S es ep).length_eq,Array.length_toList]
noncomputable def z6F (w:World)(t:SetTable)(i:Nat):Nat:=if w.params.followText "set-order"=true then 0 else if i=0 then 0 else t.place.getD (i - 1) 0+1
end Tab
namespace Tab
open PySem PySem.SetTable PyProof.Rows
theorem z81 {t:SetTable}(hr:Rise t.place){i:Nat}(hi:i<=t.place.size):below t.place (if i=0 then 0 else t.place.getD (i - 1) 0+1)=i:=by
 obtain⟨h1,h2,h3⟩:=z61 hr (if i=0 then 0 else t.place.getD (i - 1) 0+1);generalize below t.place (if i=0 then 0 else t.place.getD (i - 1) 0+1)=k at*
 by_cases e:i=0
 ·subst e;rw[if_pos rfl] at h2
  by_cases z:k=0
  ·exact z
  ·have:=h2 0 (by omega); omega
 ·rw[if_neg e] at h2 h3
  by_cases c:k<i
  ·have:=h3 (i - 1) (by omega) (by omega); omega
  ·by_cases c2:i<k
   ·have a1:=h2 i c2;have a2:=hr (i - 1) i (by omega) (by omega);omega
   ·omega
theorem ze9 {w:World}{S:Addr}{es:Array (Int × Value)}{ep:Nat}{t:SetTable}(hr:Rise t.place)(hsz:t.place.size=es.size){i:Nat}(hi:i<es.size):
  ∃e,(ordE w S es ep)[i]? = some e/\nxt w S es ep t (z6F w t i) i=some (e.2,z6F w t (i+1)):=by
 have hlt:i<(ordE w S es ep).size:=by rw[z6R]; exact hi
 refine⟨(ordE w S es ep)[i],getElem?_pos _ i hlt,?_⟩;unfold nxt z6F
 by_cases c:w.params.followText "set-order"=true
 ·simp only[if_pos c];have e1:ordE w S es ep=pickOrder (w.params.setOrder S ep) es:=by unfold ordE; rw[if_pos c]
  rw[<- e1,getElem?_pos _ i hlt]
  rfl
 ·simp only[if_neg c];have e1:ordE w S es ep=es:=by unfold ordE; rw[if_neg c]
  rw[z81 hr (by omega),getElem?_pos es i hi,zke (xs:=t.place) (by omega)];simp only[Nat.add_sub_cancel,if_neg (Nat.succ_ne_zero i)]
  congr 1
  simp only[e1]
theorem zgm {w:World}{S:Addr}{es:Array (Int × Value)}{ep:Nat}{t:SetTable}(hr:Rise t.place)(hsz:t.place.size=es.size):nxt w S es ep t (z6F w t es.size) es.size=none:=by
 unfold nxt z6F
 by_cases c:w.params.followText "set-order"=true
 ·simp only[if_pos c];have e1:ordE w S es ep=pickOrder (w.params.setOrder S ep) es:=by unfold ordE; rw[if_pos c]
  rw[<- e1,getElem?_neg _ _ (by rw[z6R]; omega)]
  rfl
 ·simp only[if_neg c];rw[z81 hr (by omega),getElem?_neg es es.size (by omega)]
end Tab
namespace Tab
open PySem PySem.SetTable PyProof.Rows
theorem z8B:entryFor table "set_iterator.__iter__"=some Builtin.«dict_keyiterator.__iter__»:=
 entryFor_alias (id':="dict_keyiterator.__iter__") (by kernel_rfl) rfl (by decide +kernel) (by kernel_rfl)
theorem z9I (a:Value):argsOk "set_iterator.__iter__" ⟨[a],[]⟩:=by unfold argsOk; kernel_rfl
section
variable {prog:Program}{w:World}{A:Around}{E:Value->Shared->Prop}{s:Shared}
theorem z6x {it S:Addr}{slot i n ep:Nat}{Q:Value->Shared->Prop}(hit:z2Q s.heap it S slot i n ep)(h:Q (.ref it) s):wpAny (model prog w) A (pyIter (.ref it)) Q E s:=by
 refine wpAny_pyIter_slot hit.typeIs z62 (wpAny_call_entry z62 hit.typeIs z8B ?_ (z9I _));show wpAny _ _ (ret (.ref it)) _ _ s;exact wpAny_pure ⟨_,rfl,"set_iterator",_,hit.typeIs,z1C.lookup,h⟩
theorem Walks.set (hh:A.handled=none)(I S:Addr)(hne:S≠I){o:Obj}{es:Array (Int × Value)}{ep:Nat}{t:SetTable}(hd:o.data = .set es ep t)(hf:t.fits es.size=true)(hp:t.plain=true)(hl:t.led = !w.params.followText "set-order")(hr:Rise t.place)(hsz:t.place.size=es.size):
  Walks prog w A I [I,S] [I] es.size (λi v=>∃e,(ordE w S es ep)[i]? = some e/\v=e.2) (λi h=>z2Q h I S (z6F w t i) i es.size ep/\h.get? S=some o) where
 sub:=λb hb=>by simp at hb; simp[hb]
 frame:=λi h h' st hk=>⟨let ⟨o',g1,g2⟩:=st.1; ⟨o',hk I (by simp) _ g1,g2⟩,hk S (by simp) _ st.2⟩
 item:=λi s Q E hi st hQ=>by
  obtain⟨e,e1,e2⟩:=ze9 (w:=w) (S:=S) (ep:=ep) hr hsz hi;refine z3U st.1 st.2 hd hf hp hl e2 λh' hit' hs' =>?_;exact hQ _ h' s.toks ⟨e,e1,rfl⟩ ⟨hit',hs'.extBut S _ hne st.2⟩ λb o hb e=>hs'.extBut b o (λh=>hb (by simp[h])) e
 done:=λs Q E st hQ=>z4u hh st.1 st.2 hd hf hp hl (zgm hr hsz) λh' he'=>hQ h' s.toks λb o hb e=>he' b o (λh=>hb (by simp[h])) e
 self:=λ_ _ _ _ st hQ=>z6x st.1 hQ
end
end Tab
namespace Tab
open PySem PySem.SetTable PyProof.Rows
section
variable {prog:Program}{w:World}{A:Around}{E:Value->Shared->Prop}{s:Shared}
theorem zag {S:Addr}{o:Obj}{es:Array (Int × Value)}{ep:Nat}{t:SetTable}{Q:List Value->Shared->Prop}(hh:A.handled=none)(ho:s.heap.get? S=some o)(hc:o.cls = .type "set")(hd:o.data = .set es ep t)(hf:t.fits es.size=true)(hp:t.plain=true)(hl:t.led = !w.params.followText "set-order")(hr:Rise t.place)(hsz:t.place.size=es.size)(hz:es.size<=sizeLine)
  (h:∀s',(∀b o,s.heap.get? b=some o->s'.heap.get? b=some o)->s'.gens=s.gens->s'.drawn=s.drawn->s'.os=s.os->s.toks<=s'.toks->Q ((ordE w S es ep).toList.map (·.2)) s'):wpAny (model prog w) A (collect (.ref S)) Q E s:=by
 have hlt:S<s.heap.objs.size:=Heap.lt_size ho;unfold collect;refine wpAny_bind (wpAny_runValue (codeAny_builtin F.entry_proto_collect ?_));rw[Around.under_plainId F.plain_proto_collect _];show wpAny _ A.in1 (newList [] >>= λl=>again (.builtin "list.__iadd__" ⟨[l,.ref S],[]⟩)) _ _ s;refine wpAny_bind (wpAny_newObj_type ?_);refine wpAny_pure ⟨plainId_quiet F.plain_list_iadd _,codeAny_builtin F.entry_list_iadd ?_⟩;rw[Around.under_plainId F.plain_list_iadd _];show wpAny _ A.in1 (Builtin.List.listExtendWith (.ref s.heap.objs.size) (.ref S) (.ref s.heap.objs.size)) _ _ _;unfold Builtin.List.listExtendWith;have ho1:(s.heap.push { cls :=.type "list",data :=.seq ([]:List Value).toArray }).get? S=some o:=Heap.get?_push_of_some _ ho;have hT1:Shared.TypeIs { s with heap:=s.heap.push { cls :=.type "list",data :=.seq ([]:List Value).toArray } } (.ref S) "set":=⟨o,ho1,hc⟩
 refine wpAny_bind (wpAny_typeOf hT1 ?_);have h1:Builtin.List.listSameRef (.ref s.heap.objs.size) (.ref S)=false:=by simp[Builtin.List.listSameRef]; exact Nat.ne_of_gt hlt
 have h2:(Value.type "set" == Value.type "list")=false:=by decide
 have h3:(Value.type "set" == Value.type "tuple")=false:=by decide
 simp only[h1,h2,h3,Bool.or_false,Bool.false_eq_true,if_false];refine wpAny_bind (z6h ho1 hc hd hf hp ?_);refine wpAny_bind (wpAny_holding ?_);generalize hH:s.heap.push { cls :=.type "list",data :=.seq ([]:List Value).toArray }=H at*;have hHs:H.objs.size=s.heap.objs.size+1:=by rw[<- hH,Heap.size_push]
 dsimp only;have hT2:Shared.TypeIs { s with heap:=H.push { cls :=.type "set_iterator",data :=.fields #[.int 0 0,.int 0 0,.ref S,.int es.size 0,.int ep 0] } } (.ref S) "set":=⟨o,Heap.get?_push_of_some _ ho1,hc⟩
 unfold Builtin.List.listLengthHint;refine wpAny_bind (wpAny_specialOf hT2 F.slot_set_len.lookup ?_)
 wp_delta
 refine wpAny_bind (wpAny_isInstance (b:=true) hT2 (by rw[isSubtype_type]; kernel_rfl) ?_);show wpAny _ A.in1 (typeOf (Value.ref S) >>= _) _ _ _;refine wpAny_bind (wpAny_typeOf hT2 ?_);refine wpAny_pure ?_;rw[if_pos (by decide)];refine wpAny_bind (wpAny_rule ?_);refine wpAny_bind ?_;show wpAny _ A.in1 (updateSeq s.heap.objs.size (·.push .none) >>= λ_=>updateSeq s.heap.objs.size (·.pop)) _ _ _;generalize hO:({ cls :=.type "set_iterator",data :=.fields #[.int 0 0,.int 0 0,.ref S,.int es.size 0,.int ep 0] }:Obj)=io at*;have hS₁:(H.push io).get? s.heap.objs.size=some { cls :=.type "list",data :=.seq ([]:List Value).toArray }:=Heap.get?_push_of_some _ (hH ▸ Heap.get?_push_size _ rfl);refine wpAny_bind (wpAny_updateSeq hS₁ rfl ?_);have hS₂:=Heap.get?_update_self (Obj.mapSeq (·.push Value.none)) hS₁ rfl;refine wpAny_updateSeq hS₂ rfl ?_;have hS₃:=Heap.get?_update_self (Obj.mapSeq (·.pop)) hS₂ rfl;have oth:∀b o,b≠s.heap.objs.size->(H.push io).get? b=some o->(((H.push io).update s.heap.objs.size (Obj.mapSeq (·.push Value.none))).update s.heap.objs.size (Obj.mapSeq (·.pop))).get? b=some o:=
  λb o hb e=>(Heap.get?_update_other _ _ (Ne.symm hb)).trans ((Heap.get?_update_other _ _ (Ne.symm hb)).trans e)
 have hneS:S≠s.heap.objs.size:=Nat.ne_of_lt hlt;have hneI:H.objs.size≠s.heap.objs.size:=by rw[hHs]; exact Nat.ne_of_gt (Nat.lt_succ_self _)
 have hSI:S≠H.objs.size:=by rw[hHs]; exact Nat.ne_of_lt (Nat.lt_succ_of_lt hlt)
 have hSf:s.heap.objs.size ∉ [H.objs.size,S]:=by
  simp only[List.mem_cons,List.not_mem_nil,or_false,not_or];exact⟨Ne.symm hneI,Ne.symm hneS⟩
 have hio:(H.push io).get? H.objs.size=some io:=Heap.get?_push_size _ (by rw[<- hO]; rfl);refine wpAny_pure ⟨plainId_quiet F.plain_extend_loop _,codeAny_extend_loopS (Walks.set (A:=A.in1) (w:=w) (prog:=prog) hh H.objs.size S hSI hd hf hp hl hr hsz).toS hz _ hSf _ es.size 0 _ _ _ rfl (Nat.zero_le _)
  ⟨⟨io,oth _ _ hneI hio,by rw[<- hO],by rw[<- hO]; simp[z6F]⟩,oth _ _ hneS (Heap.get?_push_of_some _ ho1)⟩ hS₃ (ItemsOf.nil _) λs' acc' c' hm hS' hacc =>?_⟩
 show wpAny _ A (load s.heap.objs.size >>= _) _ _ s';refine wpAny_bind (wpAny_load hS' ?_);have hq:acc'.toList=(ordE w S es ep).toList.map (·.2):=by
  apply List.ext_getElem?;intro k;rw[Array.getElem?_toList,List.getElem?_map,Array.getElem?_toList]
  by_cases hk:k<es.size
  ·have hk':k<acc'.size:=by rw[hacc.1]; exact hk
   obtain⟨e,e1,e2⟩:=hacc.2 k acc'[k] (getElem?_pos acc' k hk');rw[getElem?_pos acc' k hk',e1,e2]; rfl
  ·rw[getElem?_neg acc' k (by rw[hacc.1]; exact hk),getElem?_neg (ordE w S es ep) k (by rw[z6R]; exact hk)]; rfl
 have hfin:=h s' (λb ob e=>hm.heap b ob (λhb =>?_) (oth b ob (Nat.ne_of_lt (Heap.lt_size e)) (Heap.get?_push_of_some _ (hH ▸ Heap.get?_push_of_some _ e)))) hm.gens hm.drawn hm.os hm.toks
 ·rw[<- hq] at hfin;exact wpAny_pure hfin
 ·have hlt:=Heap.lt_size e
  rcases List.mem_cons.mp hb with h | h
  ·exact absurd hlt (h ▸ Nat.lt_irrefl _)
  ·rw[List.mem_singleton.mp h,hHs] at hlt; exact absurd hlt (Nat.not_lt.mpr (Nat.le_succ _))
end
end Tab
namespace Tab
open PySem PySem.SetTable PyProof.Rows
section
variable {prog:Program}{w:World}{A:Around}{E:Value->Shared->Prop}{s:Shared}
theorem items_ints {k:List Int}{vs:List Value}(h:ItemsAre (intKind prog w) k vs):IntsAre vs k:=by
 induction h with
 | nil=>exact .nil
 | cons h1 _ ih=>
  obtain⟨t,rfl⟩:=Value.isInt_shape h1;exact .cons _ _ ih
theorem TK.ti {h:Heap}{k:List Int}{b:Addr}(x:TK prog w h k b):Tim.TI h (.ref b) k:=by
 obtain⟨o,z06,n,h1,h2,h3,h4⟩:=x;exact⟨b,o,z06,n,rfl,h1,h2,h3,items_ints h4⟩
theorem zgW {h:Heap}{v:Value}{k k':List Int}(x:Tim.TI h v k)(y:Tim.TI h v k'):k=k':=by
 obtain⟨a,o,z06,n,e,h1,h2,h3,h4⟩:=x;obtain⟨a',o',items',n',e',g1,g2,g3,g4⟩:=y;rw[e] at e'; cases e';rw[h1] at g1; cases g1;rw[h3] at g3; cases g3;exact(IntsAre.nums h4).symm.trans (IntsAre.nums g4)
noncomputable def z5M (h:Heap)(v:Value):List Int:=by
 classical exact if c:∃k,Tim.TI h v k then c.choose else []
theorem z5h {h:Heap}{v:Value}{k:List Int}(x:Tim.TI h v k):z5M h v=k:=by
 unfold z5M;have c:∃k,Tim.TI h v k:=⟨k,x⟩
 rw[dif_pos c];exact zgW c.choose_spec x
theorem zan {M:Value->Prop}{h:Heap}{l:List Value}{m:List (List Int)}(t:Two (IsK prog w M h) l m):l.map (z5M h)=m:=by
 induction t with
 | nil=>rfl
 | cons h1 _ ih=>
  obtain⟨_,b,rfl,z⟩:=h1;rw[List.map_cons,ih,z5h (TK.ti z)]
theorem zb6 {M:Value->Prop}{S:Addr}{kl:List (List Int)}{Q:Value->Shared->Prop}(hh:A.handled=none)(x:SetK prog w M s.heap S kl)(hne:∀k∈kl,k≠[])(hz:kl.length<=sizeLine)
  (h:∀s' (out:List Value),(∀b o,s.heap.get? b=some o->s'.heap.get? b=some o)->s'.gens=s.gens->s'.drawn=s.drawn->s'.os=s.os->s.toks<=s'.toks->
   (out.map (z5M s.heap)).Perm kl->(∀v∈out,M v/\Tim.TI s.heap v (z5M s.heap v))->(out.map (z5M s.heap)).Pairwise (λa b=>HT.z0r b a=false)->
   ∀D,s.heap.get? D=none->(∃e,s'.heap.get? D=some (seqObj "list" out.toArray e))->Q (.ref D) s'):wpAny (model prog w) A (call (.builtin "sorted") [.ref S]) Q E s:=by
 obtain⟨L,hL,h2,hlen⟩:=x.len;obtain⟨o,es,ep,t,y,_⟩:=hL.ex;have esz:es.size=L.length:=by rw[y.tab.es]; simp
 have hkeys:=zan h2;have hti:∀v∈L.map (·.2.2),Tim.TI s.heap v (z5M s.heap v):=λv hv=>by
  obtain⟨k,_,_,b,rfl,z⟩:=h2.mem_left hv;rw[z5h (TK.ti z)]; exact TK.ti z
 have hvs:((ordE w S es ep).toList.map (·.2)).Perm (L.map (·.2.2)):=by
  refine((z98 w S es ep).map (·.2)).trans ?_;rw[y.tab.es];simp only[List.map_map];exact List.Perm.refl _
 refine Tim.z6E (key:=z5M s.heap) λE' =>?_;refine zag (A:=A.in1) hh y.get y.ex.1 y.data y.fits y.plain y.led y.tab.riseP (by rw[y.tab.place,esz]; simp) (by lia) λs1 k1 g1 g2 g3 g4 =>?_;refine⟨by rw[hvs.length_eq,List.length_map]; lia,λv hv =>?_,λout p1 p2 h' keep hD =>?_⟩
 ·have hv':=hvs.mem_iff.mp hv;refine⟨(hti v hv').keep λb o g _=>k1 b o g,hne _ ?_⟩;rw[<- hkeys];exact List.mem_map.mpr ⟨v,hv',rfl⟩
 ·refine h { s1 with heap:=h' } out (λb o g=>keep b o (k1 b o g)) g1 g2 g3 g4 ?_ (λv hv=>⟨(h2.mem_left (hvs.mem_iff.mp (p1.mem_iff.mp hv))).choose_spec.2.1,hti v (hvs.mem_iff.mp (p1.mem_iff.mp hv))⟩) (List.pairwise_map.mpr p2) s1.heap.objs.size ?_ hD
  ·rw[<- hkeys];exact(p1.trans hvs).map _
  ·cases hq:s.heap.get? s1.heap.objs.size with
   | none=>rfl
   | some o=>exact absurd (Heap.lt_size (k1 _ _ hq)) (Nat.lt_irrefl _)
end
end Tab
namespace Pu
open PySem PySem.Spec PyProof.Rows L2 Tab
noncomputable def SetO (P:Program)(w:World)(a:Addr)(L:List (Rw Value))(h:Heap):Prop:=∃o es ep t,h.get? a=some o/\o.ExactSet/\o.data = .set es ep t/\TabW t es L/\L.length<=t.mask/\t.mask<=8191/\t.plain=true/\t.led=(!w.params.followText "set-order")/\L.length*5<t.mask*3
noncomputable def Mem (K:W.Frag)(P:Program)(w:World)(G:Hp)(L:List (Rw Value))(kl:List (List Int)):Prop:=Two (λ(r:Rw Value) (k:List Int)=>∃b,r.2.2 = .ref b/\SqT K G b (k.map V.int)/\r.2.1=tupleKeyHash (intKind P w) k) L kl
noncomputable def Tis (K:W.Frag)(G:Hp)(xs:List V)(ks:List (List Int)):Prop:=Two (λ(x:V) (k:List Int)=>∃b,x = .ref b/\SqT K G b (k.map V.int)) xs ks
noncomputable def MemV (K:W.Frag)(G:Hp)(v:Value):Prop:=∃b k,v = .ref b/\SqT K G b ((k:List Int).map V.int)
theorem zfn {α β:Type}{R:α->β->Prop}{l:List α}{m:List β}(h:Two R l m):l.length=m.length:=by
 induction h with
 | nil=>rfl
 | cons _ _ ih=>simp[ih]
theorem zbS {α β γ:Type}{R:α->β->Prop}{f:γ->α}:∀{l:List γ}{m:List β},Two R (l.map f) m->Two (λc b=>R (f c) b) l m
 | [],_,h=>by cases h; exact .nil
 | c::l,_,h=>by
  cases h with
  | cons h1 h2=>exact .cons h1 (zbS h2)
theorem zcI {α β γ:Type}{R:α->β->Prop}{f:γ->α}:∀{l:List γ}{m:List β},Two (λc b=>R (f c) b) l m->Two R (l.map f) m
 | [],_,h=>by cases h; exact .nil
 | c::l,_,h=>by
  cases h with
  | cons h1 h2=>exact .cons h1 (zcI h2)
theorem zfo {α β:Type}{R:α->β->Prop}{S:α->Prop}{l:List α}{m:List β}(h:Two R l m)(a:∀x∈l,S x):Two (λx y=>R x y/\S x) l m:=by
 induction h with
 | nil=>exact .nil
 | cons h1 _ ih=>exact .cons ⟨h1,a _ List.mem_cons_self⟩ (ih λx hx=>a x (List.mem_cons_of_mem _ hx))
theorem zar {K:W.Frag}{G:Hp}{R:Value->List Int->Prop}(hR:∀b k,SqT K G b (k.map V.int)->R (.ref b) k){xs:List V}{ks:List (List Int)}(t:Tis K G xs ks):∀{its:List Value},Vals xs its->Two R its ks:=by
 unfold Tis at t
 induction t with
 | nil=>intro its r; cases r; exact .nil
 | cons h1 _ ih=>
  intro its r;obtain⟨b,rfl,hb⟩:=h1
  cases r with
  | cons r1 r2=>
   cases r1
   exact .cons (hR b _ hb) (ih r2)
theorem z1W.there {P:Program}{w:World}{H:Hp}{h:Heap}{a:Addr}{o:HO}(x:z1W P w H h a o):∃u,h.get? a=some u:=by
 cases o with
 | lst xs=>obtain⟨_,_,_,_,e⟩:=x; exact⟨_,e⟩
 | tup xs=>obtain⟨_,_,_,o,e,_⟩:=x; exact⟨_,e⟩
 | dK kvs=>obtain⟨_,_,_,_,o,_,_,e,_⟩:=x; exact⟨_,e⟩
 | dT kvs=>obtain⟨_,_,_,_,o,_,_,e,_⟩:=x; exact⟨_,e⟩
 | set S n=>obtain⟨o,_,_,_,e,_⟩:=x; exact⟨_,e⟩
 | ins C dx fs=>obtain⟨_,_,_,e,_⟩:=x; exact⟨_,e⟩
 | own y=>exact x
 | xd fs=>obtain⟨_,⟨_,_,_,e,_⟩,_⟩:=x; exact⟨_,e⟩
 | rng lo hi=>obtain⟨_,_,_,e⟩:=x; exact⟨_,e⟩
 | frz ob u=>obtain⟨e,_⟩:=x; exact⟨_,e⟩
 | tbl ps=>exact⟨_,(show h.get? a=some _ from x)⟩
 | met f y=>exact⟨_,(show h.get? a=some _ from x)⟩
 | ext φ=>obtain⟨_,z,_⟩:=x; exact z
theorem _root_.L2.HOk.none_of {P:Program}{w:World}{H:Hp}{h:Heap}{a:Addr}(x:HOk P w H h)(e:h.get? a=none):H a=none:=by
 cases q:H a with
 | none=>rfl
 | some u=>
  obtain⟨v,z⟩:=z1W.there (x a u q);rw[e] at z; cases z
theorem _root_.L2.Inv.laid' {X:Cx}{H:Hp}{pins:List (Addr × Obj)}{σ:L2.St}{s:Shared}{h':Heap}{a:Addr}{o:HO}{t':Nat}(I:Inv X pins σ H s)(k:∀b u,s.heap.get? b=some u->h'.get? b=some u)(hp:s.heap.get? a=none)(new:z1W X.prog X.w (upd H a o) h' a o):
  Inv X pins σ (upd H a o) { s with heap:=h',toks:=t' }:=by
 have hn:=I.hok.none_of hp;have ne:∀b u,s.heap.get? b=some u->b≠a:=λb u e z=>by rw[z,hp] at e; cases e
 have neH:∀b u,H b=some u->b≠a:=λb u e z=>by rw[z,hn] at e; cases e
 refine I.un ⟨λb o e q _ _=>k b o e,λb o e q _ _=>⟨o.slots,k b o e⟩,λb o e q _=>by rw[z0f (ne b o e)]; exact q,λb o e _=>⟨o,k b o e⟩,λb xs e=>by rw[z0f (neH b _ e)]; exact e,λb o u e=>by rw[z0f (neH b _ e)]; exact e,λb ps e=>⟨#[],by rw[z0f (neH b _ e),Array.append_empty]; exact e⟩⟩ λb u e =>?_
 by_cases hb:b=a
 ·subst hb; rw[z0t] at e; cases e; exact new
 ·rw[z0f hb] at e;exact(I.hok b u e).stay (λc v _ q=>k c v q) (λc q=>by rw[z0f (neH c _ q)]; exact q) λc xs q=>by rw[z0f (neH c _ q)]; exact q
section
variable {X:Cx}{G H:Hp}{pins:List (Addr × Obj)}{σ:L2.St}{s:Shared}
theorem z7U {P:Program}{w:World}:∀{ns:List Int}{us:List Value},Vals (ns.map V.int) us->ItemsAre (intKind P w) ns us
 | [],_,r=>by cases r; exact .nil
 | n::ns,_,r=>by
  cases r with
  | cons r1 r2=>
   obtain⟨t,rfl⟩:=r1;exact .cons (by simp[intKind,Value.isInt]) (z7U r2)
theorem z9O {b:Addr}{k:List Int}(I:Inv X pins σ H s)(g:Same G H)(h:SqT X.K G b (k.map V.int)):TK X.prog X.w s.heap k b:=by
 obtain⟨its,r,⟨o,ho,hc,n,hd⟩,_⟩:=I.tuple (z1c g h);exact⟨o,its.toArray,n,ho,hc,hd,by simpa using z7U r⟩
theorem zfz {p:Addr}{L:List (Rw Value)}{kl:List (List Int)}(I:Inv X pins σ H s)(g:Same G H)(hp:H p=some (.ext (SetO X.prog X.w p L)))(hm:Mem X.K X.prog X.w G L kl)(nd:kl.Nodup):SetK X.prog X.w (MemV X.K G) s.heap p kl:=by
 obtain⟨o,es,ep,t,h1,h2,h3,h4,h5,h6,h7,h8,h9⟩:SetO X.prog X.w p L s.heap:=(show z1W X.prog X.w H s.heap p (.ext (SetO X.prog X.w p L)) from I.hok p _ hp).1;refine⟨⟨L,⟨o,es,ep,t,⟨h1,h2,h3,h4,h5,h6,h7,h8,λr hr =>?_⟩,h9⟩,zcI (hm.imp λr k ⟨b,e,hb,_⟩=>⟨⟨b,k,e,hb⟩,b,e,z9O I g hb⟩)⟩,nd⟩;obtain⟨k,_,b,e,hb,hh⟩:=Two.mem_left hm hr;exact⟨b,k,e,z9O I g hb,hh⟩
noncomputable def rSet (K:W.Frag)(P:Program)(w:World):List V->Hp->VK->Prop:=λvs H Q=>∃G a xs ks,vs=[.ref a]/\Same G H/\(SqL K G a xs\/SqT K G a xs)/\Tis K G xs ks/\xs.length<=2040/\
 ∀p L kl,H p=none->Mem K P w G L kl->kl.Nodup->(∀x,x∈kl↔x∈ks)->Q (.ref p) (upd H p (.ext (SetO P w p L)))
theorem zeA (hc:X.calm=true)(hu:X.A.units+64<cLine):z1l X (.type "set") (rSet X.K X.prog X.w):=by
 intro pins s σ H xs us Q I rv ⟨G,a,ys,ks,e,g,hS,ht,hl,q⟩;subst e;obtain⟨u,rfl,rx⟩:=z6y rv
 cases rx
 have hh:X.A.handled=none:=I.ok.hd hc;have isk:∀{its:List Value},Vals ys its->Two (IsK X.prog X.w (MemV X.K G) s.heap) its ks:=λr=>zar (λb k hb=>⟨⟨b,k,rfl,hb⟩,b,rfl,z9O I g hb⟩) ht r;have fin:∀(h':Heap) (tk:Nat) (kl:List (List Int)),SetK X.prog X.w (MemV X.K G) h' s.heap.objs.size kl->(∀x,x∈kl↔x∈ks)->(∀b o,b<s.heap.objs.size->s.heap.get? b=some o->h'.get? b=some o)->EP X pins σ Q (.ref s.heap.objs.size) { s with heap:=h',toks:=tk }:=by
  intro h' tk kl hK hm keep;have keep':∀b o,s.heap.get? b=some o->h'.get? b=some o:=λb o e=>keep b o (Heap.lt_size e) e;obtain⟨L,⟨o,es,ep,t,y,hf⟩,h2⟩:=hK.ex;have so:SetO X.prog X.w s.heap.objs.size L h':=⟨o,es,ep,t,y.get,y.ex,y.data,y.tab,y.room,y.small,y.plain,y.led,hf⟩
  refine⟨.ref s.heap.objs.size,_,I.laid (o :=.ext (SetO X.prog X.w s.heap.objs.size L)) (t':=tk) keep' (Nat.le_refl _) ⟨so,⟨o,y.get⟩,λh1 h2 ⟨o,es,ep,t,z,r⟩ st=>⟨o,es,ep,t,st _ z,r⟩⟩,rfl,q _ L kl (I.hok.fresh (Nat.le_refl _)) ?_ hK.nd hm⟩;refine(zfo (zbS h2) (S:=λr=>∃b k,r.2.2 = .ref b/\TK X.prog X.w h' k b/\r.2.1=tupleKeyHash (intKind X.prog X.w) k) y.key).imp λr k ⟨⟨⟨b,k1,e1,hb⟩,b2,e2,z2⟩,b3,k3,e3,z3,hk⟩ =>?_;rw[e1] at e2 e3
  cases e2; cases e3
  have z1:TK X.prog X.w h' k1 b:=by
   obtain⟨o,it,n,w1,w2⟩:=z9O I g hb;exact⟨o,it,n,keep' _ _ w1,w2⟩
  have:=z1.inj z2;subst this;have:=z1.inj z3;subst this;exact⟨b,e1,hb,hk⟩
 rcases hS with hS | hS
 ·obtain⟨its,r,pl,hz⟩:=I.list (z1K g hS);have hlen:=r.length;exact z8I (M:=MemV X.K G) (ks:=ks) hh (by lia) pl.isList (by simpa using isk r) (by simp only[List.size_toArray] <;> lia) λh' tk kl hK _ hm keep=>fin h' tk kl hK hm keep
 ·obtain⟨its,r,pl,hz⟩:=I.tuple (z1c g hS);have hlen:=r.length;exact z7J (M:=MemV X.K G) (ks:=ks) hh (by lia) pl (by simpa using isk r) (by simp only[List.size_toArray] <;> lia) λh' tk kl hK _ hm keep=>fin h' tk kl hK hm keep
noncomputable def zhm (K:W.Frag)(P:Program)(w:World):List V->Hp->VK->Prop:=λvs H Q=>∃G p L kl,vs=[.ref p]/\Same G H/\H p=some (.ext (SetO P w p L))/\Mem K P w G L kl/\kl.Nodup/\(∀k∈kl,k≠[])/\kl.length<=2040/\
 ∀D out kl',H D=none->Tis K G out kl'->kl'.Perm kl->kl'.Pairwise (λa b=>HT.z0r b a=false)->Q (.ref D) (upd H D (.lst out))
theorem zbH (hc:X.calm=true):z1l X (.builtin "sorted") (zhm X.K X.prog X.w):=by
 intro pins s σ H xs us Q I rv ⟨G,p,L,kl,e,g,hp,hm,nd,hne,hz,q⟩;subst e;obtain⟨u,rfl,rx⟩:=z6y rv
 cases rx
 have hn:=z7T;have hle:(2040:Nat)<=sizeLine:=by decide
 refine zb6 (M:=MemV X.K G) (I.ok.hd hc) (zfz I g hp hm nd) hne (by lia) λs' out keep g1 g2 g3 g4 perm hti pw D hD he =>?_;obtain⟨e,he⟩:=he;obtain⟨h',g',d',tk',os'⟩:=s';dsimp only at g1 g2 g3 keep he;subst g1; subst g2; subst g3;have hti':∀v∈out,MemV X.K G v:=λv hv=>(hti v hv).1;have hx:∃ys:List V,Vals ys out/\Tis X.K G ys (out.map (z5M s.heap)):=by
  clear perm pw he hti
  induction out with
  | nil=>exact⟨[],.nil,.nil⟩
  | cons v out ih=>
   obtain⟨ys,y1,y2⟩:=ih λv hv=>hti' v (List.mem_cons_of_mem _ hv);obtain⟨b,k,rfl,hb⟩:=hti' v List.mem_cons_self;refine⟨.ref b::ys,.cons rfl y1,.cons ⟨b,rfl,?_⟩ y2⟩;rw[z5h (TK.ti (z9O I g hb))];exact hb
 obtain⟨ys,y1,y2⟩:=hx;have hl:ys.length=kl.length:=by rw[<- perm.length_eq,List.length_map,y1.length]
 exact⟨.ref D,upd H D (.lst ys),I.laid' (o :=.lst ys) (t':=tk') keep hD ⟨by lia,out,e,y1,he⟩,rfl,q D ys _ (I.hok.none_of hD) y2 perm pw⟩
end
end Pu
namespace Pu
open PySem PySem.Spec PyProof.Rows L2 Tab
noncomputable abbrev tupD (k:List Int):D :=.tup (k.map .int)
structure Rows (ks kl:List (List Int)):Prop where
 up:kl.Pairwise (λa b=>HT.z0r a b=true)
 mem:∀x,x∈kl↔x∈ks
noncomputable def zc4 (d:D)(P:List (List Int)->Prop):Prop:=match d with
 | .lst l=>∃ks,l=ks.map tupD/\l.length<=2040/\P ks
 | .tup l=>∃ks,l=ks.map tupD/\l.length<=2040/\P ks
 | _=>False
theorem zb8 {d:D}{P P':List (List Int)->Prop}(m:∀k,P k->P' k)(h:zc4 d P):zc4 d P':=by
 cases d with
 | lst l=>obtain⟨ks,a,b,c⟩:=h; exact⟨ks,a,b,m _ c⟩
 | tup l=>obtain⟨ks,a,b,c⟩:=h; exact⟨ks,a,b,m _ c⟩
 | _=>exact h.elim
noncomputable def zer (d:D)(Q:DK):Prop:=zc4 d λks=>(∀k∈ks,k≠[])/\∀kl,Rows ks kl->Q (.lst (kl.map tupD))
noncomputable def z6t:Fn:=fn1 zer λd Q Q' m h=>zb8 (λks q=>⟨q.1,λkl z=>m _ (q.2 kl z)⟩) h
section
variable {X:Cx}{K:W.Frag}{mg:Str->Option Value}{E:XK}{G H:Hp}
theorem z8f:∀{ks:List (List Int)}{xs:List V},RDs K mg G (ks.map tupD) xs->Tis K G xs ks
 | [],_,h=>by rw[List.map_nil,RDs] at h; subst h; exact .nil
 | k::ks,_,h=>by
  rw[List.map_cons,RDs] at h;obtain⟨x,r,rfl,h1,h2⟩:=h;obtain⟨a,ys,rfl,h3,h4⟩:=z2n h1;rw[z6r k h4] at h3;exact .cons ⟨a,rfl,h3⟩ (z8f h2)
theorem zbU:∀{ks:List (List Int)}{xs:List V},Tis K G xs ks->RDs K mg G (ks.map tupD) xs:=by
 intro ks xs h;unfold Tis at h
 induction h with
 | nil=>exact RDs.nil
 | cons h1 _ ih=>
  obtain⟨b,rfl,hb⟩:=h1;exact RDs.cons (RD.ofT hb (z8w _)) ih
theorem zdA {d:D}{v:V}{P:List (List Int)->Prop}(r:RD K mg G d v)(h:zc4 d P):∃a xs ks,v = .ref a/\(SqL K G a xs\/SqT K G a xs)/\Tis K G xs ks/\xs.length<=2040/\P ks:=by
 cases d with
 | lst l=>
  obtain⟨ks,rfl,hl,q⟩:=h;obtain⟨a,xs,rfl,h1,h2⟩:=z2o r;exact⟨a,xs,ks,rfl,.inl h1,z8f h2,by rw[h2.len]; exact hl,q⟩
 | tup l=>
  obtain⟨ks,rfl,hl,q⟩:=h;obtain⟨a,xs,rfl,h1,h2⟩:=z2n r;exact⟨a,xs,ks,rfl,.inr h1,z8f h2,by rw[h2.len]; exact hl,q⟩
 | _=>exact h.elim
theorem z6M {kl:List (List Int)}(nd:kl.Nodup)(h:kl.Pairwise (λa b=>HT.z0r b a=false)):kl.Pairwise (λa b=>HT.z0r a b=true):=by
 induction kl with
 | nil=>exact .nil
 | cons a l ih=>
  rw[List.pairwise_cons] at h ⊢;rw[List.nodup_cons] at nd;refine⟨λb hb =>?_,ih nd.2 h.2⟩
  cases z:HT.z0r a b with
  | true=>rfl
  | false=>
   have e:a=b:=Tim.za1 a b z (h.1 b hb);exact absurd (e ▸ hb) nd.1
theorem z1v {α:Type}[DecidableEq α]:∀{l m:List α},l.Nodup->(∀x∈l,x∈m)->l.length<=m.length
 | [],_,_,_=>Nat.zero_le _
 | a::l,m,nd,h=>by
  rw[List.nodup_cons] at nd;have ha:=h a List.mem_cons_self;have:=z1v (m:=m.erase a) nd.2 λx hx=>(List.mem_erase_of_ne (λ(e:x=a)=>nd.1 (by rw[<- e]; exact hx))).mpr (h x (List.mem_cons_of_mem _ hx));rw[List.length_erase_of_mem ha] at this;have:=List.length_pos_of_mem ha;simp only[List.length_cons];lia
theorem zek {ks kl:List (List Int)}(nd:kl.Nodup)(h:∀x,x∈kl↔x∈ks):kl.length<=ks.length:=z1v nd λx hx=>(h x).mp hx
theorem z7R {e:Expr}{x:Ex}{p1 p2 p3 p4:Pos}(hu:X.A.units+64<cLine)(hc:X.calm=true)(hg:Gl X "sorted")(hm:X.mg "sorted"=none)(hg2:Gl X "set")(hm2:X.mg "set"=none)(ha:QXA X E [e] [x])
  (hs1:starEach [e] X.env=(false,eval e X.env)::starEach [] X.env:=by rfl) (hs2:starEach [.Call (.Name "set" p2) [e] [] p3] X.env=(false,eval (.Call (.Name "set" p2) [e] [] p3) X.env)::starEach [] X.env:=by rfl):QF X E (.Call (.Name "sorted" p1) [.Call (.Name "set" p2) [e] [] p3] [] p4) (.op z6t [x]):=
 QE.imp (z6s (zbH hc) hg hm (by rfl) (z5G (z58 (zeA hc hu) hg2 hm2 (by rfl) ha (by decide) (by decide) hs1 (by rfl)) z94 hs2) (by decide) (by decide) hs2 (by rfl)) λσ H Q ⟨G,ρ,Q0,X0,hs,ab,hr,hk,hx⟩=>by
  refine⟨G,ρ,λds=>z6t.run ds Q0 X0,X0,hs,ab,hr,λds vs G1 H1 q g1 g2 g3 rds =>?_,hx⟩;obtain⟨d,rfl,q'⟩:=z4q q;obtain⟨v,rfl,rd⟩:=rds1 rds;obtain⟨a,xs,ks,rfl,h1,h2,h3,hne,h4⟩:=zdA rd q';refine⟨G1,a,xs,ks,rfl,g2,h1,h2,h3,λp L kl hp hM nd hmem =>?_⟩;have s1:Same H1 (upd H1 p (.ext (SetO X.prog X.w p L))):=z0B hp _;have hlen:ks.length=xs.length:=(zfn h2).symm;refine⟨G1,p,L,kl,rfl,z07 g2 s1,z0t,hM,nd,λk hk=>hne k ((hmem k).mp hk),by have:=zek nd hmem; lia,λD out kl' hD ht pm pw =>?_⟩;have hD1:H1 D=none:=by
   cases z:H1 D with
   | none=>rfl
   | some o=>rw[s1 D o z] at hD; cases hD
  have hD0:H D=none:=by
   cases z:H D with
   | none=>rfl
   | some o=>rw[g3 D o z] at hD1; cases hD1
  have s2:=z0B (H:=upd H1 p (.ext (SetO X.prog X.w p L))) hD (.lst out);refine hk (.lst (kl'.map tupD)) D G1 _ (h4 kl' ⟨z6M (pm.nodup_iff.mpr nd) pw,λz=>by rw[pm.mem_iff]; exact hmem z⟩) g1 (z07 g2 (z07 s1 s2)) (z07 g3 (z07 s1 s2)) hD0 (z1d g2 hD1) ⟨out,z0t,zbU ht⟩
end
end Pu
namespace Rev
open PySem PyProof.Rows
theorem ziH:typeLookup (.type "list_reverseiterator") "__len__"=pure none:=by
 rw[typeLookup_type,builtinLookup_eq_fast]
 kernel_rfl
theorem zem:typeLookup (.type "list_reverseiterator") "__length_hint__"=pure (some (.builtin "list_reverseiterator.__length_hint__")):=by
 rw[typeLookup_type,builtinLookup_eq_fast]
 kernel_rfl
section
variable {prog:Program}{w:World}{A:Around}{E:Value->Shared->Prop}{s:Shared}{R:Result->Shared->Prop}{r:Addr}
theorem zgA {Q:Bool->Shared->Prop}(ty:s.TypeIs (.ref r) "list_reverseiterator")(q:Q false s):wpAny (model prog w) A (Builtin.List.listLengthHint (.ref r)) Q E s:=by
 unfold Builtin.List.listLengthHint;refine wpAny_bind (wpAny_specialOf ty ziH ?_);show wpAny _ A (specialOf (.ref r) (Str.ofString "__length_hint__") >>= _) Q E s;refine wpAny_bind (wpAny_specialOf ty zem ?_);generalize hn:("list_reverseiterator.__length_hint__":String)=n0
 wp_delta
 rw[show splitId n0=some ("list_reverseiterator","__length_hint__") from by rw[<- hn]; decide +kernel];refine wpAny_bind (wpAny_isInstance (b:=true) ty (by rw[isSubtype_type]; kernel_rfl) ?_);subst hn;exact wpAny_pure q
theorem zbB {fp wr:List Addr}{G:Array GenState->Array GenState->Prop}{n:Nat}{P:Nat->Value->Prop}{St:Nat->Shared->Prop}(W:WalksS prog w A.in1 r fp wr G n P St)(ty:∀i s,St i s->s.TypeIs (.ref r) "list_reverseiterator")(S:Addr)(res:Value)(c0:Nat)(st:St 0 s)(out:S ∉ fp)(mine:r∈fp)(hz:n<=sizeLine)
  (at_:s.heap.get? S=some { cls :=.type "list",data :=.seq #[] c0 }) (q:∀s' acc c,Moved (S::wr) G s s'->s'.heap.get? S=some { cls :=.type "list",dict:=none,data :=.seq acc c,slots := #[] }->ItemsOf P acc n->R (.ok (.ret res)) s'):
  wpAny (model prog w) A.in1 (Builtin.List.listExtendWith (.ref S) (.ref r) res) (λfin s'=>match fin with | .done f=>R (.ok f) s' | .again c'=>c'.quiet=true/\codeAny (model prog w) A c' R s') (λe s'=>R (.error e) s') s:=by
 have ne:S≠r:=λe=>out (by rw[e]; exact mine);unfold Builtin.List.listExtendWith;refine wpAny_bind (wpAny_typeOf (ty 0 s st) ?_);have k1:Builtin.List.listSameRef (.ref S) (.ref r)=false:=by simp[Builtin.List.listSameRef,ne]
 have k2:(Value.type "list_reverseiterator" == .type "list")=false:=by decide
 have k3:(Value.type "list_reverseiterator" == .type "tuple")=false:=by decide
 rw[k1,k2,k3];refine wpAny_bind (W.self 0 s _ _ st (wpAny_bind (wpAny_holding (zgA (ty 0 s st) ?_))));exact wpAny_pure ⟨plainId_quiet F.plain_extend_loop _,codeAny_extend_loopS W hz S out res n 0 s #[] c0 rfl (Nat.zero_le _) st at_ (ItemsOf.nil P) q⟩
theorem zeo {fp wr:List Addr}{G:Array GenState->Array GenState->Prop}{n:Nat}{P:Nat->Value->Prop}{St:Nat->Shared->Prop}(W:WalksS prog w A.in1 r fp wr G n P St)(ty:∀i s,St i s->s.TypeIs (.ref r) "list_reverseiterator")(S:Addr)(st:St 0 s)(out:S ∉ fp)(mine:r∈fp)(hz:n<=sizeLine)
  (at_:s.heap.get? S=some { cls :=.type "list",data :=.seq #[] }) (q:∀s' acc c,Moved (S::wr) G s s'->s'.heap.get? S=some { cls :=.type "list",dict:=none,data :=.seq acc c,slots := #[] }->ItemsOf P acc n->R (.ok (.ret .none)) s'):
  wpAny (model prog w) A.in1 (Builtin.«list.__init__» ⟨[.ref S,.ref r],[]⟩) (λfin s'=>match fin with | .done f=>R (.ok f) s' | .again c'=>c'.quiet=true/\codeAny (model prog w) A c' R s') (λe s'=>R (.error e) s') s:=by
 show wpAny _ A.in1 (Builtin.List.listItems (.ref S) >>= λold=>Builtin.List.listUpdate (.ref S) (λ_ => #[]) >>= λ_=>letGo old.toList.reverse >>= λ_=>Builtin.List.listExtendWith (.ref S) (.ref r) .none) _ _ s;unfold Builtin.List.listItems;refine wpAny_bind (wpAny_bind (wpAny_seqItems at_ rfl (wpAny_pure ?_)));refine wpAny_bind (m:=updateSeq S λ_ => #[]) (wpAny_updateSeq at_ rfl (wpAny_bind (wpAny_letGo ?_)));have keep:∀b o,b≠S->s.heap.get? b=some o->(s.heap.update S (Obj.mapSeq λ_=>(#[]:Array Value))).get? b=some o:=λb o z e=>by rw[Heap.get?_update_other _ _ (Ne.symm z)]; exact e
 refine zbB W ty S .none _ (W.frame 0 s _ s.toks st (Nat.le_refl _) λb hb o e=>keep b o (λz=>out (z ▸ hb)) e) out mine hz (Heap.get?_update_self _ at_ rfl) λs' acc c mv e it=>q s' acc c ?_ e it;exact Moved.trans W.gtrans ((Moved.refl W.grefl).then_heap (Nat.le_refl _) λb o hb e=>keep b o (λz=>hb (by rw[z]; exact List.mem_cons_self)) e) mv
end
end Rev
namespace Rev
open PySem PyProof.Rows
end Rev
namespace Pu
open PySem PySem.Spec PyProof.Rows L2 Tab
noncomputable def Ex.callv (T:Nat->Fn)(i:Nat)(es:List Ex):Ex:=⟨λρ Q Xp=>∃n,ρ.get i=some (.fn n)/\runs es ρ (λds=>(T n).run ds Q Xp) Xp,λρ Q Q' Xp X' m mx ⟨n,e,q⟩=>⟨n,e,z3V es ρ _ _ Xp X' (λds q1=>(T n).mono ds Q Q' Xp X' m mx q1) mx q⟩⟩
noncomputable def FTab (P:Program)(w:World)(K:W.Frag)(mg:Str->Option Value)(base:Heap)(CX:CXT)(k:Nat)(T:Nat->Fn):Prop:=∀n f,mg (z7g n)=some (.ref f)->∃j fd ps,j<=k/\FnOk P w K mg base CX j f fd ps (spP K mg (T n))/\PySem.W.keepIn K (.ref f)=true/\z7L K fd ps []
theorem FTab.mk {P:Program}{w:World}{K:W.Frag}{mg:Str->Option Value}{base:Heap}{CX:CXT}{k:Nat}{T:Nat->Fn}(hz:mg ""=none)
  (h:∀n<4,∀f,mg (z7g n)=some (.ref f)->∃j fd ps,j<=k/\FnOk P w K mg base CX j f fd ps (spP K mg (T n))/\PySem.W.keepIn K (.ref f)=true/\z7L K fd ps []):FTab P w K mg base CX k T:=λn f e=>by
 by_cases hn:n<4
 ·exact h n hn f e
 ·rw[show z7g n="" from by
   match n,hn with
   | 0,h=>exact absurd (by decide) h
   | 1,h=>exact absurd (by decide) h
   | 2,h=>exact absurd (by decide) h
   | 3,h=>exact absurd (by decide) h
   | n+4,_=>rfl,hz] at e
  cases e
theorem _root_.L2.Cal.tab {P:Program}{w:World}{K:W.Frag}{mg:Str->Option Value}{base:Heap}{CX:CXT}{j k:Nat}{x:Str}{ps:List Str}{F:Fn}(C:Cal P w K mg base CX j x ps (spP K mg F))(h:j<=k)(f:Addr)(e:mg x=some (.ref f)):∃j fd ps,j<=k/\FnOk P w K mg base CX j f fd ps (spP K mg F)/\PySem.W.keepIn K (.ref f)=true/\z7L K fd ps []:=by
 obtain⟨f',fd,F',hm,hk,hb⟩:=C.ex;rw[hm] at e; cases e;exact⟨j,fd,ps,h,F',hk,hb⟩
section
variable {X:Cx}{E:XK}{CX:CXT}{e:Expr}{es:List Expr}{xs:List Ex}{pos:Pos}
noncomputable def zh1 (X:Cx)(CX:CXT)(E:XK)(i:Nat)(t:TA):TE:=λσ H Q=>∃f fd ps sp k,σ[i]? = some (some (.ref f))/\FnOk X.prog X.w X.K X.mg X.base CX k f fd ps sp/\Room k X.A/\PySem.W.keepIn X.K (.ref f)=true/\z7L X.K fd ps []/\t σ H λvs H1=>sp (vs++[]) H1 Q E
theorem zdX {x:Str}{i:Nat}{p:Pos}{t:TA}(hx:z6f CX X E)(hv:PE X (.Name x p) (tVar i))(ha:PA X (e::es) t)(he:starEach (e::es) X.env=(false,eval e X.env)::starEach es X.env:=by rfl)(hpl:(backTo pos (starEach es X.env)).any (·.1)=false:=by rfl):
  PE X (.Call (.Name x p) (e::es) [] pos) (zh1 X CX E i t):=by
 intro pins s σ H Q I ⟨f,fd,ps,sp,k,hσ,F,hr,hk,hb,h⟩;refine wpAny_Call_Name_kw (thn (hv pins s σ H (λv H1=>v = .ref f/\t σ H1 λvs H1=>sp (vs++[]) H1 Q E) I ⟨_,hσ,rfl,h⟩) λu s1 ⟨v,H1,I1,rv,ev,q⟩ =>?_);subst ev
 cases rv
 exact PySem.W.callWith_K (h₀:=X.base) I1.ok.mod.kin hk (thn (ha pos pins s1 σ H1 _ I1 q) λus s2 ⟨vs,H2,I2,r,q2⟩=>⟨I2.kIn,zeM F hr hb .nil hx I2 r q2⟩) he hpl
theorem zay {T:Nat->Fn}{k:Nat}{x:Str}{i:Nat}{p:Pos}(tb:FTab X.prog X.w X.K X.mg X.base CX k T)(hr:Room k X.A)(hx:z6f CX X E)(hv:QE X (.Name x p) (tVar i))(ha:QXA X E (e::es) xs)
  (he:starEach (e::es) X.env=(false,eval e X.env)::starEach es X.env:=by rfl) (hpl:(backTo pos (starEach es X.env)).any (·.1)=false:=by rfl):QX X E (.Call (.Name x p) (e::es) [] pos) (.callv T i xs):=
 ⟨PE.imp (zdX hx hv.p ha.p he hpl) λσ H Q ⟨G,ρ,Q0,X0,hs,ab,⟨n,hn,hr'⟩,hk,hx'⟩=>by
  obtain⟨v,h1,h2⟩:=ab i _ hn;rw[RD] at h2;obtain⟨f,rfl,hm⟩:=h2;obtain⟨j,fd,ps,hj,F,hkp,hb⟩:=tb n f hm;refine⟨f,fd,ps,_,j,h1,F,hr.mono hj,hkp,hb,G,ρ,_,X0,hs,ab,hr',λds vs G' H' q g1 g2 g3 rds =>?_,hx'⟩;show spP X.K X.mg (T n) (vs++[]) H' Q E;rw[List.append_nil];exact⟨G',ds,Q0,X0,g2,rds,q,hk.same g1 g3,hx'.same g3⟩⟩
theorem zcc {x:Str}{n k:Nat}{ps:List Str}{sp:Sp}{p:Pos}(hn:z7g n=x)(hg:Gl X x)(C:Cal X.prog X.w X.K X.mg X.base CX k x ps sp)(hd:(x == ("__debug__":Str))=false):QX X E (.Name x p) (.c (.fn n)):=by
 obtain⟨f,fd,F',hm,hk,hb⟩:=C.ex;exact qx_c (v :=.ref f) ⟨zg5 hg hm rfl hd⟩ λ_=>by rw[RD]; exact⟨f,rfl,by rw[hn]; exact hm⟩
end
theorem _root_.L2.Inv.spent {X:Cx}{H:Hp}{pins:List (Addr × Obj)}{σ:L2.St}{s:Shared}{h':Heap}{r a:Addr}{φ:Heap->Prop}{o:HO}{t':Nat}(I:Inv X pins σ (upd H r (.ext φ)) s)(hr:H r=none)(h0:X.s₀.heap.objs.size<=r)(k:∀b u,b≠r->s.heap.get? b=some u->h'.get? b=some u)(hp:s.heap.get? a=none)
  (new:z1W X.prog X.w (upd H a o) h' a o):Inv X pins σ (upd H a o) { s with heap:=h',toks:=t' }:=by
 have Hr:upd H r (.ext φ) r=some (.ext φ):=z0t;have back:∀b (u:HO),upd H r (.ext φ) b=some u->(∀ψ,u ≠ .ext ψ)->H b=some u/\b≠r:=λb u e z=>by
  have hb:b≠r:=λy=>by rw[y,Hr] at e; cases e; exact z φ rfl
  rw[z0f hb] at e; exact⟨e,hb⟩
 have hn0:=I.hok.none_of hp;have har:a≠r:=λy=>by rw[y,Hr] at hn0; cases hn0
 have hn:H a=none:=by rw[z0f har] at hn0; exact hn0
 have ne:∀b u,s.heap.get? b=some u->b≠a:=λb u e z=>by rw[z,hp] at e; cases e
 have neH:∀b u,H b=some u->b≠a:=λb u e z=>by rw[z,hn] at e; cases e
 have out:∀b,upd H r (.ext φ) b=none->b≠r/\H b=none:=λb e=>by
  have hb:b≠r:=λy=>by rw[y,Hr] at e; cases e
  rw[z0f hb] at e; exact⟨hb,e⟩
 have same:∀b (u:HO),upd H r (.ext φ) b=some u->(∀ψ,u ≠ .ext ψ)->upd H a o b=some u:=λb u e z=>by
  obtain⟨e',_⟩:=back b u e z;rw[z0f (neH b u e')]; exact e'
 refine I.step (g':=s.gens) (d':=s.drawn) (ch:=[r]) (λb hb =>?_) (λb u _ _ hc e _=>k b u (λz=>hc (by simp[z])) e) (λb u _ _ hc e _=>⟨u.slots,k b u (λz=>hc (by simp[z])) e⟩) (λb u _ e q=>by rw[z0f (ne b u e)]; exact(out b q).2)
  (λb u hc e=>⟨u,k b u (λz=>hc (by simp[z])) e⟩) (λb xs e=>same b _ e λ_=>nofun) (λb u v e=>same b _ e λ_=>nofun) (λb ps e=>⟨#[],by rw[same b _ e λ_=>nofun,Array.append_empty]⟩) (λm hm =>?_) (λb u e =>?_) I.bare
 ·have e:b=r:=by simpa using hb
  subst e;exact⟨.inr h0,(λz=>(out _ I.free).1 z.symm),λx c e=>(out c (I.freeC x c e)).1,λp hp=>(out _ (I.pin p hp).2.1).1⟩
 ·obtain⟨u,es,ep,ho,q⟩:=hm;exact⟨u,es,ep,k _ u (out _ I.free).1 ho,q⟩
 by_cases hb:b=a
 ·subst hb; rw[z0t] at e; cases e; exact new
 rw[z0f hb] at e;have hbr:b≠r:=λz=>by rw[z,hr] at e; cases e
 have e':upd H r (.ext φ) b=some u:=by rw[z0f hbr]; exact e
 refine(I.hok b u e').stay (λc v hc q=>k c v ?_ q) (λc q=>same c _ q λ_=>nofun) λc xs q=>same c _ q λ_=>nofun
 rcases hc with rfl | hc
 ·exact hbr
 ·exact(back c _ hc λ_=>nofun).2
noncomputable def RevO (r a:Addr)(n:Nat)(h:Heap):Prop:=h.IsRevIter r a ((n:Int) - 1)
section
variable {X:Cx}{E:XK}
noncomputable def rRev (X:Cx):List V->Hp->VK->Prop:=λvs H Q=>∃a ys,vs=[.ref a]/\SqL X.K H a ys/\∀r,H r=none->X.s₀.heap.objs.size<=r->Q (.ref r) (upd H r (.ext (RevO r a ys.length)))
theorem zeB:z1l X (.type "reversed") (rRev X):=by
 intro pins s σ H xs us Q I rv ⟨a,ys,e,hS,q⟩;subst e;obtain⟨u,rfl,rx⟩:=z6y rv
 cases rx
 obtain⟨its,r,pl,hz⟩:=I.list hS;have hlen:=r.length;refine call_reversed_list pl.isList ⟨.ref s.heap.objs.size,_,I.laid (o :=.ext (RevO s.heap.objs.size a ys.length)) (t':=s.toks) (λb o e=>Heap.get?_push_of_some _ e) (Nat.le_refl _) ⟨⟨_,Heap.get?_push_size _ rfl,rfl,by simp[revObj,hlen]⟩,⟨_,Heap.get?_push_size _ rfl⟩,λh1 h2 x st=>x.at st⟩,rfl,q _ (I.hok.fresh (Nat.le_refl _)) I.sz⟩
noncomputable def zdK (X:Cx):List V->Hp->VK->Prop:=λvs H Q=>∃r a ys H1,vs=[.ref r]/\H=upd H1 r (.ext (RevO r a ys.length))/\H1 r=none/\X.s₀.heap.objs.size<=r/\SqL X.K H1 a ys/\∀d,H1 d=none->Q (.ref d) (upd H1 d (.lst ys.reverse))
theorem z9B (hc:X.calm=true):z1l X (.type "list") (zdK X):=by
 intro pins s σ H xs us Q I rv ⟨r,a,ys,H1,e,eH,hr,h0,hS1,q⟩;subst e;subst eH;have hS:=z1K (z0B hr (.ext (RevO r a ys.length))) hS1;obtain⟨u,rfl,rx⟩:=z6y rv
 cases rx
 have hh:X.A.handled=none:=I.ok.hd hc;obtain⟨its,rv',pl,hz⟩:=I.list hS;have hlen:=rv'.length;have hR:s.heap.IsRevIter r a ((ys.length:Int) - 1):=(show z1W X.prog X.w _ s.heap r (.ext (RevO r a ys.length)) from I.hok r _ z0t).1;have hra:a≠r:=by
  obtain⟨o,ho,hc',_⟩:=hR;obtain⟨o',ho',hc'',_⟩:=pl.isList;intro z;rw[z,ho] at ho'; cases ho';rw[hc'] at hc''
  injection hc'' with h
  exact absurd h (by decide)
 have W:=(Walks.listRev (prog:=X.prog) (w:=X.w) (A:=X.A.in1.in1) (by simp[hh]) r a hra its.toArray).toS;have sz:its.toArray.size=ys.length:=by simp[hlen]
 refine callType_codes (Q₁:=λv s1=>v = .ref s.heap.objs.size/\s1={ s with heap:=s.heap.push { cls :=.type "list",data :=.seq #[] } }) F.called_list (F.typeCall_list_1 _) F.entry_list_init (code_list_new _ ⟨rfl,rfl⟩) λv s1 hv =>?_;obtain⟨rfl,rfl⟩:=hv;have hD:(s.heap.push { cls :=.type "list",data :=.seq #[] }).get? s.heap.objs.size=some { cls :=.type "list",data :=.seq #[] }:=Heap.get?_push_size _ rfl;have hlt:∀{b:Addr}{o:Obj},s.heap.get? b=some o->b≠s.heap.objs.size:=λe=>Nat.ne_of_lt (Heap.lt_size e);obtain⟨o1,ho1,hc1,hd1⟩:=hR;obtain⟨o2,ho2,n2⟩:=pl.isList;refine⟨⟨_,hD,rfl⟩,F.args_list_init_2 _ _,Rev.zeo (A:=X.A.in1) W (λi s st=>st.2.1.typeIs) s.heap.objs.size ⟨Nat.zero_le _,⟨o1,Heap.get?_push_of_some _ ho1,hc1,by rw[hd1,sz]; simp⟩,⟨o2,Heap.get?_push_of_some _ ho2,n2⟩⟩ (by
  simp only[List.mem_cons,List.not_mem_nil,or_false,not_or];exact⟨Ne.symm (hlt ho1),Ne.symm (hlt ho2)⟩) (by simp) (by rw[sz]; exact hz) hD λs' acc c mv hS' it=>⟨rfl,?_⟩⟩
 have keep:∀b o,b≠r->s.heap.get? b=some o->s'.heap.get? b=some o:=λb o hb e=>mv.heap b o (by
  simp only[List.mem_cons,List.not_mem_nil,or_false,not_or];exact⟨hlt e,hb⟩) (Heap.get?_push_of_some _ e)
 obtain⟨h',g',d',tk',os'⟩:=s';have eg:g'=s.gens:=mv.gens;have ed:d'=s.drawn:=mv.drawn;have eo:os'=s.os:=mv.os;subst eg; subst ed; subst eo;have acc':acc.toList=its.reverse:=by
  apply List.ext_getElem?;intro k
  by_cases hk:k<its.length
  ·have hk':k<acc.size:=by rw[it.1,sz,hlen]; exact hk
   have:=it.2 k acc[k] (getElem?_pos acc k hk');rw[Array.getElem?_toList,getElem?_pos acc k hk',List.getElem?_reverse hk, <- this];simp
  ·have hk':¬ k<acc.size:=by rw[it.1,sz,hlen]; exact hk
   rw[Array.getElem?_toList,getElem?_neg acc k hk',List.getElem?_eq_none (by simp; lia)]
 have hsz:s.heap.get? s.heap.objs.size=none:=by
  cases z:s.heap.get? s.heap.objs.size with
  | none=>rfl
  | some o=>exact absurd (Heap.lt_size z) (Nat.lt_irrefl _)
 have hn1:H1 s.heap.objs.size=none:=by
  have:=I.hok.none_of hsz
  cases z:H1 s.heap.objs.size with
  | none=>rfl
  | some o=>rw[z0B hr _ _ _ z] at this; cases this
 refine⟨.ref s.heap.objs.size,_,I.spent (o :=.lst ys.reverse) (t':=tk') hr h0 keep hsz ⟨by simpa using hz,its.reverse,c,rv'.reverse,?_⟩,rfl,q _ hn1⟩;rw[<- acc'];exact hS'
end
end Pu
namespace Pu
open PySem PySem.Spec PyProof.Rows L2 Tab
section
variable {X:Cx}{K:W.Frag}{mg:Str->Option Value}{E:XK}{G H:Hp}
noncomputable def zes (d:D)(Q:DK):Prop:=isLs d λl=>Q (.lst l.reverse)
noncomputable def z24:Fn:=fn1 zes λd Q Q' m h=>z9h (λl q=>m _ q) h
theorem zcQ {d:D}{P:List D->Prop}(h:isLs d P):∃l,d = .lst l/\P l:=by
 cases d with
 | lst l=>exact⟨l,rfl,h⟩
 | _=>exact h.elim
theorem z5F {e:Expr}{x:Ex}{p1 p2 p3 p4:Pos}(hc:X.calm=true)(hg:Gl X "list")(hm:X.mg "list"=none)(hg2:Gl X "reversed")(hm2:X.mg "reversed"=none)(ha:QXA X E [e] [x])
  (hs1:starEach [e] X.env=(false,eval e X.env)::starEach [] X.env:=by rfl) (hs2:starEach [.Call (.Name "reversed" p2) [e] [] p3] X.env=(false,eval (.Call (.Name "reversed" p2) [e] [] p3) X.env)::starEach [] X.env:=by rfl):QF X E (.Call (.Name "list" p1) [.Call (.Name "reversed" p2) [e] [] p3] [] p4) (.op z24 [x]):=
 QE.imp (z58 (z9B hc) hg hm (by rfl) (z5G (z58 zeB hg2 hm2 (by rfl) ha (by decide) (by decide) hs1 (by rfl)) z94 hs2) (by decide) (by decide) hs2 (by rfl)) λσ H Q ⟨G,ρ,Q0,X0,hs,ab,hr,hk,hx⟩=>by
  refine⟨G,ρ,λds=>z24.run ds Q0 X0,X0,hs,ab,hr,λds vs G1 H1 q g1 g2 g3 rds =>?_,hx⟩;obtain⟨d,rfl,q'⟩:=z4q q;obtain⟨v,rfl,rd⟩:=rds1 rds;obtain⟨l,rfl,q2⟩:=zcQ q';obtain⟨a,xs,rfl,h1,h2⟩:=z2o rd;refine⟨a,xs,rfl,z1K g2 h1,λr hr0 hr1=>⟨r,a,xs,H1,rfl,rfl,hr0,hr1,z1K g2 h1,λd hd =>?_⟩⟩;have hd0:H d=none:=by
   cases z:H d with
   | none=>rfl
   | some o=>rw[g3 d o z] at hd; cases hd
  exact hk (.lst l.reverse) d G1 _ q2 g1 (z07 g2 (z0B hd _)) (z07 g3 (z0B hd _)) hd0 (z1d g2 hd) ⟨xs.reverse,z0t,h2.rev⟩
end
end Pu
namespace Rev
open PySem PyProof.Rows
end Rev
namespace Pu
open PySem PySem.Spec PyProof.Rows L2 Tab
end Pu
namespace Pu
open PySem L2
noncomputable def z6q:Fn:=Fn.mkN 2 5 (.seq (.set 2 (.op pAbs [(.v 0)]))
 (.seq (.set 3 (.op pAbs [(.v 1)]))
 (.seq (.wh (.op pNe [(.v 3),(.c (.int 0))]) (.seq (.set 4 (.op pMod [(.v 2),(.v 3)]))
 (.seq (.set 2 (.v 3))
 (.set 3 (.v 4)))))
 (.ret (.v 2)))))
noncomputable def z2M:Fn:=Fn.mkN 2 2 (.ret (.op pSub [(.op z1u [(.op pIx [(.v 0),(.c (.int 0))]),(.op pIx [(.v 1),(.c (.int 1))])]),(.op z1u [(.op pIx [(.v 0),(.c (.int 1))]),(.op pIx [(.v 1),(.c (.int 0))])])]))
noncomputable def z2d:Fn:=Fn.mkN 2 2 (.ret (.op pTup [(.op pSub [(.op pIx [(.v 1),(.c (.int 0))]),(.op pIx [(.v 0),(.c (.int 0))])]),(.op pSub [(.op pIx [(.v 1),(.c (.int 1))]),(.op pIx [(.v 0),(.c (.int 1))])])]))
noncomputable def z4j:Fn:=Fn.mkN 3 3 (.ret (.op z2M [(.op z2d [(.v 0),(.v 1)]),(.op z2d [(.v 1),(.v 2)])]))
noncomputable def z9q:Fn:=Fn.mkN 3 5 (.seq (.set 3 (.op pSub [(.op z1u [(.op pIx [(.v 1),(.c (.int 0))]),(.op pIx [(.v 2),(.c (.int 2))])]),(.op z1u [(.op pIx [(.v 2),(.c (.int 0))]),(.op pIx [(.v 1),(.c (.int 2))])])]))
 (.seq (.set 4 (.op pSub [(.op z1u [(.op pIx [(.v 1),(.c (.int 1))]),(.op pIx [(.v 2),(.c (.int 2))])]),(.op z1u [(.op pIx [(.v 2),(.c (.int 1))]),(.op pIx [(.v 1),(.c (.int 2))])])]))
 (.ret (.op pAdd [(.op pSub [(.op z1u [(.op pIx [(.v 0),(.c (.int 0))]),(.v 4)]),(.op z1u [(.op pIx [(.v 0),(.c (.int 1))]),(.v 3)])]),(.op z1u [(.op pIx [(.v 0),(.c (.int 2))]),(.op pSub [(.op z1u [(.op pIx [(.v 1),(.c (.int 0))]),(.op pIx [(.v 2),(.c (.int 1))])]),(.op z1u [(.op pIx [(.v 1),(.c (.int 1))]),(.op pIx [(.v 2),(.c (.int 0))])])])])]))))
noncomputable def z9r:Fn:=Fn.mkN 2 5 (.seq (.set 2 (.op pSub [(.op z1u [(.op pIx [(.v 1),(.c (.int 0))]),(.op pIx [(.v 0),(.c (.int 2))])]),(.op z1u [(.op pIx [(.v 0),(.c (.int 0))]),(.op pIx [(.v 1),(.c (.int 2))])])]))
 (.seq (.set 3 (.op pSub [(.op z1u [(.op pIx [(.v 1),(.c (.int 1))]),(.op pIx [(.v 0),(.c (.int 2))])]),(.op z1u [(.op pIx [(.v 0),(.c (.int 1))]),(.op pIx [(.v 1),(.c (.int 2))])])]))
 (.seq (.set 4 (.op z6q [(.v 2),(.v 3)]))
 (.ret (.op pTup [(.op z97 [(.v 2),(.v 4)]),(.op z97 [(.v 3),(.v 4)])])))))
noncomputable def zd3:Nat->Fn
 | 0=>z4j
 | 1=>z9q
 | 2=>z2d
 | 3=>z9r
 | _=>⟨λ_ _ _=>False,λ_ _ _ _ _ _ _ z=>z⟩
noncomputable def z2A:Fn:=Fn.mkN 2 4 (.seq (.own 2 (.op pLst []))
 (.seq (.for_ [] (.nm 3) (.v 0) (.seq (.wh (.and (.op pGt [(.op pLen [(.v 2)]),(.c (.int 1))]) (.op pLe [(.callv zd3 1 [(.op pIx [(.v 2),(.op pNeg [(.c (.int 2))])]),(.op pIx [(.v 2),(.op pNeg [(.c (.int 1))])]),(.v 3)]),(.c (.int 0))])) (.pop 2))
 (.app 2 (.v 3))))
 (.ret (.v 2))))
noncomputable def z1V:Fn:=Fn.mkN 2 4 (.seq (.ifs (.op pLt [(.op pLen [(.v 0)]),(.c (.int 2))]) (.ret (.op z3L [(.v 0)])) .skip)
 (.seq (.set 2 (.op z2A [(.v 0),(.v 1)]))
 (.seq (.set 3 (.op z2A [(.op z24 [(.v 0)]),(.v 1)]))
 (.ret (.op z3L [(.op pAdd [(.sl (.v 2) none (some (.op pNeg [(.c (.int 1))]))),(.sl (.v 3) none (some (.op pNeg [(.c (.int 1))])))])])))))
noncomputable def z0G:Fn:=Fn.mkN 1 1 (.ret (.op z1V [(.op z6t [(.v 0)]),(.c (.fn 0))]))
end Pu
namespace Pu
open PySem L2
noncomputable def Fn.bot:Fn:=⟨λ_ _ _=>False,λ_ _ _ _ _ _ _ h=>h⟩
theorem ziX {P:Program}{w:World}{K:W.Frag}{mg:Str->Option Value}{base:Heap}{CX:CXT}{k:Nat}{f:Addr}{fd:FuncData}{ps:List Str}:FnOk P w K mg base CX k f fd ps (spP K mg Fn.bot):=
 ⟨λ_ _ _ _ ⟨_,_,_,_,_,_,h,_⟩=>h.elim,λ_ _ _ _ _ _ _ _ _ _ _ _ _ ⟨_,_,_,_,_,_,h,_⟩=>h.elim⟩
end Pu
namespace Pu
open PySem PySem.Spec PyProof.Rows L2
section
variable {X:Cx}{K:W.Frag}{mg:Str->Option Value}{E:XK}{G H:Hp}
noncomputable def zji (K:W.Frag):R2:=λx y H Q=>∃l xs n,x = .ref l/\y = .int n/\SqL K H l xs/\n<=100/\0<=n/\xs.length<=1000/\∀p,H p=none->Q (.ref p) (upd H p (.lst (List.replicate n.toNat xs).flatten))
theorem zam {xs:List V}{its:List Value}(r:Vals xs its):∀k:Nat,Vals (List.replicate k xs).flatten (List.replicate k its).flatten
 | 0 =>.nil
 | k+1=>by
  rw[List.replicate_succ,List.replicate_succ,List.flatten_cons,List.flatten_cons];exact r.append (zam r k)
theorem zge:OpR X (binaryOp .Mult) (zji X.K):=by
 intro pins s σ H x y v u Q I rx ry h;obtain⟨l,xs,n,rfl,rfl,hH,hn,hn0,hz,q⟩:=h
 cases rx
 obtain⟨tk,rfl⟩:=ry;obtain⟨its,r,⟨⟨cls,dd,data,sl⟩,ep,e,hc,_,hd⟩,z1⟩:=I.list hH;dsimp only at hc hd;subst hc hd;have l1:=r.length;have hm:its.length*n.toNat<=100000:=Nat.le_trans (Nat.mul_le_mul (show its.length<=1000 by omega) (show n.toNat<=100 by omega)) (by decide);have ea:List.foldl (λx1 x2=>x1++x2) #[] (List.replicate (if its.toArray.isEmpty=true then 0 else n.toNat) its.toArray)=((List.replicate n.toNat its).flatten).toArray:=by
  have:=listMul_foldl_if its.toArray n.toNat
  simpa using this
 have szs:(List.replicate n.toNat xs).flatten.length<=sizeLine:=Nat.le_trans (show _<=100000 by rw[<- l1] at hm; simpa[Nat.mul_comm] using hm) (by decide);refine wpAny_binaryOp_repeat_ref (T:="list") (U:="int") (by decide) ⟨_,e,rfl⟩ (λs'=>typeIs_int s' n tk) noFill_list_mul PySem.F.fills_int_mul PySem.F.slot_int_rmul repeat_list PySem.F.slot_int_index.lookup ?_;refine call_meets PySem.F.slot_int_rmul (typeIs_int s n tk) PySem.F.entry_int_rmul (PySem.F.args_int_rmul_2 _ _) (lm_int_rmul_list_any n tk l its.toArray ep dd sl) ⟨e,rfl,⟨_,e,rfl⟩,?_⟩;refine call_meets PySem.F.slot_list_mul ⟨_,e,rfl⟩ PySem.F.entry_list_mul (PySem.F.args_list_mul_2 _ _) (lm_list_mul_any l its.toArray ep dd sl n tk ?_ ?_ ?_) ⟨e,?_⟩
 ·simp[Builtin.List.listFitsIndex]; omega
 ·simp only[List.size_toArray]; omega
 ·simp only[List.size_toArray,Builtin.List.listTooLong,sizeLine,decide_eq_true_eq]; omega
 rw[ea];exact⟨.ref _,_,I.lnew (t':=s.toks) (zam r n.toNat) szs,rfl,q _ I.fresh⟩
noncomputable def zbx (a b:D)(Q:DK):Prop:=match a,b with
 | .lst l,.int n=>(n<=100/\0<=n/\l.length<=1000)/\Q (.lst (List.replicate n.toNat l).flatten)
 | _,_=>False
theorem zbw (a b:D)(Q Q':DK)(m:∀d,Q d->Q' d)(h:zbx a b Q):zbx a b Q':=by
 unfold zbx at h ⊢
 split at h
 ·exact⟨h.1,m _ h.2⟩
 ·exact h.elim
noncomputable def ze0:Fn:=fn2 zbx zbw
theorem zca {l:List D}{xs:List V}(r:RDs K mg G l xs):∀k:Nat,RDs K mg G (List.replicate k l).flatten (List.replicate k xs).flatten
 | 0=>RDs.nil
 | k+1=>by
  rw[List.replicate_succ,List.replicate_succ,List.flatten_cons,List.flatten_cons];exact r.app (zca r k)
theorem zcz:OpR X (binaryOp .Mult) (r2 X.K X.mg ze0):=by
 intro pins s σ H x y v u Q I rx ry ⟨G,d1,d2,Q0,X0,g,h1,h2,hr,hk⟩;have hr':zbx d1 d2 Q0:=hr;unfold zbx at hr'
 split at hr'
 ·obtain⟨a,xs,rfl,s1,r1⟩:=z2o h1;obtain⟨⟨q1,q2,q3⟩,q⟩:=hr';exact zge pins s σ H _ _ v u Q I rx ry ⟨a,xs,_,rfl,z0S h2,z1K g s1,q1,q2,by rw[r1.len]; exact q3,λp hp=>hk.new g hp q (RD.newL (zca r1 _) g hp)⟩
 ·exact hr'.elim
noncomputable def zbz (a b:D)(Q:DK):Prop:=match a,b with
 | .lst l,.lst m=>l.length+m.length<=sizeLine/\Q (.lst (l++m))
 | _,_=>False
theorem zby (a b:D)(Q Q':DK)(m:∀d,Q d->Q' d)(h:zbz a b Q):zbz a b Q':=by
 unfold zbz at h ⊢
 split at h
 ·exact⟨h.1,m _ h.2⟩
 ·exact h.elim
noncomputable def zbi:Fn:=fn2 zbz zby
theorem zce {a b:Expr}{x y:Ex}{pos:Pos}(ha:QX X E a x)(hb:QX X E b y):QF X E (.BinOp a .Add b pos) (.op zbi [x,y]):=QE.imp (zhB zcv ha hb) λσ H Q ⟨G,ρ,Q0,X0,hs,ab,hr,hk,hx⟩=>by
 refine⟨G,ρ,λd=>y.run ρ (λd'=>zbi.run [d,d'] Q0 X0) X0,X0,hs,ab,hr,?_,hx⟩;intro d v G1 H1 hb g1 g2 g3 rd;refine⟨G1,ρ,λd'=>zbi.run [d,d'] Q0 X0,X0,g2,ab.same g1.1,hb,?_,hx.same g3⟩;intro d' v' G2 H2 hF k1 k2 k3 rd';have hF':zbz d d' Q0:=hF;unfold zbz at hF'
 split at hF'
 ·rename_i l m
  obtain⟨l1,xs,rfl,s1,r1⟩:=z2o (rd.same k1.1);obtain⟨l2,ys,rfl,s2,r2⟩:=z2o rd';refine⟨l1,l2,xs,ys,rfl,rfl,z1K k2 s1,z1K k2 s2,by rw[r1.len,r2.len]; exact hF'.1,λp hp =>?_⟩;exact hk (.lst (l++m)) p G2 (upd H2 p (.lst (xs++ys))) hF'.2 (g1.trans g3 k1) (z07 k2 (z0B hp _)) (z07 (z07 g3 k3) (z0B hp _)) (z1d (z07 g3 k3) hp) (z1d k2 hp) ⟨xs++ys,z0t,r1.app r2⟩
 ·exact hF'.elim
end
end Pu
namespace Pu
open PySem L2
noncomputable def z0k:Fn:=Fn.mkN 2 2 (.seq (.ifs (.op pLt [(.v 1),(.op pLen [(.v 0)])]) (.ret (.op pIx [(.v 0),(.v 1)])) .skip)
 (.ret (.c (.int 0))))
noncomputable def z0X:Fn:=Fn.mkN 2 3 (.seq (.set 2 (.op pAdd [(.op z1u [(.c (.int 2)),(.v 1)]),(.c (.int 1))]))
 (.ret (.op pTup [(.op pSub [(.op pMod [(.v 0),(.v 2)]),(.v 1)]),(.op pSub [(.op pMod [(.op z97 [(.v 0),(.v 2)]),(.v 2)]),(.v 1)])])))
noncomputable def z0A:Fn:=Fn.mkN 2 6 (.seq (.own 2 (.op pLst []))
 (.seq (.set 3 (.c (.int 0)))
 (.seq (.wh (.op pLt [(.v 3),(.op pLen [(.v 0)])]) (.seq (.set 4 (.op pAdd [(.c (.int 1)),(.op pMod [(.op pIx [(.v 0),(.v 3)]),(.c (.int 12))])]))
 (.seq (.own 5 (.op zbi [(.sl (.v 0) (some (.op pAdd [(.v 3),(.c (.int 1))])) (some (.op pAdd [(.op pAdd [(.v 3),(.c (.int 1))]),(.v 4)]))),(.op ze0 [(.op pLst [(.c (.int 0))]),(.op pInt [(.op pEq [(.op pAdd [(.v 3),(.c (.int 1))]),(.op pLen [(.v 0)])])])])]))
 (.seq (.app 2 (.op pTup [(.op z3L [(.comp 1 [1] (.nm 0) (.v 5) none (.op z0X [(.v 0),(.v 1)]))]),(.op z97 [(.op pIx [(.v 0),(.v 3)]),(.c (.int 12))])]))
 (.set 3 (.op pAdd [(.op pAdd [(.v 3),(.c (.int 1))]),(.v 4)]))))))
 (.ret (.v 2)))))
noncomputable def z08:Fn:=Fn.mkN 2 4 (.seq (.set 2 (.c (.int 2305843009213693951)))
 (.seq (.set 3 (.op pMod [(.op z1u [(.op pAdd [(.op pAdd [(.op pMod [(.v 0),(.v 2)]),(.op z1u [(.c (.int 31)),(.v 1)])]),(.c (.int 7))]),(.c (.int 48271))]),(.v 2)]))
 (.ret (.op z97 [(.op pMod [(.op z1u [(.op pMod [(.op z1u [(.v 3),(.v 3)]),(.v 2)]),(.c (.int 69621))]),(.v 2)]),(.c (.int 7))]))))
noncomputable def z0w:Fn:=Fn.mkN 3 4 (.seq (.set 3 (.op pSub [(.op pMod [(.op z08 [(.v 0),(.v 1)]),(.op pAdd [(.op z1u [(.c (.int 2)),(.v 2)]),(.c (.int 1))])]),(.v 2)]))
 (.ret (.op pTup [(.v 3),(.op pSub [(.op pMod [(.op z08 [(.v 0),(.op pAdd [(.v 1),(.c (.int 1))])]),(.op pAdd [(.op z1u [(.c (.int 2)),(.v 2)]),(.c (.int 1))])]),(.v 2)])])))
noncomputable def z0E:Fn:=Fn.mkN 1 1 (.ret (.op zgb [(.op pNeg [(.op pPow [(.c (.int 10)),(.c (.int 9))])]),(.op zga [(.op pPow [(.c (.int 10)),(.c (.int 9))]),(.v 0)])]))
noncomputable def z0Q:Fn:=Fn.mkN 2 9 (.seq (.set 2 (.op z0w [(.op pIx [(.v 0),(.c (.int 0))]),(.c (.int 10)),(.v 1)]))
 (.seq (.set 3 (.op z0w [(.op pIx [(.v 0),(.c (.int 0))]),(.c (.int 20)),(.c (.int 3))]))
 (.seq (.set 4 (.op pMod [(.op z08 [(.op pIx [(.v 0),(.c (.int 0))]),(.c (.int 30))]),(.c (.int 6))]))
 (.seq (.own 5 (.op pLst []))
 (.seq (.for_ [] (.nm 6) (.v 0) (.seq (.set 7 (.op z0w [(.v 6),(.c (.int 10)),(.v 1)]))
 (.seq (.set 8 (.op pSub [(.op pMod [(.op z08 [(.v 6),(.c (.int 40))]),(.c (.int 7))]),(.c (.int 3))]))
 (.seq (.ifs (.op pEq [(.v 4),(.c (.int 4))]) (.set 7 (.op pTup [(.op z0E [(.op pAdd [(.op pIx [(.v 2),(.c (.int 0))]),(.op z1u [(.v 8),(.op pIx [(.v 3),(.c (.int 0))])])])]),(.op z0E [(.op pAdd [(.op pIx [(.v 2),(.c (.int 1))]),(.op z1u [(.v 8),(.op pIx [(.v 3),(.c (.int 1))])])])])])) .skip)
 (.seq (.ifs (.op pEq [(.v 4),(.c (.int 5))]) (.set 7 (.v 2)) .skip)
 (.app 5 (.v 7)))))))
 (.ret (.op z3L [(.v 5)])))))))
noncomputable def z0O:Fn:=Fn.mkN 1 1 (.ret (.op z3L [(.comp 1 [] (.nm 0) (.v 0) none (.op pTup [(.op z1u [(.op z1u [(.op pIx [(.v 0),(.c (.int 0))]),(.op pPow [(.c (.int 10)),(.c (.int 64))])]),(.op pPow [(.c (.int 10)),(.c (.int 64))])]),(.op z1u [(.op z1u [(.op pIx [(.v 0),(.c (.int 1))]),(.op pPow [(.c (.int 10)),(.c (.int 64))])]),(.op pPow [(.c (.int 10)),(.c (.int 64))])])]))]))
noncomputable def z11:Fn:=Fn.mkN 1 7 (.seq (.set 1 (.op z0k [(.v 0),(.c (.int 0))]))
 (.seq (.set 2 (.op pAdd [(.sl (.v 0) (some (.c (.int 1))) none),(.op ze0 [(.op pLst [(.c (.int 0))]),(.op pInt [(.op pLt [(.op pLen [(.v 0)]),(.c (.int 2))])])])]))
 (.seq (.ifs (.op pEq [(.op pMod [(.v 1),(.c (.int 2))]),(.c (.int 1))]) (.ret (.op z0A [(.v 2),(.op pIx [(.op pLst [(.c (.int 12)),(.op pPow [(.c (.int 10)),(.c (.int 9))]),(.op pPow [(.c (.int 10)),(.c (.int 60))])]),(.op pMod [(.op z97 [(.v 1),(.c (.int 2))]),(.c (.int 3))])])])) .skip)
 (.seq (.set 3 (.op pIx [(.op pLst [(.c (.int 3)),(.c (.int 3)),(.c (.int 12)),(.c (.int 12)),(.c (.int 40)),(.op pPow [(.c (.int 10)),(.c (.int 9))])]),(.op pMod [(.op z08 [(.v 1),(.c (.int 1))]),(.c (.int 6))])]))
 (.seq (.own 4 (.op pLst []))
 (.seq (.set 5 (.c (.int 0)))
 (.seq (.wh (.op pLt [(.v 5),(.op pLen [(.v 2)])]) (.seq (.set 6 (.op pAdd [(.c (.int 1)),(.op pMod [(.op z08 [(.op pIx [(.v 2),(.v 5)]),(.c (.int 50))]),(.op pIx [(.op pLst [(.c (.int 12)),(.c (.int 4)),(.c (.int 3)),(.c (.int 5))]),(.op pMod [(.op z08 [(.op pIx [(.v 2),(.v 5)]),(.c (.int 51))]),(.c (.int 4))])])])]))
 (.seq (.app 4 (.op pTup [(.op z0Q [(.sl (.v 2) (some (.v 5)) (some (.op pAdd [(.v 5),(.v 6)]))),(.v 3)]),(.op pIx [(.v 2),(.v 5)])]))
 (.set 5 (.op pAdd [(.v 5),(.v 6)])))))
 (.seq (.ifs (.op pEq [(.op pMod [(.op z08 [(.op pIx [(.v 2),(.c (.int 0))]),(.c (.int 52))]),(.c (.int 4))]),(.c (.int 1))]) (.own 4 (.op zbi [(.op pLst [(.op pTup [(.op z0Q [(.v 2),(.v 3)]),(.op pAdd [(.op pIx [(.v 2),(.c (.int 0))]),(.c (.int 1))])])]),(.v 4)])) .skip)
 (.seq (.ifs (.op pEq [(.op pMod [(.op z08 [(.op pIx [(.v 2),(.c (.int 0))]),(.c (.int 53))]),(.c (.int 8))]),(.c (.int 1))]) (.own 4 (.comp 1 [] (.nm 0) (.v 4) none (.op pTup [(.op z0O [(.op pIx [(.v 0),(.c (.int 0))])]),(.op pIx [(.v 0),(.c (.int 1))])]))) .skip)
 (.ret (.v 4)))))))))))
noncomputable def z18:Fn:=Fn.mkN 3 5 (.seq (.set 3 (.op pTup [(.op pSub [(.op pIx [(.v 1),(.c (.int 0))]),(.op pIx [(.v 0),(.c (.int 0))])]),(.op pSub [(.op pIx [(.v 1),(.c (.int 1))]),(.op pIx [(.v 0),(.c (.int 1))])])]))
 (.seq (.set 4 (.op pTup [(.op pSub [(.op pIx [(.v 2),(.c (.int 0))]),(.op pIx [(.v 0),(.c (.int 0))])]),(.op pSub [(.op pIx [(.v 2),(.c (.int 1))]),(.op pIx [(.v 0),(.c (.int 1))])])]))
 (.ret (.op pSub [(.op z1u [(.op pIx [(.v 3),(.c (.int 0))]),(.op pIx [(.v 4),(.c (.int 1))])]),(.op z1u [(.op pIx [(.v 3),(.c (.int 1))]),(.op pIx [(.v 4),(.c (.int 0))])])]))))
noncomputable def z0g:Fn:=Fn.mkN 1 3 (.seq (.own 1 (.op pLst []))
 (.seq (.for_ [] (.nm 2) (.v 0) (.seq (.wh (.and (.op pGt [(.op pLen [(.v 1)]),(.c (.int 1))]) (.op pLe [(.op z18 [(.op pIx [(.v 1),(.op pNeg [(.c (.int 2))])]),(.op pIx [(.v 1),(.op pNeg [(.c (.int 1))])]),(.v 2)]),(.c (.int 0))])) (.pop 1))
 (.app 1 (.v 2))))
 (.ret (.sl (.v 1) none (some (.op pNeg [(.c (.int 1))]))))))
noncomputable def z12:Fn:=Fn.mkN 1 2 (.seq (.set 1 (.op z6t [(.v 0)]))
 (.seq (.ifs (.op pEq [(.op pLen [(.v 1)]),(.c (.int 1))]) (.ret (.op z3L [(.v 1)])) .skip)
 (.ret (.op z3L [(.op pAdd [(.op z0g [(.v 1)]),(.op z0g [(.sls (.v 1) none none (.op pNeg [(.c (.int 1))]))])])]))))
noncomputable def z09:Nat->Fn
 | 0=>Fn.bot
 | n+1=>Fn.mkN 2 3 (.seq (.ifs (.op (pIsi "tuple") [(.v 1)]) (.seq (.ifs (.or (.not (.op (pIsi "tuple") [(.v 0)])) (.op pNe [(.op pLen [(.v 0)]),(.op pLen [(.v 1)])])) (.ret (.c (.bl false))) .skip)
 (.seq (.forr [(.op pLen [(.v 1)])] (.nm 2) (.ifs (.not (.op (z09 n) [(.op pIx [(.v 0),(.v 2)]),(.op pIx [(.v 1),(.v 2)])])) (.ret (.c (.bl false))) .skip))
 (.ret (.c (.bl true))))) .skip)
 (.seq (.ifs (.op pIs [(.v 1),(.c .non)]) (.ret (.op pIs [(.v 0),(.c .non)])) .skip)
 (.seq (.ifs (.op (pIsi "str") [(.v 1)]) (.ret (.and (.op (pIsi "str") [(.v 0)]) (.op pEq [(.v 0),(.v 1)]))) .skip)
 (.seq (.ifs (.or (.not (.op (pIsi "int") [(.v 0)])) (.op pNe [(.op (pIsi "bool") [(.v 0)]),(.op (pIsi "bool") [(.v 1)])])) (.ret (.c (.bl false))) .skip)
 (.ret (.op pEq [(.v 0),(.v 1)]))))))
noncomputable def z0R:Fn:=z09 4
noncomputable def z1a:Fn:=Fn.mkN 2 2 (.ret (.op pTup [(.op pAdd [(.op pIx [(.v 0),(.c (.int 0))]),(.op pIx [(.v 1),(.c (.int 0))])]),(.op pAdd [(.op pIx [(.v 0),(.c (.int 1))]),(.op pIx [(.v 1),(.c (.int 1))])])]))
end Pu
namespace Pu
open PySem PySem.Spec PyProof.Rows L2
end Pu
namespace Zp
open PySem PySem.Spec PyProof.Rows L2
section
variable {prog:Program}{w:World}{A:Around}{E:Value->Shared->Prop}{s:Shared}
theorem nx {j t:Addr}{n:Nat}{xs:Array Value}{x:Value}{Q:Value->Shared->Prop}(it:s.heap.IsTupleIter j t n)(tu:s.heap.IsTuple t xs)(e:xs[n]? = some x)
  (q:∀h',h'.IsTupleIter j t (n+1)->Heap.SameBut j s.heap h'->Q x { s with heap:=h' }):wpAny (model prog w) A (Builtin.SmallTypes.nextOf (.ref j)) Q E s:=by
 obtain⟨ob,g,gc,gd⟩:=id it;obtain⟨ot,gt,_,nt,gdt⟩:=tu
 delta Builtin.SmallTypes.nextOf
 refine wpAny_bind (wpAny_callSpecial?_slot (name:=Str.ofString "__next__") it.typeIs F.slot_tuple_iterator_next (wpAny_call_entry F.slot_tuple_iterator_next it.typeIs F.entry_tuple_iterator_next ?_ (F.args_tuple_iterator_next_1 _)));show wpAny _ _ (PySem.field (.ref j) 0 >>= _) _ _ s;refine wpAny_bind (wpAny_field g gd (x :=.ref t) rfl ?_);show wpAny _ _ (if (Value.ref t == Value.none)=true then _ else (PySem.field (.ref j) 1 >>= _)) _ _ s;rw[if_neg (show ¬ (Value.ref t == Value.none)=true from Bool.false_ne_true)];refine wpAny_bind (wpAny_field g gd (x :=.int n 0) rfl ?_);show wpAny _ _ (seqItems? (.ref t) >>= λ_=>_) _ _ s;refine wpAny_bind (wpAny_seqItems gt gdt ?_);simp only[Int.toNat_natCast,e];refine wpAny_bind (wpAny_setField g gd (by simp) (wpAny_pure ⟨x,rfl,wpAny_pure (q _ ⟨_,Heap.get?_update_self _ g (Obj.isFreed_of_fields (Obj.data_mapFields gd _)),(Obj.cls_mapFields ..).trans gc,by rw[Obj.data_mapFields gd]; simp[rawInt]⟩ (Heap.SameBut.update ..))⟩))
theorem nxE {j t:Addr}{n:Nat}{xs:Array Value}{Q:Value->Shared->Prop}(hh:A.handled=none)(it:s.heap.IsTupleIter j t n)(tu:s.heap.IsTuple t xs)(e:xs[n]? = none)
  (q:∀h' z,Heap.ExtBut j s.heap h'->(∃o,h'.get? z=some o/\o.cls = .type "StopIteration")->E (.ref z) { s with heap:=h' }):wpAny (model prog w) A (Builtin.SmallTypes.nextOf (.ref j)) Q E s:=by
 obtain⟨ob,g,gc,gd⟩:=id it;obtain⟨ot,gt,_,nt,gdt⟩:=tu
 delta Builtin.SmallTypes.nextOf
 refine wpAny_bind (wpAny_callSpecial?_slot (name:=Str.ofString "__next__") it.typeIs F.slot_tuple_iterator_next (wpAny_call_entry F.slot_tuple_iterator_next it.typeIs F.entry_tuple_iterator_next ?_ (F.args_tuple_iterator_next_1 _)));show wpAny _ _ (PySem.field (.ref j) 0 >>= _) _ _ s;refine wpAny_bind (wpAny_field g gd (x :=.ref t) rfl ?_);show wpAny _ _ (if (Value.ref t == Value.none)=true then _ else (PySem.field (.ref j) 1 >>= _)) _ _ s;rw[if_neg (show ¬ (Value.ref t == Value.none)=true from Bool.false_ne_true)];refine wpAny_bind (wpAny_field g gd (x :=.int n 0) rfl ?_);show wpAny _ _ (seqItems? (.ref t) >>= λ_=>_) _ _ s;refine wpAny_bind (wpAny_seqItems gt gdt ?_);simp only[Int.toNat_natCast,e];refine wpAny_bind (wpAny_rule (wpAny_bind (wpAny_setField g gd (by simp) (show wpAny _ _ (newExc (.type "StopIteration") [] >>= λ_=>_) _ _ _ from wpAny_bind ?_))));simp only[newExc,newTuple];refine wpAny_bind (wpAny_newObj_type (wpAny_bind (m:=firstArgMember _ _) (wpAny_of_eq (a:=Value.none) (by first | rfl | (simp only[firstArgMember]; rfl)) (wpAny_newObj_type ?_ (by size_fits)))) (by size_fits));simp only[raiseNew];refine wpAny_bind (wpAny_handled ?_)
 first | rw[show A.in1.handled=none from hh] | rw[hh]
 exact wpAny_bind (wpAny_pure (wpAny_throw (q _ _ (((Heap.SameBut.update ..).extBut.push _).push _) ⟨_,Heap.get?_push_size _ rfl,rfl⟩)))
structure St (h:Heap)(z TI TO i1 i2 t1 t2:Addr)(f:Value)(n:Nat):Prop where
 z:IsZip h z TI TO f
 ti:IsPair h TI (.ref i1) (.ref i2)
 to:∃a b,IsPair h TO a b
 a:h.IsTupleIter i1 t1 n
 b:h.IsTupleIter i2 t2 n
theorem tat {h h':Heap}{t:Addr}{xs:Array Value}(x:h.IsTuple t xs)(k:∀o,h.get? t=some o->h'.get? t=some o):h'.IsTuple t xs:=by
 obtain⟨o,e,r⟩:=x;exact⟨o,k o e,r⟩
variable {z TI TO i1 i2 t1 t2:Addr}{n:Nat}{xs ys:Array Value}{x y:Value}
theorem item {Q:Option Value->Shared->Prop}(D:ZipApart z TI TO i1 i2 t1 t2)(S:St s.heap z TI TO i1 i2 t1 t2 .none n)(hx:s.heap.IsTuple t1 xs)(hy:s.heap.IsTuple t2 ys)(ex:xs[n]? = some x)(ey:ys[n]? = some y)
  (q:∀h',St h' z TI TO i1 i2 t1 t2 (rawInt s.heap.objs.size) (n+1)->IsPair h' s.heap.objs.size x y->h'.objs.size=s.heap.objs.size+1->(∀c o,c≠z->c≠TO->c≠i1->c≠i2->s.heap.get? c=some o->h'.get? c=some o)->Q (some (.ref s.heap.objs.size)) { s with heap:=h' }):
  wpAny (model prog w) A (pyNext (.ref z)) Q E s:=by
 obtain⟨sz,sti,⟨pa,pb,sto⟩,sa,sb⟩:=S;have ty:s.TypeIs (.ref z) "zip":=⟨_,sz,rfl⟩
 delta pyNext
 refine wpAny_bind (wpAny_attempt (wpAny_callSpecial?_slot (name:=Str.ofString "__next__") ty F.slot_zip_next (wpAny_call_entry F.slot_zip_next ty F.entry_zip_next ?_ (F.args_zip_next_1 _))));show wpAny _ _ (PySem.field (.ref z) 2 >>= λ_=>_) _ _ _;refine wpAny_bind (wpAny_field sz rfl (x :=.bool false) rfl (show wpAny _ _ (PySem.field (.ref z) 3 >>= λ_=>_) _ _ _ from wpAny_bind (wpAny_field sz rfl (x :=.ref TI) rfl (wpAny_bind (wpAny_seqItems sti rfl ?_)))));show wpAny _ _ (Builtin.SmallTypes.ownedTupleIsFree (.ref z) >>= λ_=>_) _ _ _;refine wpAny_bind ?_
 delta Builtin.SmallTypes.ownedTupleIsFree
 refine wpAny_bind (wpAny_field sz rfl (x:=Value.none) rfl (wpAny_pure ?_));simp only[if_true];refine wpAny_bind (wpAny_rule (wpAny_bind (wpAny_field sz rfl (x:=Value.ref TO) rfl (wpAny_bind (wpAny_setField_rec sz (by simp) λg1 z1 k1 =>?_)))))
 replace z1:IsZip g1 z TI TO .ellipsis:=z1
 refine wpAny_bind ?_;simp only[List.zipIdx_cons,List.zipIdx_nil,List.forIn_cons,List.forIn_nil];refine wpAny_bind (wpAny_bind (wpAny_onRaise (show wpAny _ _ (Builtin.SmallTypes.nextOf (.ref i1) >>= λ_=>_) _ _ _ from wpAny_bind (nx (sa.extBut k1.extBut D.i1z) (tat hx λo e=>k1.extBut _ _ D.l1z e) ex λg2 a2 k2=>wpAny_pure ?_))));have o2:IsPair g2 TO pa pb:=k2.extBut _ _ D.TOi1 (k1.extBut _ _ D.TOz sto);refine wpAny_bind (wpAny_seqItems o2 rfl (wpAny_bind (wpAny_updateSeq_pair o2 λg3 o3 k3 =>?_)))
 replace o3:IsPair g3 TO x pb:=o3
 refine wpAny_bind (wpAny_letGo (wpAny_pure ?_));refine wpAny_bind (wpAny_bind (wpAny_onRaise (show wpAny _ _ (Builtin.SmallTypes.nextOf (.ref i2) >>= λ_=>_) _ _ _ from wpAny_bind (nx (((sb.extBut k1.extBut D.i2z).extBut k2.extBut D.i12.symm).extBut k3.extBut D.TOi2.symm)
  (tat hy λo e=>k3.extBut _ _ D.l2TO (k2.extBut _ _ D.l2i1 (k1.extBut _ _ D.l2z e))) ey λg4 b4 k4=>wpAny_pure ?_))))
 have o4:IsPair g4 TO x pb:=k4.extBut _ _ D.TOi2 o3;refine wpAny_bind (wpAny_seqItems o4 rfl (wpAny_bind (wpAny_updateSeq_pair o4 λg5 o5 k5 =>?_)))
 replace o5:IsPair g5 TO x y:=o5
 refine wpAny_bind (wpAny_letGo (wpAny_pure (wpAny_pure (wpAny_bind (wpAny_seqItems o5 rfl (wpAny_bind (wpAny_newTuple ?_)))))));have sze:g5.objs.size=s.heap.objs.size:=by rw[k5.1,k4.1,k3.1,k2.1,k1.1]
 have z5:IsZip g5 z TI TO .ellipsis:=k5.extBut _ _ D.TOz.symm (k4.extBut _ _ D.i2z.symm (k3.extBut _ _ D.TOz.symm (k2.extBut _ _ D.i1z.symm z1)));have kk:∀c o,c≠z->c≠TO->c≠i1->c≠i2->s.heap.get? c=some o->g5.get? c=some o:=λc o c1 c2 c3 c4 e=>k5.extBut _ _ c2 (k4.extBut _ _ c4 (k3.extBut _ _ c2 (k2.extBut _ _ c3 (k1.extBut _ _ c1 e))));have a5:g5.IsTupleIter i1 t1 (n+1):=((a2.extBut k3.extBut D.TOi1.symm).extBut k4.extBut D.i12).extBut k5.extBut D.TOi1.symm;have b5:g5.IsTupleIter i2 t2 (n+1):=b4.extBut k5.extBut D.TOi2.symm;have zlt:z<g5.objs.size:=Heap.lt_size z5;show wpAny _ _ (Builtin.SmallTypes.ownedTupleHandOut (.ref z) (.ref g5.objs.size) >>= λ_=>_) _ _ _;refine wpAny_bind ?_
 delta Builtin.SmallTypes.ownedTupleHandOut
 have z6:IsZip (g5.push { cls :=.type "tuple",data :=.seq #[x,y] }) z TI TO .ellipsis:=Heap.get?_push_of_some _ z5;refine wpAny_bind (wpAny_setField_rec z6 (by simp) λg7 z7 k7 =>?_)
 replace z7:IsZip g7 z TI TO (rawInt g5.objs.size):=z7
 refine wpAny_setField_rec z7 (by simp) λg8 z8 k8 =>?_
 replace z8:IsZip g8 z TI TO (rawInt g5.objs.size):=z8
 have up:∀c o,c≠z->g5.get? c=some o->g8.get? c=some o:=λc o c1 e=>k8.extBut _ _ c1 (k7.extBut _ _ c1 (Heap.get?_push_of_some _ e));have tp:IsPair g8 g5.objs.size x y:=k8.extBut _ _ (Nat.ne_of_gt zlt) (k7.extBut _ _ (Nat.ne_of_gt zlt) (Heap.get?_push_size _ rfl));have s8:g8.objs.size=g5.objs.size+1:=by rw[k8.1,k7.1,Heap.size_push]
 rw[sze] at z8 tp s8;refine wpAny_pure ⟨_,rfl,wpAny_pure ?_⟩;show Q (some (.ref g5.objs.size)) _;rw[sze];exact q g8 ⟨z8,up _ _ D.TIz (kk _ _ D.TIz D.TITO D.TIi1 D.TIi2 sti),⟨_,_,up _ _ D.TOz o5⟩,a5.at λo e=>up _ o D.i1z e,b5.at λo e=>up _ o D.i2z e⟩ tp s8 λc o c1 c2 c3 c4 e=>up c o c1 (kk c o c1 c2 c3 c4 e)
theorem fin {Q:Option Value->Shared->Prop}(hh:A.handled=none)(D:ZipApart z TI TO i1 i2 t1 t2)(S:St s.heap z TI TO i1 i2 t1 t2 .none n)(hx:s.heap.IsTuple t1 xs)(hy:s.heap.IsTuple t2 ys)(e:xs[n]? = none\/ys[n]? = none)
  (q:∀h',(∀c o,c≠z->c≠TO->c≠i1->c≠i2->s.heap.get? c=some o->h'.get? c=some o)->Q none { s with heap:=h' }):wpAny (model prog w) A (pyNext (.ref z)) Q E s:=by
 obtain⟨sz,sti,⟨pa,pb,sto⟩,sa,sb⟩:=S;have ty:s.TypeIs (.ref z) "zip":=⟨_,sz,rfl⟩
 have stop:∀h' v,(∀c o,c≠z->c≠TO->c≠i1->c≠i2->s.heap.get? c=some o->h'.get? c=some o)->(∃o,h'.get? v=some o/\o.cls = .type "StopIteration")->wpAny (model prog w) A (isInstance (.ref v) (.type "StopIteration") >>= λb=>if b=true then pure none else throw (Value.ref v)) Q E { s with heap:=h' }:=λh' v kk ⟨o,ho,hc⟩=>
  wpAny_bind (wpAny_isInstance (T:="StopIteration") (b:=true) ⟨o,ho,hc⟩ isSubtype_stop (wpAny_pure (q _ kk)))
 delta pyNext
 refine wpAny_bind (wpAny_attempt (wpAny_callSpecial?_slot (name:=Str.ofString "__next__") ty F.slot_zip_next (wpAny_call_entry F.slot_zip_next ty F.entry_zip_next ?_ (F.args_zip_next_1 _))));show wpAny _ _ (PySem.field (.ref z) 2 >>= λ_=>_) _ _ _;refine wpAny_bind (wpAny_field sz rfl (x :=.bool false) rfl (show wpAny _ _ (PySem.field (.ref z) 3 >>= λ_=>_) _ _ _ from wpAny_bind (wpAny_field sz rfl (x :=.ref TI) rfl (wpAny_bind (wpAny_seqItems sti rfl ?_)))));show wpAny _ _ (Builtin.SmallTypes.ownedTupleIsFree (.ref z) >>= λ_=>_) _ _ _;refine wpAny_bind ?_
 delta Builtin.SmallTypes.ownedTupleIsFree
 refine wpAny_bind (wpAny_field sz rfl (x:=Value.none) rfl (wpAny_pure ?_));simp only[if_true];refine wpAny_bind (wpAny_rule (wpAny_bind (wpAny_field sz rfl (x:=Value.ref TO) rfl (wpAny_bind (wpAny_setField_rec sz (by simp) λg1 z1 k1 =>?_)))))
 replace z1:IsZip g1 z TI TO .ellipsis:=z1
 refine wpAny_bind ?_;simp only[List.zipIdx_cons,List.zipIdx_nil,List.forIn_cons,List.forIn_nil];refine wpAny_bind (wpAny_bind (wpAny_onRaise (show wpAny _ _ (Builtin.SmallTypes.nextOf (.ref i1) >>= λ_=>_) _ _ _ from wpAny_bind ?_)))
 cases ex:xs[n]? with
 | none=>
  refine nxE hh (sa.extBut k1.extBut D.i1z) (tat hx λo e=>k1.extBut _ _ D.l1z e) ex λg2 v k2 hv =>?_;obtain⟨oe,hoe,hce⟩:=hv;have z2:IsZip g2 z TI TO .ellipsis:=k2 _ _ D.i1z.symm z1;have ne:v≠z:=λw=>by subst w; rw[z2] at hoe; cases hoe; simp at hce
  exact wpAny_setField_rec z2 (by simp) λg3 _ k3=>stop g3 v (λc o c1 _ c3 _ w=>k3.extBut _ _ c1 (k2 _ _ c3 (k1.extBut _ _ c1 w))) ⟨oe,k3.extBut _ _ ne hoe,hce⟩
 | some x=>
  have ey:ys[n]? = none:=e.resolve_left (by rw[ex]; exact λw=>nomatch w);refine nx (sa.extBut k1.extBut D.i1z) (tat hx λo e=>k1.extBut _ _ D.l1z e) ex λg2 a2 k2=>wpAny_pure ?_;have o2:IsPair g2 TO pa pb:=k2.extBut _ _ D.TOi1 (k1.extBut _ _ D.TOz sto);refine wpAny_bind (wpAny_seqItems o2 rfl (wpAny_bind (wpAny_updateSeq_pair o2 λg3 o3 k3 =>?_)));refine wpAny_bind (wpAny_letGo (wpAny_pure ?_));refine wpAny_bind (wpAny_bind (wpAny_onRaise (show wpAny _ _ (Builtin.SmallTypes.nextOf (.ref i2) >>= λ_=>_) _ _ _ from wpAny_bind (nxE hh (((sb.extBut k1.extBut D.i2z).extBut k2.extBut D.i12.symm).extBut k3.extBut D.TOi2.symm)
   (tat hy λo e=>k3.extBut _ _ D.l2TO (k2.extBut _ _ D.l2i1 (k1.extBut _ _ D.l2z e))) ey λg4 v k4 hv =>?_))))
  obtain⟨oe,hoe,hce⟩:=hv;have z4:IsZip g4 z TI TO .ellipsis:=k4 _ _ D.i2z.symm (k3.extBut _ _ D.TOz.symm (k2.extBut _ _ D.i1z.symm z1));have ne:v≠z:=λw=>by subst w; rw[z4] at hoe; cases hoe; simp at hce
  exact wpAny_setField_rec z4 (by simp) λg5 _ k5=>stop g5 v (λc o c1 c2 c3 c4 w=>k5.extBut _ _ c1 (k4 _ _ c4 (k3.extBut _ _ c2 (k2.extBut _ _ c3 (k1.extBut _ _ c1 w))))) ⟨oe,k5.extBut _ _ ne hoe,hce⟩
end
end Zp
namespace Zp
open PySem PySem.Spec PyProof.Rows L2
noncomputable abbrev mk1 (h:Heap)(t:Addr):Heap:=h.push { cls :=.type "tuple_iterator",data :=.fields #[.ref t,.int 0 0] }
noncomputable abbrev mk3 (h:Heap)(t1 t2:Addr):Heap:=((mk1 (mk1 h t1) t2).push { cls :=.type "tuple",data :=.seq #[.ref h.objs.size,.ref (mk1 h t1).objs.size] }).push { cls :=.type "tuple",data :=.seq #[.none,.none] }
noncomputable abbrev mk5 (h:Heap)(t1 t2:Addr):Heap:=(mk3 h t1 t2).push { cls :=.type "zip",data :=.fields #[.none,.bool false,.bool false,.ref (mk1 (mk1 h t1) t2).objs.size,.ref ((mk1 (mk1 h t1) t2).push { cls :=.type "tuple",data :=.seq #[.ref h.objs.size,.ref (mk1 h t1).objs.size] }).objs.size] }
theorem newZ (t1 t2:Addr)(xs ys:Array Value):Meets (Builtin.«zip.__new__» ⟨[.type "zip",.ref t1,.ref t2],[]⟩) (λ_ R s=>s.heap.IsTuple t1 xs/\s.heap.IsTuple t2 ys/\R (.ok (.ret (.ref (mk3 s.heap t1 t2).objs.size))) { s with heap:=mk5 s.heap t1 t2 }):=
 .of_wp λprog w A R s h=>by
  obtain⟨hp,g,d,tk,os⟩:=s;obtain⟨a1,a2,h⟩:=h;have sub:=sub_zip;have b1:Heap.IsTuple (Shared.heap ⟨hp,g,d,tk,os⟩) t1 xs:=a1;have b2:Heap.IsTuple (Shared.heap ⟨mk1 hp t1,g,d,tk,os⟩) t2 ys:=Heap.IsTuple.push a2 _
  wp_walk using wpAny_pyIter_tuple b1,wpAny_pyIter_tuple b2
  exact⟨_,rfl,h⟩
section
variable {prog:Program}{w:World}{A:Around}{E:Value->Shared->Prop}{s:Shared}{t1 t2:Addr}{xs ys:Array Value}
theorem zk9 {Q:Value->Shared->Prop}(h1:s.heap.IsTuple t1 xs)(h2:s.heap.IsTuple t2 ys)
  (q:∀h',St h' (s.heap.objs.size+4) (s.heap.objs.size+2) (s.heap.objs.size+3) s.heap.objs.size (s.heap.objs.size+1) t1 t2 .none 0->(∀c o,s.heap.get? c=some o->h'.get? c=some o)->Q (.ref (s.heap.objs.size+4)) { s with heap:=h' }):
  wpAny (model prog w) A (call (.type "zip") [.ref t1,.ref t2]) Q E s:=by
 refine callType_new F.called_zip (by decide) (F.typeCall_zip_2 _ _) (F.newCall_zip_2 _ _) (λobj=>F.args_object_init_3 obj _ _) F.entry_zip_new (newZ t1 t2 xs ys) ⟨h1,h2,?_⟩;have n1:(mk1 s.heap t1).objs.size=s.heap.objs.size+1:=Heap.size_push ..;have n2:(mk1 (mk1 s.heap t1) t2).objs.size=s.heap.objs.size+2:=by rw[Heap.size_push,n1]
 have n3:((mk1 (mk1 s.heap t1) t2).push { cls :=.type "tuple",data :=.seq #[.ref s.heap.objs.size,.ref (mk1 s.heap t1).objs.size] }).objs.size=s.heap.objs.size+3:=by rw[Heap.size_push,n2]
 have n4:(mk3 s.heap t1 t2).objs.size=s.heap.objs.size+4:=by rw[Heap.size_push,n3]
 have up1:∀{h:Heap}{c:Addr}{o o':Obj},h.get? c=some o->(h.push o').get? c=some o:=λe=>Heap.get?_push_of_some _ e;have e5:(mk5 s.heap t1 t2).get? (mk3 s.heap t1 t2).objs.size=some _:=Heap.get?_push_size _ rfl;have e4:(mk5 s.heap t1 t2).get? ((mk1 (mk1 s.heap t1) t2).push { cls :=.type "tuple",data :=.seq #[.ref s.heap.objs.size,.ref (mk1 s.heap t1).objs.size] }).objs.size=some _:=up1 (Heap.get?_push_size _ rfl);have e3:(mk5 s.heap t1 t2).get? (mk1 (mk1 s.heap t1) t2).objs.size=some _:=up1 (up1 (Heap.get?_push_size _ rfl));have e2:(mk5 s.heap t1 t2).get? (mk1 s.heap t1).objs.size=some _:=up1 (up1 (up1 (Heap.get?_push_size _ rfl)));have e1:(mk5 s.heap t1 t2).get? s.heap.objs.size=some _:=up1 (up1 (up1 (up1 (Heap.get?_push_size _ rfl))));show _/\_;rw[n4,n2,n3] at e5;rw[n3] at e4;rw[n1,n2] at e3;rw[n1] at e2;rw[n4];exact⟨⟨_,e5,rfl⟩,q _ ⟨e5,e3,⟨_,_,e4⟩,⟨_,e1,rfl,rfl⟩,⟨_,e2,rfl,rfl⟩⟩ λc o e=>up1 (up1 (up1 (up1 (up1 e))))⟩
end
end Zp
namespace L2
open PySem PySem.Spec PyProof.Rows
section
variable {X:Cx}{pins:List (Addr × Obj)}{σ:List (Option V)}{H H':Hp}{s:Shared}{h':Heap}
theorem Inv.turnedL {t':Nat}{fp:List Addr}(I:Inv X pins σ H s)(k:∀b o,b ∉ fp->s.heap.get? b=some o->h'.get? b=some o)(hf:∀b∈fp,FpOk X pins H b):Inv X pins σ H { s with heap:=h',toks:=t' }:=by
 have nit:∀b u,H b=some u->b ∉ fp:=λb u e z=>by rw[(hf b z).1] at e; cases e
 have hL:X.env.locals ∉ fp:=λz=>(hf _ z).2.1 rfl;refine I.step (g':=s.gens) (d':=s.drawn) (ch:=fp) (λb hb =>?_) (λb o _ _ hc e _=>k b o hc e) (λb o _ _ hc e _=>⟨o.slots,k b o hc e⟩) (λ_ _ _ _ n=>n)
  (λb o hc e=>⟨o,k b o hc e⟩) (λ_ _ e=>e) (λ_ _ _ e=>e) (λb ps e=>⟨#[],by rw[e]; simp⟩) (λm hm =>?_) (λb u e =>?_) I.bare
 ·obtain⟨f0,f1,f2,f3,f4,f5⟩:=hf b hb;exact⟨f3,f1,f4,f5⟩
 ·obtain⟨o,es,ep,ho,r⟩:=hm;exact⟨o,es,ep,k _ o hL ho,r⟩
 ·refine(I.hok b u e).stay (λc v hc q=>k c v ?_ q) (λ_ q=>q) λ_ _ q=>q
  rcases hc with z | z
  ·rw[z]; exact nit b u e
  ·exact nit c _ z
end
end L2
namespace Zp
open PySem PySem.Spec PyProof.Rows L2
noncomputable def Itz (K:W.Frag)(t1 t2:Addr):It:=
 ⟨λi H=>∃xs ys x y,SqT K H t1 xs/\SqT K H t2 ys/\xs[i]? = some x/\ys[i]? = some y,
  λi H v H'=>∃p x y,v = .ref p/\H p=none/\H'=upd H p (.tup [x,y])/\∀xs ys,SqT K H t1 xs->SqT K H t2 ys->xs[i]? = some x/\ys[i]? = some y,
  λi H=>∃xs ys,SqT K H t1 xs/\SqT K H t2 ys/\(xs.length<=i\/ys.length<=i)⟩
theorem zds {P:Program}{w:World}{K:W.Frag}{es:List Expr}{kk:Nat}{pos:Pos}{z TI TO i1 i2 t1 t2:Addr}(D:ZipApart z TI TO i1 i2 t1 t2):Turn P w K (.Tuple es kk pos) (Itz K t1 t2) [z,TO,i1,i2,TI] z (λi h=>St h z TI TO i1 i2 t1 t2 .none i) where
 mem:=by simp
 obj:=λi h st b hb=>by
  obtain⟨sz,sti,⟨pa,pb,sto⟩,⟨oa,ea,ca,da⟩,⟨ob,eb,cb,db⟩⟩:=st;simp only[List.mem_cons,List.not_mem_nil,or_false] at hb
  rcases hb with rfl | rfl | rfl | rfl | rfl
  ·exact⟨_,sz,λv q=>by cases (show Data.fields _=Data.cell v from q)⟩
  ·exact⟨_,sto,λv q=>by cases (show Data.seq _ _=Data.cell v from q)⟩
  ·exact⟨_,ea,λv q=>by rw[da] at q; cases q⟩
  ·exact⟨_,eb,λv q=>by rw[db] at q; cases q⟩
  ·exact⟨_,sti,λv q=>by cases (show Data.seq _ _=Data.cell v from q)⟩
 keep:=λi h h' st k=>by
  obtain⟨sz,sti,⟨pa,pb,sto⟩,sa,sb⟩:=st;exact⟨k z (by simp) _ sz,k TI (by simp) _ sti,⟨pa,pb,k TO (by simp) _ sto⟩,sa.at λo e=>k i1 (by simp) o e,sb.at λo e=>k i2 (by simp) o e⟩
 item:=by
  intro X hP hw hK hc i pins s σ H E I hf st hg;subst hP hw hK;obtain⟨xs,ys,x,y,q1,q2,ex,ey⟩:=hg;obtain⟨us,r1,p1,_⟩:=I.tuple q1;obtain⟨vs,r2,p2,_⟩:=I.tuple q2;obtain⟨u,hu,ru⟩:=r1.get ex;obtain⟨v,hv,rv⟩:=r2.get ey;refine item D st (show s.heap.IsTuple t1 us.toArray from p1) (show s.heap.IsTuple t2 vs.toArray from p2) (x:=u) (y:=v) (by simpa using hu) (by simpa using hv) λh' S' tp _ kp=>⟨_,rfl,?_⟩
  refine wpAny_letOwnedTupleGo_zip S'.z λh2 z2 k2 =>?_;have lt:∀{b o},s.heap.get? b=some o->b≠s.heap.objs.size:=λe=>Nat.ne_of_lt (Heap.lt_size e);have ob:∀b∈[z,TO,i1,i2,TI],b≠s.heap.objs.size:=λb hb=>by
   obtain⟨sz,sti,⟨pa,pb,sto⟩,⟨oa,ea,_⟩,⟨oo,eb,_⟩⟩:=st;simp only[List.mem_cons,List.not_mem_nil,or_false] at hb
   rcases hb with rfl | rfl | rfl | rfl | rfl
   ·exact lt sz
   ·exact lt sto
   ·exact lt ea
   ·exact lt eb
   ·exact lt sti
  have hz:z≠s.heap.objs.size:=ob z (by simp);have new:(s.heap.push { cls :=.type "tuple",data :=.seq #[u,v] }).get? s.heap.objs.size=some { cls :=.type "tuple",data :=.seq #[u,v] }:=Heap.get?_push_size _ rfl;have I1:Inv X pins σ (upd H s.heap.objs.size (.tup [x,y])) { s with heap:=s.heap.push { cls :=.type "tuple",data :=.seq #[u,v] },toks:=s.toks }:=
   I.laid (λ_ _ q=>Heap.get?_push_of_some _ q) (Nat.le_refl _) ⟨Nat.le_trans (show 2<=64 by decide) (by decide),[u,v],.cons ru (.cons rv .nil),⟨_,Heap.get?_push_size _ rfl,rfl,_,rfl⟩⟩
  have hf1:∀b∈[z,TO,i1,i2,TI],FpOk X pins (upd H s.heap.objs.size (.tup [x,y])) b:=λb hb=>by
   obtain⟨f0,f⟩:=hf b hb;exact⟨by rw[z0f (ob b hb)]; exact f0,f⟩
  have I2:Inv X pins σ (upd H s.heap.objs.size (.tup [x,y])) { s with heap:=h2,toks:=s.toks }:=I1.turnedL (t':=s.toks) (λb o hb e=>by
   simp only[List.mem_cons,List.not_mem_nil,or_false,not_or] at hb;obtain⟨b1,b2,b3,b4,b5⟩:=hb;refine k2.extBut _ _ b1 ?_
   by_cases he:b=s.heap.objs.size
   ·subst he;rw[new] at e
    cases e
    exact tp
   ·rw[Heap.get?_push_ne _ _ _ he] at e;exact kp b o b1 b2 b3 b4 e) hf1
  refine⟨.ref s.heap.objs.size,_,I2,rfl,⟨_,x,y,rfl,I.fresh,rfl,λas bs ha hb=>⟨by rw[I.tuple_inj ha q1]; exact ex,by rw[I.tuple_inj hb q2]; exact ey⟩⟩,⟨z2,k2.extBut _ _ D.TIz S'.ti,?_,S'.a.extBut k2.extBut D.i1z,S'.b.extBut k2.extBut D.i2z⟩,λb hb=>(hf1 b hb).1⟩;obtain⟨pa,pb,e⟩:=S'.to;exact⟨pa,pb,k2.extBut _ _ D.TOz e⟩
 done:=by
  intro X hP hw hK hc i pins s σ H E I hf st hg;subst hP hw hK;obtain⟨xs,ys,q1,q2,e⟩:=hg;obtain⟨us,r1,p1,_⟩:=I.tuple q1;obtain⟨vs,r2,p2,_⟩:=I.tuple q2;have l1:=r1.length;have l2:=r2.length;refine fin (I.ok.hd hc) D st (show s.heap.IsTuple t1 us.toArray from p1) (show s.heap.IsTuple t2 vs.toArray from p2) (e.imp (λq=>by simp; omega) λq=>by simp; omega) λh' kp=>⟨rfl,I.turnedL (t':=s.toks) (λb o hb e =>?_) hf⟩
  simp only[List.mem_cons,List.not_mem_nil,or_false,not_or] at hb;exact kp b o hb.1 hb.2.1 hb.2.2.1 hb.2.2.2.1 e
 self:=λ_ _ _ _ _ st h=>wpAny_pyIter_zip st.z h
noncomputable def iZip (K:W.Frag)(ta:TA):TI:=λσ H R=>ta σ H λvs H1=>∃a b,vs=[.ref a,.ref b]/\(∃xs,SqT K H1 a xs)/\(∃ys,SqT K H1 b ys)/\R (Itz K a b) H1
section
variable {X:Cx}{es:List Expr}{kk:Nat}{tp:Pos}
theorem zhS {a b:Expr}{ta:TA}{p pos:Pos}(hg:Gl X "zip")(hm:X.mg "zip"=none)(ha:PA X [a,b] ta)(hs:starEach [a,b] X.env=[(false,eval a X.env),(false,eval b X.env)]:=by rfl)(hs2:starEach [b] X.env=[(false,eval b X.env)]:=by rfl):PI X (.Tuple es kk tp) (.Call (.Name "zip" p) [a,b] [] pos) (iZip X.K ta):=by
 intro pins s σ H R I h;refine Call_ (z9g I hg hm (show bootBuiltins "zip"=some (.type "zip") from rfl) (PyProof.Rows.callWith_type1 (thn (ha pos pins s σ H _ I h) λus s1 ⟨vs,H1,I1,r1,q1⟩ =>?_) (by rw[hs,hs2]) (by rw[hs2]; rfl)));obtain⟨t1,t2,e,⟨xs,q2⟩,⟨ys,q3⟩,q⟩:=q1;subst e
 cases r1 with
 | cons r rr=>
  cases rr with
  | cons r' rr=>
   cases rr
   cases (show _=Value.ref t1 from r)
   cases (show _=Value.ref t2 from r')
   obtain⟨us,rv1,p1,_⟩:=I1.tuple q2;obtain⟨vs,rv2,p2,_⟩:=I1.tuple q3;have l1:t1<s1.heap.objs.size:=by obtain⟨o,e,_⟩:=p1; exact Heap.lt_size e
   have l2:t2<s1.heap.objs.size:=by obtain⟨o,e,_⟩:=p2; exact Heap.lt_size e
   refine zk9 (show s1.heap.IsTuple t1 us.toArray from p1) (show s1.heap.IsTuple t2 vs.toArray from p2) λh' S kp =>?_;refine wpAny_pyIter_zip S.z ?_;have I2:Inv X pins σ H1 { s1 with heap:=h',toks:=s1.toks }:=I1.kept (t':=s1.toks) kp;refine⟨_,_,_,_,H1,rfl,I2,zds (zipApart_new l1 l2),S,λb hb =>?_,q⟩;have hb':s1.heap.objs.size<=b:=by
    simp only[List.mem_cons,List.not_mem_nil,or_false] at hb
    rcases hb with rfl | rfl | rfl | rfl | rfl
    ·exact Nat.le_add_right _ 4
    ·exact Nat.le_add_right _ 3
    ·exact Nat.le_refl _
    ·exact Nat.le_add_right _ 1
    ·exact Nat.le_add_right _ 2
   exact I1.fpOk hb' (I1.hok.fresh hb')
end
end Zp
namespace Pu
open PySem PySem.Spec PyProof.Rows L2 Zp
noncomputable def gZip (a b:D)(Q:DK):Prop:=match a,b with
 | .tup l,.tup m=>Q (.lst ((l.zip m).map λp =>.tup [p.1,p.2]))
 | _,_=>False
theorem zcY (a b:D)(Q Q':DK)(m:∀d,Q d->Q' d)(h:gZip a b Q):gZip a b Q':=by
 unfold gZip at h ⊢
 split at h
 ·exact m _ h
 ·exact h.elim
noncomputable def zdZ:Fn:=fn2 gZip zcY
theorem zdp {K:W.Frag}{mg:Str->Option Value}{G:Hp}{a b:Addr}{xs ys:List V}{l m:List D}(h1:SqT K G a xs)(h2:SqT K G b ys)(r1:RDs K mg G l xs)(r2:RDs K mg G m ys):Walk K mg G ((l.zip m).map λp =>.tup [p.1,p.2]) (Itz K a b):=λi G1 H g1 g2=>by
 have k1:=z1c (z07 g1 g2) h1;have k2:=z1c (z07 g1 g2) h2;refine⟨λd e =>?_,λhi=>⟨xs,ys,k1,k2,?_⟩⟩
 ·rw[List.getElem?_map,Option.map_eq_some_iff] at e;obtain⟨⟨d1,d2⟩,e,rfl⟩:=e;rw[List.getElem?_zip_eq_some] at e;obtain⟨v1,e1,rd1⟩:=r1.get e.1;obtain⟨v2,e2,rd2⟩:=r2.get e.2;refine⟨⟨xs,ys,v1,v2,k1,k2,e1,e2⟩,λv H' y =>?_⟩;obtain⟨p,x,y,rfl,hp,rfl,q⟩:=y;obtain⟨w1,w2⟩:=q xs ys k1 k2;rw[e1] at w1;rw[e2] at w2
  cases w1
  cases w2
  have gp:=z1d g2 hp;refine⟨z0B hp _,upd G1 p (.tup [v1,v2]),?_,?_,?_⟩
  ·exact Gr.new g2 hp
  ·intro c u e
   by_cases z:c=p
   ·subst z; rw[z0t] at e ⊢; exact e
   ·rw[z0f z] at e ⊢; exact g2 c u e
  ·exact RD.newT (RDs.cons (rd1.same g1) (RDs.cons (rd2.same g1) RDs.nil)) g2 hp
 ·simp only[List.length_map,List.length_zip] at hi;rw[r1.len,r2.len];omega
section
variable {X:Cx}{E:XK}
theorem zdO {es:List Expr}{kk:Nat}{tp p pos:Pos}{a b:Expr}{x y:Ex}(hg:Gl X "zip")(hm:X.mg "zip"=none)(ha:QXA X E [a,b] [x,y])(hs:starEach [a,b] X.env=[(false,eval a X.env),(false,eval b X.env)]:=by rfl)(hs2:starEach [b] X.env=[(false,eval b X.env)]:=by rfl):
  QXI X E (.Tuple es kk tp) (.Call (.Name "zip" p) [a,b] [] pos) (.op zdZ [x,y]):=QI.imp (⟨zhS hg hm ha.p hs hs2⟩:QI X (.Tuple es kk tp) (.Call (.Name "zip" p) [a,b] [] pos) _) λσ H R ⟨G,ρ,Q0,X0,hs,ab,hr,hz,hk,hx⟩=>by
 refine⟨G,ρ,_,X0,hs,ab,(show runs [x,y] ρ (λds=>zdZ.run ds Q0 X0) X0 from hr),λds vs G1 H1 q g1 g2 g3 rds =>?_,hx⟩
 match ds,q,rds with
 | [d1,d2],q,rds=>
  have q':gZip d1 d2 Q0:=q;unfold gZip at q'
  split at q'
  ·rw[RDs] at rds;obtain⟨v1,r1,rfl,h1,h2⟩:=rds;rw[RDs] at h2;obtain⟨v2,r2,rfl,h2,h3⟩:=h2;rw[RDs] at h3;subst h3;obtain⟨a1,xs,rfl,s1,w1⟩:=z2n h1;obtain⟨a2,ys,rfl,s2,w2⟩:=z2n h2;exact⟨a1,a2,rfl,⟨xs,z1c g2 s1⟩,⟨ys,z1c g2 s2⟩,hk _ G1 H1 q' g1 g2 g3 _ _ rfl (zdp s1 s2 w1 w2)⟩
  ·exact q'.elim
end
end Pu
namespace Pu
open PySem L2
noncomputable def z2e:Fn:=Fn.mkN 2 4 (.seq (.set 2 (.op pGt [(.v 0),(.op pTup [(.c (.int 0)),(.c (.int 0))])]))
 (.seq (.set 3 (.op pGt [(.v 1),(.op pTup [(.c (.int 0)),(.c (.int 0))])]))
 (.seq (.ifs (.op pNe [(.v 2),(.v 3)]) (.ret (.v 2)) .skip)
 (.ret (.op pGt [(.op z2M [(.v 0),(.v 1)]),(.c (.int 0))])))))
noncomputable def z1w:Fn:=Fn.mkN 2 5 (.seq (.own 2 (.op pLst []))
 (.seq (.set 3 (.c (.int 0)))
 (.seq (.for_ [] (.nm 4) (.v 1) (.seq (.wh (.and (.op pLt [(.v 3),(.op pLen [(.v 0)])]) (.op z2e [(.op pIx [(.v 0),(.v 3)]),(.v 4)])) (.seq (.app 2 (.op pIx [(.v 0),(.v 3)]))
 (.set 3 (.op pAdd [(.v 3),(.c (.int 1))]))))
 (.app 2 (.v 4))))
 (.ret (.op pAdd [(.v 2),(.sl (.v 0) (some (.v 3)) none)])))))
noncomputable def z1q:Fn:=Fn.mkN 2 3 (.seq (.ifs (.op pEq [(.op pLen [(.v 0)]),(.c (.int 1))]) (.ret (.op pLst [])) .skip)
 (.seq (.set 2 (.op pAdd [(.sl (.v 0) (some (.c (.int 1))) none),(.sl (.v 0) none (some (.c (.int 1))))]))
 (.ret (.comp 2 [1] (.tp [0,1]) (.op zdZ [(.v 0),(.v 2)]) none (.callv zd3 2 [(.v 0),(.v 1)])))))
noncomputable def z3H:Fn:=Fn.mkN 2 7 (.seq (.set 2 (.op z0G [(.v 0)]))
 (.seq (.set 3 (.op z0G [(.v 1)]))
 (.seq (.set 4 (.op z1a [(.op pIx [(.v 2),(.c (.int 0))]),(.op pIx [(.v 3),(.c (.int 0))])]))
 (.seq (.own 5 (.op pLst [(.v 4)]))
 (.seq (.for_ [] (.nm 6) (.op z1w [(.op z1q [(.v 2),(.c (.fn 2))]),(.op z1q [(.v 3),(.c (.fn 2))])]) (.seq (.set 4 (.op z1a [(.v 4),(.v 6)]))
 (.app 5 (.v 4))))
 (.ret (.op z0G [(.v 5)])))))))
noncomputable def z19:Fn:=Fn.mkN 2 4 (.seq (.own 2 (.op pLst []))
 (.seq (.for_ [] (.nm 3) (.v 0) (.ext 2 (.comp 1 [3] (.nm 0) (.v 1) none (.op pTup [(.op pAdd [(.op pIx [(.v 1),(.c (.int 0))]),(.op pIx [(.v 0),(.c (.int 0))])]),(.op pAdd [(.op pIx [(.v 1),(.c (.int 1))]),(.op pIx [(.v 0),(.c (.int 1))])])]))))
 (.ret (.v 2))))
end Pu
namespace Pu
open PySem PySem.Spec PyProof.Rows L2 Tab
end Pu
namespace Pu
open PySem L2
end Pu
namespace Geo
noncomputable def Hd (l h:List P):Prop:=∃rl:List P,rl.Pairwise Lx/\(∀p,p∈rl↔p∈l)/\h=hull rl
theorem Hd.is {l h:List P}(x:Hd l h)(hn:l≠[]):z0n (· ∈ l) h:=by
 obtain⟨rl,h1,h2,rfl⟩:=x;have hne:rl≠[]:=λz=>by
  cases l with
  | nil=>exact hn rfl
  | cons p l=>have:=(h2 p).mpr (by simp); rw[z] at this; cases this
 have:=zgz hne h1;have e:(λp=>p∈rl)=λp=>p∈l:=funext λp=>propext (h2 p);rw[e] at this;exact this
theorem z8k {R:P->P->Prop}:∀{l:List P}{i:Nat}{a b:P},Path R l->l[i]? = some a->l[i+1]? = some b->R a b
 | [],_,_,_,_,e,_=>by simp at e
 | [_],i,_,_,_,e,f=>by simp at f
 | x::y::r,0,a,b,h,e,f=>by
  simp at e f;subst e; subst f;exact h.1
 | x::y::r,i+1,a,b,h,e,f=>z8k (l:=y::r) (i:=i) h.2 (by simpa using e) (by simpa using f)
theorem z5a {R:P->P->Prop}:∀{u v:List P},Path R (u++v)->Path R v
 | [],_,h=>h
 | [x],[],_=>trivial
 | [x],y::v,h=>h.2
 | x::y::u,v,h=>z5a (u:=y::u) h.2
theorem z7S {R:P->P->Prop}(det:∀a b c,R a b->R a c->b=c){m:P}:∀{t:List P},m ∉ t->Path R (t++[m])->t.Nodup
 | [],_,_ =>.nil
 | a::t,hm,h=>by
  rw[List.nodup_cons];have hm':m ∉ t:=λz=>hm (List.mem_cons_of_mem _ z);refine⟨λha =>?_,z7S det hm' (z5a (u:=[a]) h)⟩;obtain⟨u,v,e⟩:=List.append_of_mem ha;have h2:Path R (a::v++[m]):=by
   have:Path R ((a::u)++(a::v++[m])):=by rw[e] at h; simpa using h
   exact z5a this
  have hv:m ∉ v:=λz=>hm' (by rw[e]; simp[z]);have:=z4L det hm' hv h h2;have:=congrArg List.length this;rw[e] at this;simp at this;lia
theorem z0n.nodup {S:P->Prop}{h:List P}(x:z0n S h):h.Nodup:=by
 obtain⟨m,t,rfl,h1,h2,h3,h4⟩:=x.ex
 rcases h4 with ⟨rfl,_⟩ | ⟨_,h4⟩
 ·simp
 ·rw[List.nodup_cons];exact⟨h3,z7S (λa b c e f=>e.det f) h3 (z5a (u:=[m]) h4)⟩
theorem z0n.sub {S:P->Prop}{h:List P}(x:z0n S h):∀p∈h,S p:=by
 obtain⟨m,t,rfl,h1,h2,h3,h4⟩:=x.ex
 rcases h4 with ⟨rfl,_⟩ | ⟨ht,h4⟩
 ·intro p hp;simp at hp;subst hp; exact h1
 ·intro p hp;obtain⟨i,hi,e⟩:=List.mem_iff_getElem.mp hp;have h5:(m::t++[m])[i]? = some p:=by rw[List.getElem?_append_left hi,List.getElem?_eq_getElem hi,e]
  have hi2:i+1<(m::t++[m]).length:=by simp at hi ⊢; lia
  exact(z8k h4 h5 (List.getElem?_eq_getElem hi2)).sa
theorem z7i {S:P->Prop}{a b c:P}(e:Edge S a b)(f:Edge S b c)(h:a≠c):0<cr a b c:=by
 have h0:=e.left c f.sb
 rcases Int.lt_or_eq_of_le h0 with z | z
 ·exact z
 exfalso
 have z1:cr a b c=0:=z.symm;have z2:cr b c a=0:=by rw[<- z1]; unfold cr; grind
 obtain⟨p1,p2⟩:=e.btw c f.sb z1;obtain⟨q1,q2⟩:=f.btw a e.sa z2;have hab:=e.ne;have hbc:=f.ne;obtain⟨a1,a2⟩:=a;obtain⟨b1,b2⟩:=b;obtain⟨c1,c2⟩:=c;simp only[cr,dot] at*;generalize hu1:b1 - a1=u1 at*;generalize hu2:b2 - a2=u2 at*;generalize hv1:c1 - a1=v1 at*;generalize hv2:c2 - a2=v2 at*;have e1:(c1 - b1)*(a1 - b1)+(c2 - b2)*(a2 - b2)=(u1*u1+u2*u2) - (u1*v1+u2*v2):=by
  have:c1 - b1=v1 - u1:=by lia
  have:c2 - b2=v2 - u2:=by lia
  have:a1 - b1 = -u1:=by lia
  have:a2 - b2 = -u2:=by lia
  grind
 have e2:(a1 - c1)*(b1 - c1)+(a2 - c2)*(b2 - c2)=(v1*v1+v2*v2) - (u1*v1+u2*v2):=by
  have:a1 - c1 = -v1:=by lia
  have:a2 - c2 = -v2:=by lia
  have:b1 - c1=u1 - v1:=by lia
  have:b2 - c2=u2 - v2:=by lia
  grind
 rw[e1] at p2;rw[e2] at q2;have lag:(u1*v1+u2*v2)*(u1*v1+u2*v2)=(u1*u1+u2*u2)*(v1*v1+v2*v2):=by
  have:(u1*u1+u2*u2)*(v1*v1+v2*v2) - (u1*v1+u2*v2)*(u1*v1+u2*v2)=(u1*v2 - u2*v1)*(u1*v2 - u2*v1):=by grind
  rw[z1] at this;lia
 have hd:0<=u1*v1+u2*v2:=by
  have:(v1*u1+v2*u2)=u1*v1+u2*v2:=by grind
  lia
 generalize hD:u1*v1+u2*v2=d at*;generalize hU:u1*u1+u2*u2=uu at*;generalize hV:v1*v1+v2*v2=vv at*;have uun:0<=uu:=by have:=z0l u1; have:=z0l u2; lia
 have vvn:0<=vv:=by have:=z0l v1; have:=z0l v2; lia
 have duu:d*d<=uu*d:=Int.mul_le_mul_of_nonneg_right (by lia) hd;have dvv:uu*d<=uu*vv:=Int.mul_le_mul_of_nonneg_left (by lia) uun;have hz1:uu*(vv - d)=0:=by
  have:uu*(vv - d)=uu*vv - uu*d:=by grind
  omega
 rcases Int.mul_eq_zero.mp hz1 with z | z
 ·obtain⟨k1,k2⟩:=z4P (hU.trans z);exact hab (Prod.ext (by show a1=b1; lia) (by show a2=b2; lia))
 ·have hvd:vv=d:=by lia
  have hz2:d*(uu - d)=0:=by
   have:d*(uu - d)=uu*d - d*d:=by grind
   rw[hvd] at lag;omega
  rcases Int.mul_eq_zero.mp hz2 with z | z
  ·have hv0:v1*v1+v2*v2=0:=by lia
   obtain⟨k1,k2⟩:=z4P hv0;exact h (Prod.ext (by show a1=c1; lia) (by show a2=c2; lia))
  ·have hw:(u1 - v1)*(u1 - v1)+(u2 - v2)*(u2 - v2)=0:=by
    have:(u1 - v1)*(u1 - v1)+(u2 - v2)*(u2 - v2)=(u1*u1+u2*u2) - 2*(u1*v1+u2*v2)+(v1*v1+v2*v2):=by grind
    lia
   obtain⟨k1,k2⟩:=z4P hw;exact hbc (Prod.ext (by show b1=c1; lia) (by show b2=c2; lia))
end Geo
local macro_rules | `(tactic| walk_at "bt") => `(tactic| first | assumption | (refine L2.Bt.add ?_ ?_ <;> walk_at "bt") | (refine L2.Bt.sub ?_ ?_ <;> walk_at "bt") | (refine L2.Bt.mul ?_ ?_ <;> walk_at "bt") | (refine L2.Bt.neg ?_; walk_at "bt") | exact L2.bt_k (by decide +kernel) | exact L2.bt_n (by omega) (by omega))
local macro_rules | `(tactic| walk_at "mu") => `(tactic| exact⟨L2.Bt.le (by walk_at "bt") (by decide),L2.Bt.le (by walk_at "bt") (by decide)⟩)
local macro_rules | `(tactic| walk_at "ps") => `(tactic| first | assumption | decide | omega)
local macro_rules | `(tactic| walk_at "bb") => `(tactic| first | exact L2.zb2 (by decide) (by decide) | exact L2.Bt.le (by walk_at "bt") (by decide) | exact L2.zb2 (by omega) (by omega))
local macro_rules | `(tactic| walk_at "sf") => `(tactic| first | exact Pu.Safe.of_noL rfl rfl _ | exact Pu.Safe.of_noL (Pu.z3A _) (Pu.z3B _) _ | (repeat (first | exact trivial | refine⟨trivial,?_⟩)) | assumption)
local macro_rules | `(tactic| walk_at "en") => `(tactic| try simp only[List.set_cons_zero,List.set_cons_succ,List.map_cons,List.map_nil,List.replicate,List.cons_append,List.nil_append,Nat.reduceSub,Pu.dem,Pu.vis,Pu.visB,Pu.demB,List.getElem?_cons_zero,List.getElem?_cons_succ,Option.getD_some,Pu.z1s,List.replicate_succ,List.replicate_zero])
local macro_rules | `(tactic| walk_at "st") => `(tactic| first
 | with_reducible refine Pu.e_c ?_
 | ((with_reducible refine Pu.e_v ?_); (refine Pu.zcA ?_))
 | with_reducible refine Pu.zk1 ?_
 | with_reducible refine Pu.zk2 ?_
 | with_reducible refine Pu.zk0 ?_
 | with_reducible refine Pu.zjZ ?_
 | with_reducible refine Pu.zjY ?_
 | with_reducible refine Pu.zfG ?_
 | with_reducible refine Pu.zhh ?_
 | with_reducible refine Pu.zjP ?_
 | with_reducible refine Pu.zjI ?_
 | with_reducible refine Pu.zjK ?_
 | ((with_reducible refine Pu.zjL ?_ ?_); (focus walk_at "mu"))
 | ((with_reducible refine Pu.ziF ?_ ?_ ?_); (focus walk_at "ps"); (focus walk_at "bb"))
 | ((with_reducible refine Pu.zf0 ?_ ?_); (focus walk_at "ps"))
 | ((with_reducible refine Pu.zjJ ?_ ?_); (focus exact⟨by decide,by decide,by decide⟩))
 | ((with_reducible refine Pu.zjN ?_); (try refine Pu.zcA ?_))
 | ((with_reducible refine Pu.zjO ?_); (try refine Pu.zcA ?_))
 | with_reducible refine Pu.o_lt ?_
 | with_reducible refine Pu.o_le ?_
 | with_reducible refine Pu.o_gt ?_
 | with_reducible refine Pu.o_ge ?_
 | with_reducible refine Pu.o_eq ?_
 | with_reducible refine Pu.o_ne ?_
 | with_reducible refine Pu.o_is ?_
 | with_reducible refine Pu.zgl ?_
 | with_reducible refine Pu.ziv ?_
 | with_reducible refine Pu.ziu ?_
 | ((with_reducible refine Pu.zjH ?_ ?_); (focus (simp only[List.length_cons,List.length_nil]; decide)))
 | ((with_reducible refine Pu.zjM ?_ ?_); (focus (simp only[List.length_cons,List.length_nil]; decide)))
 | with_reducible refine Pu.zin ?_
 | with_reducible refine Pu.zim ?_
 | with_reducible refine Pu.zit ?_
 | with_reducible refine Pu.zis ?_
 | with_reducible refine Pu.zjQ ?_
 | with_reducible refine Pu.ziC ?_
 | with_reducible refine Pu.ziD ?_
 | with_reducible refine Pu.ziA ?_
 | with_reducible refine Pu.ziB ?_
 | with_reducible refine Pu.ziw ?_
 | with_reducible refine Pu.ziz ?_
 | with_reducible refine Pu.zix ?_
 | with_reducible refine Pu.ziy ?_
 | with_reducible refine Pu.zir ?_
 | with_reducible refine Pu.ziq ?_
 | with_reducible refine Pu.zk5 ?_
 | with_reducible refine Pu.e_or ?_
 | with_reducible refine Pu.zk3 ?_
 | with_reducible refine Pu.n_bl ?_
 | with_reducible refine Pu.zk4 ?_
 | with_reducible refine Pu.ziY ?_
 | with_reducible refine Pu.zjV ?_
 | with_reducible refine Pu.zjU ?_
 | with_reducible refine Pu.e_sl ?_
 | with_reducible refine Pu.zjX ?_
 | with_reducible refine Pu.zi4 ?_
 | with_reducible refine Pu.zi3 ?_
 | with_reducible refine Pu.ziV ?_
 | with_reducible refine Pu.zkb ?_
 | with_reducible refine Pu.zka ?_
 | with_reducible refine Pu.z6B ?_
 | with_reducible refine Pu.z4N ?_
 | with_reducible refine Pu.zbc ?_
 | with_reducible refine Pu.zjc ?_
 | with_reducible refine Pu.zfC ?_
 | with_reducible refine Pu.zha ?_
 | with_reducible refine Pu.s_if ?_
 | with_reducible refine Pu.zjd ?_
 | with_reducible refine Pu.zhb ?_
 | with_reducible refine Pu.zh9 ?_
 | with_reducible refine Pu.s_ex ?_
 | with_reducible refine Pu.zfB ?_
 | with_reducible refine Pu.zhe ?_
 | ((with_reducible refine Pu.zje ?_); (walk_at "en"))
 | with_reducible refine Pu.zfF ?_
 | with_reducible refine Pu.zfE ?_
 | ((with_reducible refine Pu.z3i ?_ ?_); (focus walk_at "sf"); (walk_at "en"))
 | ((with_reducible refine Pu.zk8 ?_); (walk_at "en"))
 | ((with_reducible refine Pu.zj2 ?_); (walk_at "en")))
local macro_rules | `(tactic| walk_at "go") => `(tactic| repeat walk_at "st")
local macro_rules | `(tactic| walk_at "fn") => `(tactic| ((refine Pu.zjg rfl ?_); (walk_at "en")))
local macro_rules | `(tactic| walk_at "fe") => `(tactic| ((refine Pu.zjh rfl ?_); (walk_at "en")))
namespace Pu
open PySem L2
theorem szl {n:Nat}(h:n<=1000000):n<=sizeLine:=Nat.le_trans h (by decide)
theorem szl' {n:Nat}(h:n<=1000000):n<sizeLine:=Nat.lt_of_le_of_lt h (by decide)
noncomputable abbrev Vb (n:Nat)(p:Int × Int):Prop:=Bt n p.1/\Bt n p.2
noncomputable abbrev Wb (n:Nat)(l:List (Int × Int)):Prop:=∀p∈l,Vb n p
theorem Vb.le {m n:Nat}{p:Int × Int}(h:Vb m p)(q:m<=n:=by decide):Vb n p:=⟨h.1.le q,h.2.le q⟩
theorem Wb.le {m n:Nat}{l:List (Int × Int)}(h:Wb m l)(q:m<=n:=by decide):Wb n l:=λp hp=>(h p hp).le q
theorem s_turn_of {p r:Int × Int}{Q:DK}{X:XP}(h1:Vb 30000000 p)(h2:Vb 30000000 r)(q:Q (.int (p.1*r.2 - p.2*r.1))):z2M.run [vec p,vec r] Q X:=by
 obtain⟨a1,a2⟩:=h1;obtain⟨b1,b2⟩:=h2;walk_at "fn";walk_at "go";exact q
theorem s_step_of {p r:Int × Int}{Q:DK}{X:XP}(q:Q (vec (r.1 - p.1,r.2 - p.2))):z2d.run [vec p,vec r] Q X:=by
 walk_at "fn";walk_at "go";exact q
theorem Vb.step {p r:Int × Int}(h:Vb 20000000 p)(k:Vb 20000000 r):Vb 30000000 (r.1 - p.1,r.2 - p.2):=⟨(Bt.sub k.1 h.1).le,(Bt.sub k.2 h.2).le⟩
theorem s_turn_by {a b c:Int × Int}{Q:DK}{X:XP}(h1:Vb 20000000 a)(h2:Vb 20000000 b)(h3:Vb 20000000 c)(q:Q (.int (Geo.cr a b c))):z4j.run [vec a,vec b,vec c] Q X:=by
 walk_at "fn";walk_at "go";refine s_step_of ?_;walk_at "go";refine s_step_of ?_;refine s_turn_of (h1.step h2) (h2.step h3) ?_;have e:(b.1 - a.1)*(c.2 - b.2) - (b.2 - a.2)*(c.1 - b.1)=Geo.cr a b c:=by unfold Geo.cr; grind
 dsimp only;rw[e];exact q
theorem zd5 {T:Nat->Fn}{i n:Nat}{es:List Ex}{ρ:Pu.Env}{Q:DK}{X:XP}(h:ρ.get i=some (.fn n))(q:runs es ρ (λds=>(T n).run ds Q X) X):(Ex.callv T i es).run ρ Q X:=⟨n,h,q⟩
theorem zcB {l:List D}{Q:DK}{X:XP}(q:Q (.lst l.reverse)):z24.run [.lst l] Q X:=q
theorem zfk {α:Type}{b:α}{r:List α}:atI (b::r).reverse (-1)=some b:=by
 unfold atI ixN;rw[if_neg (by decide),List.length_reverse,List.length_cons,if_pos (by lia)];show (b::r).reverse[((-1:Int)+((r.length+1:Nat):Int)).toNat]? = some b;rw[show ((-1:Int)+((r.length+1:Nat):Int)).toNat=r.length by lia];simp
theorem zdm {α:Type}{a b:α}{r:List α}:atI (b::a::r).reverse (-2)=some a:=by
 unfold atI ixN;rw[if_neg (by decide),List.length_reverse,List.length_cons,List.length_cons,if_pos (by lia)];show (b::a::r).reverse[((-2:Int)+((r.length+1+1:Nat):Int)).toNat]? = some a;rw[show ((-2:Int)+((r.length+1+1:Nat):Int)).toNat=r.length by lia];simp
theorem s_chain_of {l:List (Int × Int)}{Q:DK}{X:XP}(hb:Wb 20000000 l)(hz:l.length<=100000)(q:Q (.lst ((Geo.z1j l).reverse.map vec))):z2A.run [.lst (l.map vec),.fn 0] Q X:=by
 walk_at "fn";refine zbc (zfC ?_);walk_at "go";refine z2D (λx hx=>by cases hx) ?_;walk_at "en";walk_at "go";refine z2w (f:=vec) (λdn ρ=>∃(st:List (Int × Int)) (x:B),st=Geo.z1j dn/\(∀p∈st,p∈l)/\st.length<=dn.length/\ρ=[.s (.lst (l.map vec)),.s (.fn 0),.o (.lst (st.reverse.map vec)),x]) ⟨[],_,rfl,(λp hp=>by cases hp),Nat.le_refl _,rfl⟩ ?_ ?_
 ·rintro dn v r ρ e ⟨st,x,hst,hsub,hlen,rfl⟩;have hv:v∈l:=by rw[e]; simp
  show Sm.run _ _ _ _ _;walk_at "en";refine Sm.cut (λρ=>∃st':List (Int × Int),st'=Geo.pops v st/\(∀p∈st',p∈l)/\st'.length<=dn.length/\ρ=[.s (.lst (l.map vec)),.s (.fn 0),.o (.lst (st'.reverse.map vec)),.s (vec v)]) ?_ ?_
  ·refine z8P (λρ=>∃st':List (Int × Int),Geo.pops v st'=Geo.pops v st/\(∀p∈st',p∈l)/\st'.length<=dn.length/\ρ=[.s (.lst (l.map vec)),.s (.fn 0),.o (.lst (st'.reverse.map vec)),.s (vec v)]) (λρ=>match ρ with | [_,_,.o (.lst k),_]=>k.length | _=>0) ⟨st,rfl,hsub,hlen,rfl⟩ ?_;rintro ρ ⟨st',h1,h2,h3,rfl⟩;walk_at "go"
   match st',h1,h2,h3 with
   | [],h1,h2,h3=>
    refine t_no (by simp) ?_;refine z4N ?_;exact⟨[],by rw[<- h1]; rfl,h2,h3,rfl⟩
   | [b],h1,h2,h3=>
    refine t_no (by simp) ?_;refine z4N ?_;exact⟨[b],by rw[<- h1]; rfl,h2,h3,rfl⟩
   | b::a::r,h1,h2,h3=>
    refine zdv (by simp; lia) ?_;walk_at "go";refine zd5 rfl ?_;walk_at "go";refine z2S (z1H zdm) ?_;walk_at "go";refine z2S (z1H zfk) ?_;walk_at "go";have hB:∀p,p∈l->Vb 20000000 p:=hb;refine s_turn_by (hB a (h2 a (by simp))) (hB b (h2 b (by simp))) (hB v hv) ?_;walk_at "go";refine z3s (λhc =>?_) (λhc =>?_)
    ·refine zhc (z1M rfl ?_);unfold popL;rw[List.length_map,List.length_reverse,List.getElem?_map,show (b::a::r).reverse[(b::a::r).length - 1]? = some b by simp];refine⟨⟨a::r,?_,λp hp=>h2 p (List.mem_cons_of_mem _ hp),by simp at h3 ⊢; lia,?_⟩,?_⟩
     ·rw[<- h1];show _=Geo.pops v (b::a::r);rw[Geo.pops,if_pos hc]
     ·simp
     ·simp
    ·exact⟨b::a::r,by rw[<- h1,Geo.pops,if_neg hc],h2,h3,rfl⟩
  ·rintro ρ ⟨st',h1,h2,h3,rfl⟩;refine z8Z (l:=[]) (z1M rfl ?_);walk_at "go";have hdl:dn.length<l.length:=by rw[e]; simp
   refine⟨by simp; exact szl' (by lia),Safe.of_noL rfl rfl _,?_⟩;walk_at "en";refine⟨v::st',.s (vec v),?_,λp hp =>?_,by simp; lia,by simp⟩
   ·unfold Geo.z1j at hst ⊢;rw[List.foldl_append, <- hst,h1]
    rfl
   ·rcases List.mem_cons.mp hp with rfl | hp
    ·exact hv
    ·exact h2 p hp
 rintro ρ ⟨st,x,hst,hsub,hlen,rfl⟩;walk_at "go";rw[hst];exact q
theorem z8F {α:Type}(l:List α):(l.drop (HT.sIx l.length 0 none)).take (HT.sIx l.length l.length (some (-1)) - HT.sIx l.length 0 none)=l.dropLast:=by
 rw[List.dropLast_eq_take];show (l.drop 0).take ((if (-1:Int)<0 then ((-1:Int)+(l.length:Int)).toNat else min (-1:Int).toNat l.length) - 0)=_;rw[if_pos (by decide),List.drop_zero]
 congr 1
 lia
theorem s_least_round {l:List (Int × Int)}{Q:DK}{X:XP}(hb:Wb 20000000 l)(hz:l.length<=100000)(q:Q (vecs (Geo.hull l))):z1V.run [.lst (l.map vec),.fn 0] Q X:=by
 walk_at "fn";walk_at "go";rw[List.length_map];refine z3s (λh =>?_) (λh =>?_)
 ·walk_at "go";rw[Geo.hull,if_pos (by lia)] at q;exact q
 walk_at "go";refine s_chain_of hb hz ?_;have c1:∀(l:List (Int × Int)) (s:List (Int × Int)),(l.foldl (λs v=>v::Geo.pops v s) s).length<=l.length+s.length:=by
  have c0:∀(v:Int × Int) (s:List (Int × Int)),(Geo.pops v s).length<=s.length:=by
   intro v s
   induction s with
   | nil=>exact Nat.le_refl _
   | cons b s ih=>
    cases s with
    | nil=>exact Nat.le_refl _
    | cons a s=>
     rw[Geo.pops]
     split
     ·exact Nat.le_succ_of_le ih
     ·exact Nat.le_refl _
  intro l
  induction l with
  | nil=>intro s; simp
  | cons v l ih=>
   intro s;rw[List.foldl_cons];have:=ih (v::Geo.pops v s);have:=c0 v s;simp only[List.length_cons] at*;lia
 have c2:(Geo.z1j l).length<=l.length:=Nat.le_trans (c1 l []) (Nat.le_refl _);have c3:(Geo.z1j l.reverse).length<=l.length:=Nat.le_trans (c1 l.reverse []) (by simp);refine z3i ?_ ?_
 ·exact⟨trivial,trivial,trivial,trivial,trivial⟩
 walk_at "en";walk_at "go";refine zcB ?_;walk_at "go";rw[<- List.map_reverse];refine s_chain_of (λp hp=>hb p (by simpa using hp)) (by simpa using hz) ?_;refine z3i ⟨trivial,trivial,trivial,trivial,trivial⟩ ?_;walk_at "en";walk_at "go";rw[z3f,z3f,z8F,z8F];refine zaL (by simp; exact szl (by lia)) ?_;walk_at "go";rw[<- List.map_append];rw[Geo.hull,if_neg (by lia)] at q;exact q
theorem zf9 {a b:Int × Int}:HT.z0r [a.1,a.2] [b.1,b.2]=true↔Geo.Lx a b:=by
 rw[HT.z1o,HT.z1o];unfold Geo.Lx
 split
 ·rename_i h
  split
  ·rename_i h'
   rw[HT.z2t]
   constructor
   ·intro z; cases z
   ·rintro(z | z) <;> lia
  ·simp; lia
 ·simp; lia
noncomputable def pk (p:Int × Int):List Int:=[p.1,p.2]
theorem zeU {p r:Int × Int}(h:pk p=pk r):p=r:=by
 unfold pk at h
 injection h with h1 h2
 injection h2 with h2 _
 exact Prod.ext h1 h2
theorem zav:∀{ks kl:List (List Int)}{l:List (Int × Int)},ks=l.map pk->Rows ks kl->∃rl:List (Int × Int),kl=rl.map pk/\rl.Pairwise Geo.Lx/\∀p,p∈rl↔p∈l:=by
 intro ks kl l e h;have h1:∀k∈kl,∃p,k=pk p:=λk hk=>by
  have:=(h.mem k).mp hk;rw[e] at this;obtain⟨p,_,rfl⟩:=List.mem_map.mp this;exact⟨p,rfl⟩
 have h2:∃rl:List (Int × Int),kl=rl.map pk:=by
  clear h e
  induction kl with
  | nil=>exact⟨[],rfl⟩
  | cons k kl ih=>
   obtain⟨p,hp⟩:=h1 k List.mem_cons_self;obtain⟨rl,hr⟩:=ih λk hk=>h1 k (List.mem_cons_of_mem _ hk);exact⟨p::rl,by rw[hp,hr]; rfl⟩
 obtain⟨rl,rfl⟩:=h2;refine⟨rl,rfl,?_,λp =>?_⟩
 ·have:=h.up;rw[List.pairwise_map] at this;exact this.imp λz=>zf9.mp z
 ·have:=h.mem (pk p);rw[e] at this
  constructor
  ·intro hp;obtain⟨r,hr,er⟩:=List.mem_map.mp (this.mp (List.mem_map.mpr ⟨p,hp,rfl⟩));rw[<- zeU er]; exact hr
  ·intro hp;obtain⟨r,hr,er⟩:=List.mem_map.mp (this.mpr (List.mem_map.mpr ⟨p,hp,rfl⟩));rw[<- zeU er]; exact hr
noncomputable def Vs (d:D)(l:List (Int × Int)):Prop:=d = .tup (l.map vec)\/d = .lst (l.map vec)
theorem zal (l:List (Int × Int)):l.map vec=(l.map pk).map tupD:=by rw[List.map_map]; rfl
theorem Vs.set {d:D}{l:List (Int × Int)}{P:List (List Int)->Prop}(h:Vs d l)(hz:l.length<=2040)(q:P (l.map pk)):zc4 d P:=by
 rcases h with rfl | rfl
 ·exact⟨l.map pk,zal l,by simpa using hz,q⟩
 ·exact⟨l.map pk,zal l,by simpa using hz,q⟩
theorem s_least_headings {d:D}{l:List (Int × Int)}{Q:DK}{X:XP}(hd:Vs d l)(hb:Wb 20000000 l)(hz:l.length<=2040)(q:∀h,Geo.Hd l h->Q (vecs h)):z0G.run [d] Q X:=by
 walk_at "fn";walk_at "go";refine hd.set hz ⟨λk hk =>?_,λkl h =>?_⟩
 ·obtain⟨p,_,rfl⟩:=List.mem_map.mp hk;unfold pk;simp
 obtain⟨rl,rfl,h1,h2⟩:=zav rfl h;walk_at "go";rw[<- zal];have nd:rl.Nodup:=h1.imp λz=>z.ne;have hl:rl.length<=l.length:=z1v nd λx hx=>(h2 x).mp hx;exact s_least_round (λp hp=>hb p ((h2 p).mp hp)) (by lia) (q _ ⟨rl,h1,h2,rfl⟩)
noncomputable def dot (p r:Int × Int):Int:=p.1*r.1+p.2*r.2
end Pu
namespace Geo
theorem z0n.cyc {S:P->Prop}{h:List P}(x:z0n S h)(hl:2<=h.length){j:Nat}(hj:j<h.length){a b:P}(ea:h[(j+h.length - 1) % h.length]? = some a)(eb:h[j]? = some b):Edge S a b:=by
 obtain⟨m,t,rfl,h1,h2,h3,h4⟩:=x.ex
 rcases h4 with ⟨rfl,_⟩ | ⟨_,h4⟩
 ·simp at hl
 cases j with
 | zero=>
  rw[show (0+(m::t).length - 1) % (m::t).length=(m::t).length - 1 by rw[Nat.zero_add]; exact Nat.mod_eq_of_lt (by lia)] at ea;simp at eb;subst eb;refine z8k (i:=(m::t).length - 1) h4 ?_ ?_
  ·rw[List.getElem?_append_left (by lia)]; exact ea
  ·rw[show (m::t).length - 1+1=(m::t).length by lia,List.getElem?_append_right (Nat.le_refl _)]; simp
 | succ j=>
  rw[show (j+1+(m::t).length - 1) % (m::t).length=j by rw[show j+1+(m::t).length - 1=j+(m::t).length by lia,Nat.add_mod_right]; exact Nat.mod_eq_of_lt (by lia)] at ea;refine z8k (i:=j) h4 ?_ ?_
  ·rw[List.getElem?_append_left (by lia)]; exact ea
  ·rw[List.getElem?_append_left hj]; exact eb
end Geo
namespace Geo
noncomputable def In (h:List P)(p:P):Prop:=match h with
 | []=>False
 | [m]=>p=m
 | [a,b]=>cr a b p=0/\0<=dot a b p/\0<=dot b a p
 | h=>∀j a b,j<h.length->h[(j+h.length - 1) % h.length]? = some a->h[j]? = some b->0<=cr a b p
theorem In.three {h:List P}{p:P}(hl:3<=h.length):In h p↔∀j a b,j<h.length->h[(j+h.length - 1) % h.length]? = some a->h[j]? = some b->0<=cr a b p:=by
 match h,hl with
 | a::b::c::r,_=>exact Iff.rfl
theorem z0n.in {S:P->Prop}{h:List P}(x:z0n S h){p:P}(hp:S p):In h p:=by
 match h,x with
 | [],x=>obtain⟨m,t,e,_⟩:=x.ex; cases e
 | [m],x=>
  obtain⟨m',t,e,h1,h2,h3,h4⟩:=x.ex
  cases e
  rcases h4 with ⟨_,h4⟩ | ⟨h4,_⟩
  ·exact h4 p hp
  ·exact absurd rfl h4
 | [a,b],x=>
  have e1:Edge S a b:=x.cyc (j:=1) (by simp) (by simp) (by simp) rfl;have e2:Edge S b a:=x.cyc (j:=0) (by simp) (by simp) (by simp) rfl;have z0:cr b a p = -cr a b p:=by unfold cr; grind
  have z:cr a b p=0:=by have:=e1.left p hp; have:=e2.left p hp; lia
  exact⟨z,e1.btw p hp z⟩
 | a::b::c::r,x=>exact λj y z hj ey ez=>(x.cyc (by simp) hj ey ez).left p hp
noncomputable def cy (h:List P)(i:Nat):P:=h.getD (i % h.length) (0,0)
theorem z3q {h:List P}{i:Nat}(hl:0<h.length):h[i % h.length]? = some (cy h i):=by
 unfold cy;have:=Nat.mod_lt i hl;rw[List.getD_eq_getElem?_getD,List.getElem?_eq_getElem this]
 rfl
theorem z7Z {h:List P}{i:Nat}(hl:0<h.length):cy h i∈h:=List.mem_of_getElem? (z3q hl)
theorem z8i {i n:Nat}(hn:0<n):((i+1) % n+n - 1) % n=i % n:=by
 have hr:=Nat.mod_lt i hn;have e:(i+1) % n=(i % n+1) % n:=by simp
 rw[e]
 rcases Nat.lt_or_ge (i % n+1) n with z | z
 ·rw[Nat.mod_eq_of_lt z,show i % n+1+n - 1=i % n+n by lia,Nat.add_mod_right,Nat.mod_eq_of_lt hr]
 ·have:i % n+1=n:=by lia
  rw[this,Nat.mod_self,Nat.zero_add,Nat.mod_eq_of_lt (by lia)];lia
theorem z8E {S:P->Prop}{h:List P}(x:z0n S h)(hl:2<=h.length)(i:Nat):Edge S (cy h i) (cy h (i+1)):=
 x.cyc hl (j:=(i+1) % h.length) (Nat.mod_lt _ (by lia)) (by rw[z8i (by lia)]; exact z3q (by lia)) (z3q (by lia))
theorem zfg {S:P->Prop}{h:List P}(x:z0n S h)(hl:3<=h.length)(i:Nat):cy h i≠cy h (i+2):=λz=>by
 have nd:=x.nodup;have h1:=z3q (h:=h) (i:=i) (by lia);have h2:=z3q (h:=h) (i:=i+2) (by lia);rw[<- z] at h2;obtain⟨g1,q1⟩:=List.getElem?_eq_some_iff.mp h1;obtain⟨g2,q2⟩:=List.getElem?_eq_some_iff.mp h2;have e:i % h.length=(i+2) % h.length:=by
  rcases Nat.lt_trichotomy (i % h.length) ((i+2) % h.length) with y | y | y
  ·exact(List.pairwise_iff_getElem.mp nd _ _ g1 g2 y (q1.trans q2.symm)).elim
  ·exact y
  ·exact(List.pairwise_iff_getElem.mp nd _ _ g2 g1 y (q2.trans q1.symm)).elim
 have hr:=Nat.mod_lt i (show 0<h.length by lia);have e2:(i+2) % h.length=(i % h.length+2) % h.length:=by simp
 rw[e2] at e;generalize i % h.length=r at*
 rcases Nat.lt_or_ge (r+2) h.length with y | y
 ·rw[Nat.mod_eq_of_lt y] at e; lia
 ·have e3:(r+2) % h.length=r+2 - h.length:=by
   rw[Nat.mod_eq_sub_mod y];exact Nat.mod_eq_of_lt (by lia)
  rw[e3] at e;lia
theorem zct {R:P->P->Prop}:∀{l:List P},(∀i a b,l[i]? = some a->l[i+1]? = some b->R a b)->Path R l
 | [],_=>trivial
 | [_],_=>trivial
 | x::y::r,h=>⟨h 0 x y rfl rfl,zct (l:=y::r) λi a b ea eb=>h (i+1) a b (by simpa using ea) (by simpa using eb)⟩
theorem zef {y m z p:P}(h1:0<=cr y m p)(h2:0<=cr m z p)(h3:0<cr y m z)(l1:Lx m y)(l2:Lx m z)(l3:Lx p m):False:=by
 unfold Lx at l1 l2 l3;have q:=zfq (u1:=y.1 - m.1) (u2:=y.2 - m.2) (w1:=m.1 - p.1) (w2:=m.2 - p.2) (z1:=z.1 - m.1) (z2:=z.2 - m.2) (by lia) (by lia) (by lia) (by unfold cr at h1; grind) (by unfold cr at h2; grind);unfold cr at h3
 grind
theorem z0n.fill {S T:P->Prop}{h:List P}(x:z0n S h)(hT:∀p∈h,T p)(hi:∀p,T p->In h p):z0n T h:=by
 have sub:=x.sub
 match h,x,hT,hi,sub with
 | [],x,_,_,_=>obtain⟨m,t,e,_⟩:=x.ex; cases e
 | [m],x,hT,hi,_=>exact⟨m,[],rfl,hT m (by simp),λp hp=>by rw[hi p hp]; exact Lx.irr,by simp,.inl ⟨rfl,hi⟩⟩
 | [a,b],x,hT,hi,sub=>
  obtain⟨m,t,e,h1,h2,h3,h4⟩:=x.ex
  cases e
  have e1:Edge S a b:=x.cyc (j:=1) (by simp) (by simp) (by simp) rfl;have hlt:Lx a b:=by
   rcases Lx.tri a b with z | z | z
   ·exact z
   ·exact absurd z e1.ne
   ·exact absurd z (h2 b e1.sb)
  refine⟨a,[b],rfl,hT a (by simp),λp hp z =>?_,h3,.inr ⟨by simp,⟨⟨hT a (by simp),hT b (by simp),e1.ne,λp hp =>?_,λp hp _=>(hi p hp).2⟩,⟨hT b (by simp),hT a (by simp),Ne.symm e1.ne,λp hp =>?_,λp hp _=>⟨(hi p hp).2.2,(hi p hp).2.1⟩⟩,trivial⟩⟩⟩
  ·obtain⟨y1,y2,y3⟩:=hi p hp;obtain⟨a1,a2⟩:=a;obtain⟨b1,b2⟩:=b;obtain⟨p1,p2⟩:=p;simp only[cr,dot,Lx] at*;generalize hu1:b1 - a1=u1 at*;generalize hu2:b2 - a2=u2 at*;generalize hq1:p1 - a1=q1 at*;generalize hq2:p2 - a2=q2 at*;have hz:q1<0\/q1=0/\q2<0:=by lia
   rcases(show 0<u1\/u1=0/\0<u2 by lia) with k1 | ⟨k1,k2⟩
   ·have e1:(q1*u1+q2*u2)*u1=q1*(u1*u1+u2*u2):=by grind
    have n1:=z0l u1;have n2:=z0l u2;have n3:0<u1*u1:=Int.mul_pos k1 k1;have e2:0<=q1*(u1*u1+u2*u2):=by rw[<- e1]; exact Int.mul_nonneg y2 (Int.le_of_lt k1)
    have e3:0<=q1:=z53 (show 0<u1*u1+u2*u2 by lia) e2;have e4:q1=0:=by lia
    subst e4;have e5:u1*q2=0:=by lia
    rcases Int.mul_eq_zero.mp e5 with z | z <;> lia
   ·subst k1;have e5:u2*q1=0:=by lia
    rcases Int.mul_eq_zero.mp e5 with z | z
    ·lia
    ·subst z;have:0<=q2*u2:=by lia
     have:=z53 k2 this;lia
  ·rw[(hi p hp).1]; exact Int.le_refl _
  ·have z0:cr b a p = -cr a b p:=by unfold cr; grind
   rw[z0,(hi p hp).1]; exact Int.le_refl _
 | a0::b0::c0::r0,x,hT,hi,sub=>
  generalize hh:a0::b0::c0::r0=h at*;have hl:3<=h.length:=by rw[<- hh]; simp
  have hi':∀p,T p->∀i,0<=cr (cy h i) (cy h (i+1)) p:=λp hp i=>by
   have q:=(In.three hl).mp (hi p hp) ((i+1) % h.length) (cy h i) (cy h (i+1)) (Nat.mod_lt _ (by lia));exact q (by rw[z8i (by lia)]; exact z3q (by lia)) (z3q (by lia))
  have ed:=z8E x (by lia);have ne2:=zfg x hl;have tn:∀i,0<cr (cy h i) (cy h (i+1)) (cy h (i+2)):=λi=>z7i (ed i) (ed (i+1)) (ne2 i);have ct:∀i,T (cy h i):=λi=>hT _ (z7Z (by lia));have ed':∀i,Edge T (cy h (i+1)) (cy h (i+2)):=λi=>⟨ct _,ct _,(ed (i+1)).ne,λp hp=>hi' p hp (i+1),λp hp z=>⟨zaQ (tn i) (hi' p hp i) z,zcC (tn (i+1)) (hi' p hp (i+2)) z⟩⟩
  have per:∀i,cy h (i+h.length)=cy h i:=λi=>by unfold cy; rw[Nat.add_mod_right]
  obtain⟨m,t,e,h1,h2,h3,h4⟩:=x.ex;have em:cy h 0=m:=by unfold cy; rw[e]; simp
  refine⟨m,t,e,hT m (by rw[e]; simp),λp hp z =>?_,h3,.inr ⟨λy=>by rw[e,y] at hl; simp at hl,zct λi a b ea eb =>?_⟩⟩
  ·have l1:Lx m (cy h 1):=by
    rcases Lx.tri m (cy h 1) with y | y | y
    ·exact y
    ·exact absurd (em.trans y) (ed 0).ne
    ·exact absurd y (h2 _ (ed 0).sb)
   have el:Edge S (cy h (h.length - 1)) m:=by
    have:=ed (h.length - 1);rw[show h.length - 1+1=0+h.length by lia,per,em] at this;exact this
   have l2:Lx m (cy h (h.length - 1)):=by
    rcases Lx.tri m (cy h (h.length - 1)) with y | y | y
    ·exact y
    ·exact absurd y.symm el.ne
    ·exact absurd y (h2 _ el.sa)
   have p1:=hi' p hp (h.length - 1);rw[show h.length - 1+1=0+h.length by lia,per,em] at p1;have p2:=hi' p hp 0;rw[em] at p2;have p3:=tn (h.length - 1);rw[show h.length - 1+1=0+h.length by lia,show h.length - 1+2=1+h.length by lia,per,per,em] at p3;exact zef p1 p2 p3 l2 l1 z
  ·have hn:h.length=t.length+1:=by rw[e]; simp
   have get:∀i z,(m::t++[m])[i]? = some z->i<=h.length/\z=cy h i:=λi z ez=>by
    rcases Nat.lt_trichotomy i h.length with y | y | y
    ·rw[<- e,List.getElem?_append_left y] at ez;refine⟨by lia,?_⟩;have:=z3q (h:=h) (i:=i) (by lia);rw[Nat.mod_eq_of_lt y,ez] at this;exact(Option.some.inj this)
    ·rw[<- e,List.getElem?_append_right (by lia),y] at ez;simp at ez;refine⟨by lia,?_⟩;rw[show i=0+h.length by lia,per,em];exact ez.symm
    ·rw[<- e,List.getElem?_eq_none (by simp; lia)] at ez
     cases ez
   obtain⟨i1,rfl⟩:=get i a ea;obtain⟨i2,rfl⟩:=get (i+1) b eb;have:=ed' (i+h.length - 1);rw[show i+h.length - 1+1=i+h.length by lia,show i+h.length - 1+2=i+1+h.length by lia,per,per] at this;exact this
end Geo
namespace Pu
open PySem L2
theorem zdn {α:Type}{l:List α}{k:Nat}(h:k<l.length):atI l (k:Int)=l[k]? := by
 unfold atI ixN;rw[if_pos (by lia),if_pos (by lia)];simp
theorem zdl {α:Type}{x:α}{r:List α}:atI (x::r) 0=some x:=zdn (k:=0) (by simp)
noncomputable abbrev P:=Geo.P
noncomputable def stp (a b:P):P:=(b.1 - a.1,b.2 - a.2)
noncomputable def rt (s:P):P:=(s.2,-s.1)
noncomputable def z2C (h:List P)(j:Nat):List (P × P):=(rt (stp (Geo.cy h (j+h.length - 1)) (Geo.cy h j)),Geo.cy h j)::if h.length=2 then [(stp (Geo.cy h (j+h.length - 1)) (Geo.cy h j),Geo.cy h j)] else []
noncomputable def ways:List P:=[(1,0),(0,1),(-1,0),(0,-1)]
noncomputable def z3h (h:List P):List (P × P):=if h.length=1 then ways.map λb=>(b,Geo.cy h 0) else (List.range h.length).flatMap (z2C h)
theorem z52 {a b p:P}:dot p (rt (stp a b))<=dot b (rt (stp a b))↔0<=Geo.cr a b p:=by
 have e:dot b (rt (stp a b)) - dot p (rt (stp a b))=Geo.cr a b p:=by
  unfold dot rt stp Geo.cr;dsimp only
  grind
 lia
theorem z6G {a b p:P}:dot p (stp a b)<=dot b (stp a b)↔0<=Geo.dot b a p:=by
 have e:dot b (stp a b) - dot p (stp a b)=Geo.dot b a p:=by
  unfold dot stp Geo.dot;dsimp only
  grind
 lia
theorem zc3 {h:List P}{s:P × P}(hl:h.length≠1)(hs:s∈z3h h):∃j,j<h.length/\s∈z2C h j:=by
 rw[z3h,if_neg hl,List.mem_flatMap] at hs;obtain⟨j,hj,hs⟩:=hs;exact⟨j,List.mem_range.mp hj,hs⟩
theorem z6U {h:List P}{s:P × P}{j:Nat}(hl:h.length≠1)(hj:j<h.length)(hs:s∈z2C h j):s∈z3h h:=by
 rw[z3h,if_neg hl,List.mem_flatMap];exact⟨j,List.mem_range.mpr hj,hs⟩
theorem zdy {h:List P}{p:P}(hn:h≠[])(hs:∀s∈z3h h,dot p s.1<=dot s.2 s.1):Geo.In h p:=by
 match h,hn,hs with
 | [m],_,hs=>
  have h1:=hs ((1,0),m) (by simp[z3h,ways,Geo.cy]);have h2:=hs ((0,1),m) (by simp[z3h,ways,Geo.cy]);have h3:=hs ((-1,0),m) (by simp[z3h,ways,Geo.cy]);have h4:=hs ((0,-1),m) (by simp[z3h,ways,Geo.cy]);unfold dot at h1 h2 h3 h4;dsimp only at h1 h2 h3 h4;show p=m;exact Prod.ext (by lia) (by lia)
 | [a,b],_,hs=>
  have m0:∀s,s∈z2C [a,b] 0->s∈z3h [a,b]:=λs z=>z6U (by simp) (by simp) z;have m1:∀s,s∈z2C [a,b] 1->s∈z3h [a,b]:=λs z=>z6U (by simp) (by simp) z;have h1:=z52.mp (hs _ (m0 (rt (stp b a),a) (by simp[z2C,Geo.cy])));have h2:=z52.mp (hs _ (m1 (rt (stp a b),b) (by simp[z2C,Geo.cy])));have h3:=z6G.mp (hs _ (m0 (stp b a,a) (by simp[z2C,Geo.cy])));have h4:=z6G.mp (hs _ (m1 (stp a b,b) (by simp[z2C,Geo.cy])));have z0:Geo.cr b a p = -Geo.cr a b p:=by unfold Geo.cr; grind
  exact⟨by lia,h3,h4⟩
 | a::b::c::r,_,hs=>
  refine(Geo.In.three (by simp)).mpr λj x y hj ex ey =>?_;have hcj:Geo.cy (a::b::c::r) j=y:=by
   have:=Geo.z3q (h:=a::b::c::r) (i:=j) (by simp);rw[Nat.mod_eq_of_lt hj,ey] at this;exact(Option.some.inj this).symm
  have hcx:Geo.cy (a::b::c::r) (j+(a::b::c::r).length - 1)=x:=by
   have:=Geo.z3q (h:=a::b::c::r) (i:=j+(a::b::c::r).length - 1) (by simp);rw[ex] at this;exact(Option.some.inj this).symm
  have:=hs (rt (stp x y),y) (z6U (j:=j) (by simp) hj (by rw[z2C,hcj,hcx]; exact List.mem_cons_self));exact z52.mp this
theorem zdz {S:P->Prop}{h:List P}(x:Geo.z0n S h){s:P × P}(hs:s∈z3h h):s.2∈h/\∀p,S p->dot p s.1<=dot s.2 s.1:=by
 by_cases hl:h.length=1
 ·obtain⟨m,rfl⟩:∃m,h=[m]:=by
   match h,hl with
   | [m],_=>exact⟨m,rfl⟩
  rw[z3h,if_pos hl] at hs;obtain⟨b,hb,rfl⟩:=List.mem_map.mp hs;refine⟨by simp[Geo.cy],λp hp =>?_⟩;have:p=m:=x.in hp;subst this;exact Int.le_refl _
 ·obtain⟨j,hj,hs⟩:=zc3 hl hs;have h2:2<=h.length:=by lia
  have e:=Geo.z8E x h2 (j+h.length - 1);rw[show j+h.length - 1+1=j+h.length by lia,show Geo.cy h (j+h.length)=Geo.cy h j by unfold Geo.cy; rw[Nat.add_mod_right]] at e;unfold z2C at hs
  rcases List.mem_cons.mp hs with rfl | hs
  ·exact⟨Geo.z7Z (by lia),λp hp=>z52.mpr (e.left p hp)⟩
  ·split at hs
   ·rename_i h22
    rw[List.mem_singleton.mp hs];refine⟨Geo.z7Z (by lia),λp hp=>z6G.mpr ?_⟩;have f:=Geo.z8E x h2 j;have e0:Geo.cy h (j+h.length - 1)=Geo.cy h (j+1):=by unfold Geo.cy; rw[h22]; congr 1
    rw[e0] at e ⊢;have z0:Geo.cr (Geo.cy h j) (Geo.cy h (j+1)) p = -Geo.cr (Geo.cy h (j+1)) (Geo.cy h j) p:=by unfold Geo.cr; grind
    have l1:=e.left p hp;have l2:=f.left p hp;exact(f.btw p hp (by lia)).1
   ·cases hs
end Pu
namespace Geo
noncomputable def sc (p b:P):Int:=p.1*b.1+p.2*b.2
theorem zbC (b:P):∀{h:List P},h≠[]->∃i,i<h.length/\∀p∈h,sc p b<=sc (cy h i) b:=by
 have main:∀{h:List P},h≠[]->∃c∈h,∀p∈h,sc p b<=sc c b:=by
  intro h
  induction h with
  | nil=>intro z; exact absurd rfl z
  | cons x r ih=>
   intro _
   cases r with
   | nil=>exact⟨x,by simp,λp hp=>by simp at hp; subst hp; exact Int.le_refl _⟩
   | cons y r=>
    obtain⟨c,hc,hm⟩:=ih (by simp)
    by_cases z:sc x b<=sc c b
    ·refine⟨c,List.mem_cons_of_mem _ hc,λp hp =>?_⟩
     rcases List.mem_cons.mp hp with rfl | hp
     ·exact z
     ·exact hm p hp
    ·refine⟨x,by simp,λp hp =>?_⟩
     rcases List.mem_cons.mp hp with rfl | hp
     ·exact Int.le_refl _
     ·have:=hm p hp;lia
 intro h hn;obtain⟨c,hc,hm⟩:=main hn;obtain⟨i,hi,e⟩:=List.mem_iff_getElem.mp hc;refine⟨i,hi,λp hp =>?_⟩;have:cy h i=c:=by
  have:=z3q (h:=h) (i:=i) (by lia);rw[Nat.mod_eq_of_lt hi,List.getElem?_eq_getElem hi,e] at this;exact(Option.some.inj this).symm
 rw[this];exact hm p hp
theorem z0n.far {S:P->Prop}{h:List P}(x:z0n S h){p:P}(hp:In h p)(b:P):∃c∈h,sc p b<=sc c b:=by
 match h,x,hp with
 | [],x,_=>obtain⟨m,t,e,_⟩:=x.ex; cases e
 | [m],x,hp=>exact⟨m,by simp,by rw[show p=m from hp]; exact Int.le_refl _⟩
 | [y,z],x,hp=>
  obtain⟨h1,h2,h3⟩:=hp;have e1:Edge S y z:=x.cyc (j:=1) (by simp) (by simp) (by simp) rfl;have hne:=e1.ne;obtain⟨y1,y2⟩:=y;obtain⟨z1,z2⟩:=z;obtain⟨p1,p2⟩:=p;obtain⟨b1,b2⟩:=b;simp only[cr,dot] at h1 h2 h3;generalize hu1:z1 - y1=u1 at*;generalize hu2:z2 - y2=u2 at*;generalize hq1:p1 - y1=q1 at*;generalize hq2:p2 - y2=q2 at*;have hpos:0<u1*u1+u2*u2:=by
   have:=z0l u1; have:=z0l u2
   rcases Int.lt_or_eq_of_le (show 0<=u1*u1+u2*u2 by lia) with k | k
   ·exact k
   ·obtain⟨k1,k2⟩:=z4P k.symm;exact(hne (Prod.ext (by show y1=z1; lia) (by show y2=z2; lia))).elim
  by_cases hb:0<=u1*b1+u2*b2
  ·refine⟨(z1,z2),by simp,?_⟩;simp only[sc];have k1:y1 - z1 = -u1:=by lia
   have k2:y2 - z2 = -u2:=by lia
   have k3:p1 - z1=q1 - u1:=by lia
   have k4:p2 - z2=q2 - u2:=by lia
   rw[k1,k2,k3,k4] at h3;have id1:(z1*b1+z2*b2 - (p1*b1+p2*b2))*(u1*u1+u2*u2)=((q1 - u1) * -u1+(q2 - u2) * -u2)*(u1*b1+u2*b2)+(u1*q2 - u2*q1)*(u2*b1 - u1*b2):=by
    have e1:z1=u1+y1:=by lia
    have e2:z2=u2+y2:=by lia
    have e3:p1=q1+y1:=by lia
    have e4:p2=q2+y2:=by lia
    subst e1 e2 e3 e4
    grind
   rw[h1,Int.zero_mul,Int.add_zero] at id1;have:=z53 hpos (by rw[id1]; exact Int.mul_nonneg h3 hb);lia
  ·refine⟨(y1,y2),by simp,?_⟩;simp only[sc];have id1:(y1*b1+y2*b2 - (p1*b1+p2*b2))*(u1*u1+u2*u2)=(q1*u1+q2*u2) * -(u1*b1+u2*b2) - (u1*q2 - u2*q1)*(u1*b2 - u2*b1):=by
    have e3:p1=q1+y1:=by lia
    have e4:p2=q2+y2:=by lia
    subst e3 e4
    grind
   rw[h1,Int.zero_mul,Int.sub_zero] at id1;have:=z53 hpos (by rw[id1]; exact Int.mul_nonneg h2 (by lia));lia
 | a0::b0::c0::r0,x,hp=>
  generalize hh:a0::b0::c0::r0=h at*;have hl:3<=h.length:=by rw[<- hh]; simp
  have hi':∀i,0<=cr (cy h i) (cy h (i+1)) p:=λi=>by
   have q:=(In.three hl).mp hp ((i+1) % h.length) (cy h i) (cy h (i+1)) (Nat.mod_lt _ (by lia));exact q (by rw[z8i (by lia)]; exact z3q (by lia)) (z3q (by lia))
  have ed:=z8E x (by lia);have ne2:=zfg x hl;have tn:∀i,0<cr (cy h i) (cy h (i+1)) (cy h (i+2)):=λi=>z7i (ed i) (ed (i+1)) (ne2 i);have per:∀i,cy h (i+h.length)=cy h i:=λi=>by unfold cy; rw[Nat.add_mod_right]
  obtain⟨i,hi,hm⟩:=zbC b (h:=h) (by rw[<- hh]; simp);refine⟨cy h i,z7Z (by lia),?_⟩;have m1:=hm (cy h (i+h.length - 1)) (z7Z (by lia));have m2:=hm (cy h (i+1)) (z7Z (by lia));have t0:=tn (i+h.length - 1);have l0:=hi' (i+h.length - 1);have l1:=hi' i;rw[show i+h.length - 1+1=i+h.length by lia,per] at t0 l0;rw[show i+h.length - 1+2=(i+1)+h.length by lia,per] at t0;generalize cy h (i+h.length - 1)=y at*;generalize cy h i=c at*;generalize cy h (i+1)=z at*;unfold cr at t0 l0 l1;unfold sc at m1 m2 ⊢;have t0':0<(z.1 - c.1)*(y.2 - c.2) - (z.2 - c.2)*(y.1 - c.1):=by grind
  have l0':0<=(p.1 - c.1)*(y.2 - c.2) - (p.2 - c.2)*(y.1 - c.1):=by grind
  have id1:(c.1*b.1+c.2*b.2 - (p.1*b.1+p.2*b.2))*((z.1 - c.1)*(y.2 - c.2) - (z.2 - c.2)*(y.1 - c.1))=((p.1 - c.1)*(y.2 - c.2) - (p.2 - c.2)*(y.1 - c.1))*(c.1*b.1+c.2*b.2 - (z.1*b.1+z.2*b.2))+((z.1 - c.1)*(p.2 - c.2) - (z.2 - c.2)*(p.1 - c.1))*(c.1*b.1+c.2*b.2 - (y.1*b.1+y.2*b.2)):=by grind
  have n1:=Int.mul_nonneg l0' (show 0<=c.1*b.1+c.2*b.2 - (z.1*b.1+z.2*b.2) by lia);have n2:=Int.mul_nonneg l1 (show 0<=c.1*b.1+c.2*b.2 - (y.1*b.1+y.2*b.2) by lia);have:=z53 t0' (by rw[id1]; lia);lia
end Geo
namespace Geo
end Geo
namespace Pu
open PySem L2
theorem z6L {l:List Int}{k:Int}{Q:DK}{X:XP}(hk:0<=k)(q:∀c,Q (.int c)):z0k.run [.lst (l.map .int),.int k] Q X:=by
 walk_at "fn";walk_at "go";refine z3s (λh =>?_) (λh =>?_)
 ·walk_at "go";rw[List.length_map] at h;obtain⟨v,_,e⟩:=z6d (xs:=l) hk h;rw[z1H e];exact q v
 ·walk_at "go";exact q 0
theorem z6K {c k:Int}{Q:DK}{X:XP}(hk:Bt 640 k)(q:∀r:Int,0<=r->r<2305843009213693951->Q (.int r)):z08.run [.int c,.int k] Q X:=by
 have b1:Bt 3000 (c % 2305843009213693951+31*k+7):=(Bt.add (Bt.add (bt_n (by lia) (by lia)) (Bt.mul (bt_k (by decide +kernel)) hk)) (bt_k (by decide +kernel))).le;walk_at "fn";walk_at "go";refine q _ ?_ ?_ <;> lia
noncomputable def Far (m:Int)(p:Int × Int):Prop:=(-m<=p.1/\p.1<=m) /\ -m<=p.2/\p.2<=m
theorem Far.vb {m:Int}{n:Nat}{p:Int × Int}(h:Far m p)(hm:m<2 ^ n):Vb n p:=by
 obtain⟨⟨h1,h2⟩,h3,h4⟩:=h;have e:((2 ^ n:Nat):Int)=2 ^ n:=by simp
 refine⟨z1e ?_,z1e ?_⟩ <;> lia
theorem z8d {c k m:Int}{Q:DK}{X:XP}(hk:0<=k)(hk':k<=1000)(hm:0<=m)(hm':m<=1000000000)(q:∀p,Far m p->Q (vec p)):z0w.run [.int c,.int k,.int m] Q X:=by
 have b2:0<2*m+1:=by lia
 have bm:Bt 640 m:=z1e (by lia);walk_at "fn";walk_at "go";refine z6K (z1e (by lia)) λr r0 r1 =>?_;walk_at "go";refine z6K (z1e (by lia)) λu u0 u1 =>?_;walk_at "go";have h1:=Int.emod_nonneg r (show 2*m+1≠0 by lia);have h2:=Int.emod_lt_of_pos r b2;have h3:=Int.emod_nonneg u (show 2*m+1≠0 by lia);have h4:=Int.emod_lt_of_pos u b2;exact q (r % (2*m+1) - m,u % (2*m+1) - m) ⟨⟨by show -m<=r % (2*m+1) - m; lia,by show r % (2*m+1) - m<=m; lia⟩,by show -m<=u % (2*m+1) - m; lia,by show u % (2*m+1) - m<=m; lia⟩
theorem zdD {c m:Int}{Q:DK}{X:XP}(hm:0<=m)(hb:Bt 300 m)(q:∀p,Far m p->Q (vec p)):z0X.run [.int c,.int m] Q X:=by
 have b2:0<2*m+1:=by lia
 have bm:Bt 640 m:=hb.le;have bw:Bt 9000 (2*m+1):=(Bt.add (Bt.mul (z1e (n:=2) (i:=2) (by decide)) hb) (z1e (n:=1) (i:=1) (by decide))).le;walk_at "fn";walk_at "go";have h1:=Int.emod_nonneg c (show 2*m+1≠0 by lia);have h2:=Int.emod_lt_of_pos c b2;have h3:=Int.emod_nonneg (c / (2*m+1)) (show 2*m+1≠0 by lia);have h4:=Int.emod_lt_of_pos (c / (2*m+1)) b2;exact q (c % (2*m+1) - m,c / (2*m+1) % (2*m+1) - m) ⟨⟨by show -m<=c % (2*m+1) - m; lia,by show c % (2*m+1) - m<=m; lia⟩,by show -m<=c / (2*m+1) % (2*m+1) - m; lia,by show c / (2*m+1) % (2*m+1) - m<=m; lia⟩
theorem zau {c:Int}{Q:DK}{X:XP}(q:∀r,-1000000000<=r->r<=1000000000->Q (.int r)):z0E.run [.int c] Q X:=by
 walk_at "fn";walk_at "go";refine q _ ?_ ?_
 all_goals
  rw[show (10:Int) ^ (9:Int).toNat=1000000000 from by decide]
  split <;> (try split) <;> lia
theorem Far.le {m n:Int}{p:Int × Int}(h:Far m p)(q:m<=n):Far n p:=⟨⟨by have:=h.1.1; lia,by have:=h.1.2; lia⟩,by have:=h.2.1; lia,by have:=h.2.2; lia⟩
theorem zhd {s t:Sm}{ρ:Pu.Env}{N:Pu.Env->Prop}{Q:DK}{X:XP}(W:Pu.Env->Prop)(h:s.run ρ W Q X)(k:∀ρ',W ρ'->t.run ρ' N Q X):(Sm.seq s t).run ρ N Q X:=s.mono ρ W _ Q Q X X k (λ_ z=>z) (λ_ z=>z) h
theorem zeK {cs:List Int}{m:Int}{Q:DK}{X:XP}(hn:cs≠[])(hz:cs.length<=1000)(hm:0<=m)(hm':m<=1000000000)(q:∀l:List (Int × Int),l.length=cs.length->(∀p∈l,Far 1000000000 p)->Q (vecs l)):z0Q.run [.lst (cs.map .int),.int m] Q X:=by
 obtain⟨c0,_,e0⟩:=z6d (xs:=cs) (i:=0) (by decide) (by have:=List.length_pos_iff.mpr hn; lia);walk_at "fn";walk_at "go";refine z2S (z1H e0) ?_;walk_at "go";refine z8d (by decide) (by decide) hm hm' λfst hf =>?_;refine z3i (Safe.of_noL rfl rfl _) ?_;walk_at "en";walk_at "go";refine z2S (z1H e0) ?_;walk_at "go";refine z8d (by decide) (by decide) (by decide) (by decide) λstp hs =>?_;refine z3i (Safe.of_noL rfl rfl _) ?_;walk_at "en";walk_at "go";refine z2S (z1H e0) ?_;walk_at "go";refine z6K (z1e (by decide)) λr r0 r1 =>?_;walk_at "go";generalize r % 6=way;refine z2D (λx hx=>by cases hx) ?_;walk_at "en";walk_at "go";refine z2w (f :=.int) (λdn ρ=>∃(rs:List P) (x6 x7 x8:B),(∀p∈rs,Far 1000000000 p)/\rs.length=dn.length/\ρ=[.s (.lst (cs.map .int)),.s (.int m),.s (vec fst),.s (vec stp),.s (.int way),.o (.lst (rs.map vec)),x6,x7,x8]) ⟨[],_,_,_,λ_ z=>by(cases z),rfl,rfl⟩ ?_ ?_
 ·rintro dn c r' ρ e ⟨rs,x6,x7,x8,hrs,hlen,rfl⟩;have hd:dn.length<=1000:=by
   have:=congrArg List.length e;simp at this hz;lia
  show Sm.run _ _ _ _ _;walk_at "en";walk_at "go";refine z8d (by decide) (by decide) hm hm' λhg hh =>?_;refine z3i (Safe.of_noL rfl rfl _) ?_;walk_at "en";walk_at "go";refine z6K (z1e (by decide)) λu u0 u1 =>?_;walk_at "go";have ht : -3<=u % 7 - 3/\u % 7 - 3<=3:=by lia
  generalize u % 7 - 3=tn at*;have btn:Bt 640 tn:=z1e (by lia);obtain⟨s1,s2⟩:=hs.vb (n:=640) (by decide +kernel);refine zfu (λρ'=>∃g,Far 1000000000 g/\ρ'=[.s (.lst (cs.map .int)),.s (.int m),.s (vec fst),.s (vec stp),.s (.int way),.o (.lst (rs.map vec)),.s (.int c),.s (vec g),.s (.int tn)]) ?_ ?_
  ·refine z3s (λ_ =>?_) (λ_ =>?_)
   ·walk_at "go";refine zau λa a0 a1 =>?_;walk_at "go";refine zau λb b0 b1 =>?_;walk_at "go";exact⟨(a,b),⟨⟨a0,a1⟩,b0,b1⟩,rfl⟩
   ·walk_at "go";exact⟨hg,hh.le hm',rfl⟩
  rintro ρ' ⟨g,hg',rfl⟩;refine zhd (λρ'=>∃g,Far 1000000000 g/\ρ'=[.s (.lst (cs.map .int)),.s (.int m),.s (vec fst),.s (vec stp),.s (.int way),.o (.lst (rs.map vec)),.s (.int c),.s (vec g),.s (.int tn)]) ?_ ?_
  ·walk_at "go";refine z3s (λ_ =>?_) (λ_ =>?_)
   ·walk_at "go";exact⟨fst,hf.le hm',rfl⟩
   ·walk_at "go";exact⟨g,hg',rfl⟩
  rintro ρ' ⟨g2,hg2,rfl⟩;refine z8Z (l:=[]) (z1M rfl ?_);walk_at "go";refine⟨by rw[List.length_map]; exact szl' (by lia),Safe.of_noL rfl rfl _,?_⟩;walk_at "en";refine⟨rs++[g2],_,_,_,λp hp =>?_,by simp[hlen],by rw[List.map_append]; rfl⟩
  rcases List.mem_append.mp hp with hp | hp
  ·exact hrs p hp
  ·rw[List.mem_singleton.mp hp]; exact hg2
 rintro ρ ⟨rs,x6,x7,x8,hrs,hlen,rfl⟩;walk_at "go";exact q rs hlen hrs
theorem zc7 {l:List (Int × Int)}{Q:DK}{X:XP}(hz:l.length<=1000)(hl:∀p∈l,Far 1000000000 p)(q:∀l':List (Int × Int),l'.length=l.length->Wb 600 l'->Q (vecs l')):z0O.run [vecs l] Q X:=by
 walk_at "fn";walk_at "go";refine⟨by rw[List.length_map]; exact szl' (by lia),?_⟩;refine z3r (g:=λp=>vec (p.1*10 ^ 64*10 ^ 64,p.2*10 ^ 64*10 ^ 64)) (λp hp K hK =>?_) ?_
 ·obtain⟨b1,b2⟩:=(hl p hp).vb (n:=30) (by decide);have bt:Bt 213 ((10:Int) ^ (64:Int).toNat):=z1e (by decide +kernel);have q1:Bt 640 (p.1*(10:Int) ^ (64:Int).toNat):=(Bt.mul b1 bt).le;have q2:Bt 640 (p.2*(10:Int) ^ (64:Int).toNat):=(Bt.mul b2 bt).le;walk_at "go";exact hK
 walk_at "go";rw[show (l.map λp=>vec (p.1*10 ^ 64*10 ^ 64,p.2*10 ^ 64*10 ^ 64))=(l.map λp=>(p.1*10 ^ 64*10 ^ 64,p.2*10 ^ 64*10 ^ 64)).map vec by rw[List.map_map]; rfl];refine q _ (by simp) λp hp =>?_;obtain⟨v,hv,rfl⟩:=List.mem_map.mp hp;obtain⟨b1,b2⟩:=(hl v hv).vb (n:=30) (by decide);have bt:Bt 213 ((10:Int) ^ 64):=z1e (by decide +kernel);exact⟨(Bt.mul (Bt.mul b1 bt) bt).le,(Bt.mul (Bt.mul b2 bt) bt).le⟩
noncomputable abbrev prD (x:List P × Int):D :=.tup [vecs x.1,.int x.2]
structure Gw (l:List P):Prop where
 wb:Wb 600 l
 ne:l≠[]
 len:l.length<=62
theorem z9b (x:List P × Int):noL (prD x)=true:=by
 have:=z3A x.1;show noLs [vecs x.1,.int x.2]=true;simpa[noLs,noL] using this
theorem z9c (x:List P × Int):noD (prD x)=true:=by
 have:=z3B x.1;show noDs [vecs x.1,.int x.2]=true;simpa[noDs,noD] using this
theorem zeZ {l:List D}{n:Int}{Q:DK}{X:XP}(h:n<=100/\0<=n/\l.length<=1000)(q:Q (.lst (List.replicate n.toNat l).flatten)):ze0.run [.lst l,.int n] Q X:=⟨h,q⟩
theorem zeQ {p:Prop}[Decidable p]:(List.replicate (Int.toNat (if decide p=true then (1:Int) else 0)) [D.int 0]).flatten=(if p then [(0:Int)] else []).map .int:=by
 by_cases h:p <;> simp[h]
theorem zf1 {l r:List D}{Q:DK}{X:XP}(h:l.length+r.length<=sizeLine)(q:Q (.lst (l++r))):zbi.run [.lst l,.lst r] Q X:=⟨h,q⟩
noncomputable def szs (ps:List (List P × Int)):List Nat:=ps.map λx=>x.1.length
theorem zbY (ps:List (List P × Int))(x:List P × Int):(szs (ps++[x])).sum=(szs ps).sum+x.1.length:=by
 unfold szs;rw[List.map_append,List.sum_append];simp
theorem zbW:∀(l:List Nat),l.tail.sum<=l.sum
 | []=>Nat.le_refl _
 | a::l=>by rw[List.sum_cons]; exact Nat.le_add_left _ _
theorem z8Y {cs:List Int}{m:Int}{Q:DK}{X:XP}(hz:cs.length<=62)(hm:0<=m)(hb:Bt 300 m)(q:∀ps:List (List P × Int),(∀x∈ps,Gw x.1/\x.1.length<=14)->(szs ps).sum<=62->ps.length<=101->Q (.lst (ps.map prD))):z0A.run [.lst (cs.map .int),.int m] Q X:=by
 walk_at "fn";walk_at "go";refine z2D (λx hx=>by cases hx) ?_;walk_at "en";walk_at "go";refine zbc (z8P (λρ=>∃(ps:List (List P × Int)) (a:Nat) (x4 x5:B),(∀x∈ps,Gw x.1/\x.1.length<=14)/\((szs ps).sum<=a/\(szs ps).sum<=cs.length)/\ps.length<=a/\a<=100/\ρ=[.s (.lst (cs.map .int)),.s (.int m),.o (.lst (ps.map prD)),.s (.int (a:Int)),x4,x5]) (λρ=>match ρ with | [_,_,_,.s (.int a),_,_]=>(100 - a).toNat | _=>0) ⟨[],0,_,_,λ_ z=>by(cases z),⟨by simp[szs],by simp[szs]⟩,by simp,by simp,rfl⟩ ?_);rintro ρ ⟨ps,a,x4,x5,hps,hsm,hlen,ha,rfl⟩;walk_at "go";rw[List.length_map];refine z3s (λh =>?_) (λh =>?_)
 ·have hac:a<cs.length:=by lia
  obtain⟨c,_,eat⟩:=z6d (xs:=cs) (i:=(a:Int)) (by lia) (by lia);walk_at "go";refine z2S (z1H eat) ?_;walk_at "go";have hs:0<=c % 12/\c % 12<12:=by lia
  generalize c % 12=sz at*;rw[List.length_map];refine zeZ ⟨by split <;> lia,by split <;> lia,by simp⟩ ?_;rw[zeQ,z3f];obtain⟨sl,hsl,hsl1,hsl2⟩:∃sl,sl=(cs.drop (HT.sIx cs.length 0 (some ((a:Int)+1)))).take (HT.sIx cs.length cs.length (some ((a:Int)+1+(1+sz))) - HT.sIx cs.length 0 (some ((a:Int)+1)))/\(sl.length<=1+sz.toNat/\sl.length<=cs.length - (a+1))/\((a:Int)+1≠cs.length->sl≠[]):=by
   have e1:HT.sIx cs.length 0 (some ((a:Int)+1))=a+1:=by
    show (if (a:Int)+1<0 then ((a:Int)+1+(cs.length:Int)).toNat else min ((a:Int)+1).toNat cs.length)=_;rw[if_neg (by lia)]; lia
   have e2:HT.sIx cs.length cs.length (some ((a:Int)+1+(1+sz)))=min (a+1+(1+sz.toNat)) cs.length:=by
    show (if (a:Int)+1+(1+sz)<0 then ((a:Int)+1+(1+sz)+(cs.length:Int)).toNat else min ((a:Int)+1+(1+sz)).toNat cs.length)=_;rw[if_neg (by lia)]; lia
   refine⟨_,rfl,?_,λz w =>?_⟩
   ·rw[e1,e2,List.length_take,List.length_drop]; lia
   ·have:=congrArg List.length w;rw[e1,e2,List.length_take,List.length_drop,List.length_nil] at this;lia
  rw[<- hsl];clear hsl;have hrow:sl++(if (a:Int)+1=cs.length then [(0:Int)] else [])≠[]/\(sl++(if (a:Int)+1=cs.length then [(0:Int)] else [])).length<=2+sz.toNat/\a+(sl++(if (a:Int)+1=cs.length then [(0:Int)] else [])).length<=cs.length:=by
   split
   ·simp; lia
   ·rename_i z; simp only[List.append_nil]; exact⟨hsl2 z,by lia,by lia⟩
  refine zf1 (by rw[<- List.length_append, <- List.map_append,List.length_map]; exact szl (by lia)) ?_;rw[<- List.map_append];generalize sl++(if (a:Int)+1=cs.length then [(0:Int)] else [])=rows at*;refine z2D (λx hx =>?_) ?_
  ·obtain⟨y,_,rfl⟩:=List.mem_map.mp hx;exact Safe.of_noL rfl rfl _
  walk_at "en";refine zbc (z8Z (l:=[]) (z1M rfl ?_));walk_at "go";refine⟨by rw[List.length_map]; exact szl' (by lia),?_⟩;refine z9y (g:=vec) (P:=λ_ p=>Far m p) (λc _ K hK =>?_) λys hyl hy =>?_
  ·walk_at "go";exact zdD hm hb hK
  walk_at "go";refine z2S (z1H eat) ?_;walk_at "go";refine⟨by rw[List.length_map]; exact szl' (by lia),Safe.of_noL (z9b (ys,c / 12)) (z9c (ys,c / 12)) _,?_⟩;walk_at "en";walk_at "go";refine⟨⟨ps++[(ys,c / 12)],a+1+(1+sz.toNat),.s (.int (1+sz)),.o (.lst (rows.map .int)),λx hx =>?_,by rw[zbY]; show _+ys.length<=_/\_+ys.length<=_; lia,by simp; lia,by lia,?_⟩,?_⟩
  ·rcases List.mem_append.mp hx with hx | hx
   ·exact hps x hx
   ·rw[List.mem_singleton.mp hx];refine⟨⟨λp hp =>?_,λz =>?_,by show ys.length<=62; lia⟩,by show ys.length<=14; lia⟩
    ·obtain⟨_,_,hf⟩:=hy p hp;have b3:=hb.abs;obtain⟨⟨f1,f2⟩,f3,f4⟩:=hf;exact⟨Bt.le (Bt.of_abs hb (by lia)),Bt.le (Bt.of_abs hb (by lia))⟩
    ·have:=congrArg List.length z;rw[hyl] at this;exact hrow.1 (List.length_eq_zero_iff.mp this)
  ·rw[List.map_append,show ((a+1+(1+sz.toNat):Nat):Int)=(a:Int)+1+(1+sz) by lia]
   rfl
  ·show (100 - ((a:Int)+1+(1+sz))).toNat<(100 - (a:Int)).toNat
   lia
 ·walk_at "go";exact q ps hps (by lia) (by lia)
theorem zdc {α:Type}{f:α->D}{l:List α}{k:Int}(h:0<=k):cutD (l.map f) (some k) none=(l.drop k.toNat).map f:=by
 have hs:HT.sIx l.length 0 (some k)=min k.toNat l.length:=by
  show (if k<0 then (k+(l.length:Int)).toNat else min k.toNat l.length)=_;rw[if_neg (by lia)]
 rw[z3f,hs];show ((l.drop (min k.toNat l.length)).take (l.length - min k.toNat l.length)).map f=_;rw[List.take_of_length_le (by simp)]
 rcases Nat.le_total k.toNat l.length with z | z
 ·rw[Nat.min_eq_left z]
 ·rw[Nat.min_eq_right z,List.drop_eq_nil_of_le z,List.drop_length]
structure Fw (l:List P):Prop where
 far:∀p∈l,Far 1000000000 p
 ne:l≠[]
 len:l.length<=62
theorem Fw.gw {l:List P}(h:Fw l):Gw l:=⟨λp hp=>((h.far p hp).vb (n:=30) (by decide)).le,h.ne,h.len⟩
theorem zdF {cs:List Int}{a n:Nat}(h:a<cs.length)(hn:1<=n):(cs.drop a).take n≠[]/\((cs.drop a).take n).length<=cs.length/\((cs.drop a).take n).length<=n:=by
 refine⟨λw =>?_,by simp; lia,by simp; lia⟩;have:=congrArg List.length w;rw[List.length_take,List.length_drop,List.length_nil] at this;lia
noncomputable def Few (ps:List (List P × Int)):Prop:=∀k x,ps[k]? = some x->0<k\/ps.length=1->x.1.length<=14
theorem Few.of {ps:List (List P × Int)}(h:∀x∈ps,x.1.length<=14):Few ps:=λ_ _ e _=>h _ (List.mem_of_getElem? e)
theorem z8G {α β:Type}{f:α->D}{g:β->D}{P:α->β->Prop}{G:D->(Option D->Prop)->Prop}:∀{l:List α}{M:List D->Prop},(∀x∈l,∀K:Option D->Prop,(∀y,P x y->K (some (g y)))->G (f x) K)->(∀ys:List β,ys.length=l.length->(∀(k:Nat) y,ys[k]? = some y->∃x,l[k]? = some x/\P x y)->M (ys.map g))->z5u G (l.map f) M
 | [],_,_,q=>q [] rfl (λ_ _ z=>by simp at z)
 | x::r,M,h,q=>h x List.mem_cons_self _ λy hy=>z8G (l:=r) (M:=λt=>M ((some (g y)).toList++t)) (λz hz=>h z (List.mem_cons_of_mem _ hz)) λys hl ha=>q (y::ys) (by simp[hl]) λk z hz=>by
  cases k with
  | zero=>exact⟨x,rfl,by rw[List.getElem?_cons_zero] at hz; cases hz; exact hy⟩
  | succ k=>exact ha k z (by rwa [List.getElem?_cons_succ] at hz)
theorem zdC {ns:List Int}{Q:DK}{X:XP}(hns:ns.length<=63)(q:∀ps:List (List P × Int),(∀x∈ps,Gw x.1)->Few ps->(szs ps).tail.sum<=62->ps.length<=101->Q (.lst (ps.map prD))):z11.run [.lst (ns.map .int)] Q X:=by
 walk_at "fn";walk_at "go";refine z6L (by decide) λhd =>?_;walk_at "go";rw[List.length_map];refine zeZ ⟨by split <;> lia,by split <;> lia,by simp⟩ ?_;rw[zeQ,zdc (by decide)];refine zaL (by rw[<- List.length_append, <- List.map_append,List.length_map]; exact szl (by simp; split <;> simp <;> lia)) ?_;rw[<- List.map_append];have hcs:ns.drop (1:Int).toNat++(if (ns.length:Int)<2 then [(0:Int)] else [])≠[]/\(ns.drop (1:Int).toNat++(if (ns.length:Int)<2 then [(0:Int)] else [])).length<=62:=by
  have e1:(1:Int).toNat=1:=rfl;rw[e1]
  split
  ·simp; lia
  ·rename_i z
   rw[List.append_nil];refine⟨λw =>?_,by simp; lia⟩;have:=congrArg List.length w;simp at this;lia
 generalize ns.drop (1:Int).toNat++(if (ns.length:Int)<2 then [(0:Int)] else [])=cs at*;obtain⟨hc0,hcz⟩:=hcs;have hcp:=List.length_pos_iff.mpr hc0;walk_at "go";refine z3s (λ_ =>?_) (λ_ =>?_)
 ·walk_at "go";refine menu (ns:=[12,10 ^ 9,10 ^ 60]) (by lia) (by show hd / 2 % 3<3; lia) λm hm =>?_;have hm':0<=m/\Bt 300 m:=by
   simp only[List.mem_cons,List.not_mem_nil,or_false] at hm
   rcases hm with rfl | rfl | rfl <;> exact⟨by decide,z1e (by decide +kernel)⟩
  exact z8Y hcz hm'.1 hm'.2 λps h h' z=>q ps (λx hx=>(h x hx).1) (.of λx hx=>(h x hx).2) (Nat.le_trans (zbW _) h') z
 walk_at "go";refine z6K (z1e (by decide)) λr r0 r1 =>?_;walk_at "go";refine menu (ns:=[3,3,12,12,40,10 ^ 9]) (by lia) (by show r % 6<6; lia) λm hm =>?_;have hm':0<=m/\m<=1000000000:=by
  simp only[List.mem_cons,List.not_mem_nil,or_false] at hm;lia
 clear hm;walk_at "go";refine z2D (λx hx=>by cases hx) ?_;walk_at "en";walk_at "go";refine z8P (λρ=>∃(ps:List (List P × Int)) (a:Nat) (x6:B),(∀x∈ps,Fw x.1/\x.1.length<=14)/\((szs ps).sum<=a/\(szs ps).sum<=cs.length)/\(a=0\/ps≠[])/\ps.length<=a/\a<=100/\ρ=[.s (.lst (ns.map .int)),.s (.int hd),.s (.lst (cs.map .int)),.s (.int m),.o (.lst (ps.map prD)),.s (.int (a:Int)),x6]) (λρ=>match ρ with | [_,_,_,_,_,.s (.int a),_]=>(100 - a).toNat | _=>0) ⟨[],0,_,λ_ z=>by(cases z),⟨by simp[szs],by simp[szs]⟩,.inl rfl,by simp,by simp,rfl⟩ ?_;rintro ρ ⟨ps,a,x6,hps,hsm,hne,hlen,ha,rfl⟩;walk_at "go";rw[List.length_map];refine z3s (λh =>?_) (λh =>?_)
 ·have hac:a<cs.length:=by lia
  obtain⟨c,_,eat⟩:=z6d (xs:=cs) (i:=(a:Int)) (by lia) (by lia);walk_at "go";refine z2S (z1H eat) ?_;walk_at "go";refine z6K (z1e (by decide)) λu u0 u1 =>?_;walk_at "go";refine z2S (z1H eat) ?_;walk_at "go";refine z6K (z1e (by decide)) λw w0 w1 =>?_;walk_at "go";refine menu (ns:=[12,4,3,5]) (by lia) (by show w % 4<4; lia) λz hz =>?_;have hz':0<z/\z<=12:=by
   simp only[List.mem_cons,List.not_mem_nil,or_false] at hz;lia
  clear hz;refine zf0 hz'.1 ?_;have hs0:=Int.emod_nonneg u (show z≠0 by lia);have hs1:=Int.emod_lt_of_pos u hz'.1;generalize u % z=sz at*;walk_at "go";refine z8Z (l:=[]) (z1M rfl ?_);walk_at "go";rw[z3f];have e1:HT.sIx cs.length 0 (some (a:Int))=a:=by
   show (if (a:Int)<0 then ((a:Int)+(cs.length:Int)).toNat else min (a:Int).toNat cs.length)=_;rw[if_neg (by lia)]; lia
  have e2:HT.sIx cs.length cs.length (some ((a:Int)+(1+sz)))=min (a+(1+sz.toNat)) cs.length:=by
   show (if (a:Int)+(1+sz)<0 then ((a:Int)+(1+sz)+(cs.length:Int)).toNat else min ((a:Int)+(1+sz)).toNat cs.length)=_;rw[if_neg (by lia)]; lia
  rw[e1,e2];obtain⟨rw0,rwl,rwn⟩:=zdF (cs:=cs) (a:=a) (n:=min (a+(1+sz.toNat)) cs.length - a) hac (by lia);generalize (cs.drop a).take (min (a+(1+sz.toNat)) cs.length - a)=rows at*;refine zeK rw0 (by lia) hm'.1 hm'.2 λl hl hf =>?_;walk_at "go";refine z2S (z1H eat) ?_;walk_at "go";refine⟨by rw[List.length_map]; exact szl' (by lia),Safe.of_noL (z9b (l,c)) (z9c (l,c)) _,?_⟩;walk_at "en";walk_at "go";refine⟨⟨ps++[(l,c)],a+(1+sz.toNat),.s (.int (1+sz)),λx hx =>?_,by rw[zbY]; show _+l.length<=_/\_+l.length<=_; lia,.inr (by simp),by simp; lia,by lia,?_⟩,?_⟩
  ·rcases List.mem_append.mp hx with hx | hx
   ·exact hps x hx
   ·rw[List.mem_singleton.mp hx];exact⟨⟨hf,λz=>rw0 (List.length_eq_zero_iff.mp (by rw[<- hl]; exact congrArg List.length z)),by show l.length<=62; lia⟩,by show l.length<=14; lia⟩
  ·rw[List.map_append,show ((a+(1+sz.toNat):Nat):Int)=(a:Int)+(1+sz) by lia]
   rfl
  ·show (100 - ((a:Int)+(1+sz))).toNat<(100 - (a:Int)).toNat
   lia
 replace hne:=hne.resolve_left (by lia)
 clear h;have hpl:ps.length<=100:=by lia
 clear hlen;obtain⟨c0,_,e0⟩:=z6d (xs:=cs) (i:=0) (by decide) (by lia);walk_at "go";refine z2S (z1H e0) ?_;walk_at "go";refine z6K (z1e (by decide)) λu u0 u1 =>?_;walk_at "go";refine zfu (λρ'=>∃ps:List (List P × Int),(∀x∈ps,Fw x.1)/\Few ps/\(szs ps).tail.sum<=62/\ps.length<=101/\ρ'=[.s (.lst (ns.map .int)),.s (.int hd),.s (.lst (cs.map .int)),.s (.int m),.o (.lst (ps.map prD)),.s (.int (a:Int)),x6]) ?_ ?_
 ·refine z3s (λ_ =>?_) (λ_ =>?_)
  ·walk_at "go";refine zeK hc0 (by lia) hm'.1 hm'.2 λl hl hf =>?_;walk_at "go";refine z2S (z1H e0) ?_;walk_at "go";refine zf1 (l:=[prD (l,c0+1)]) (by simp; exact szl (by lia)) ?_;refine z2D (λx hx =>?_) ?_
   ·rcases List.mem_append.mp hx with hx | hx
    ·rw[List.mem_singleton.mp hx];exact Safe.of_noL (z9b _) (z9c _) _
    ·obtain⟨y,_,rfl⟩:=List.mem_map.mp hx;exact Safe.of_noL (z9b _) (z9c _) _
   walk_at "en";refine⟨(l,c0+1)::ps,λx hx =>?_,λk x e z =>?_,by show (szs ps).sum<=62; lia,by simp; lia,rfl⟩
   rotate_left
   ·have:=List.length_pos_iff.mpr hne;rw[List.length_cons] at z
    match k,e with
    | 0,e=>lia
    | k+1,e=>exact(hps x (List.mem_of_getElem? (by rwa [List.getElem?_cons_succ] at e))).2
   rcases List.mem_cons.mp hx with rfl | hx
   ·exact⟨hf,λz=>hc0 (List.length_eq_zero_iff.mp (by rw[<- hl]; exact congrArg List.length z)),by show l.length<=62; lia⟩
   ·exact(hps x hx).1
  ·walk_at "go";exact⟨ps,λx hx=>(hps x hx).1,.of λx hx=>(hps x hx).2,Nat.le_trans (zbW _) (by lia),by lia,rfl⟩
 clear hps hpl hne hsm ps;rintro ρ' ⟨ps,hps,hfe,htl,hpl,rfl⟩;walk_at "go";refine z2S (z1H e0) ?_;walk_at "go";refine z6K (z1e (by decide)) λv v0 v1 =>?_;walk_at "go";refine z3s (λ_ =>?_) (λ_ =>?_)
 ·walk_at "go";refine⟨by rw[List.length_map]; exact szl' (by lia),?_⟩;refine z8G (g:=prD) (P:=λx y=>Gw y.1/\y.1.length=x.1.length) (λx hx K hK =>?_) λys hyl hy =>?_
  ·have:=hps x hx;walk_at "go";refine zc7 (by have:=this.len; lia) this.far λl' hl' hb' =>?_;walk_at "go";exact hK (l',x.2) ⟨⟨hb',λz=>this.ne (List.length_eq_zero_iff.mp (by rw[<- hl']; exact congrArg List.length z)),by show l'.length<=62; rw[hl']; exact this.len⟩,hl'⟩
  refine z2D (λx hx =>?_) ?_
  ·obtain⟨y,_,rfl⟩:=List.mem_map.mp hx;exact Safe.of_noL (z9b _) (z9c _) _
  walk_at "en";walk_at "go";refine q ys (λy hy' =>?_) (λk y e z =>?_) ?_ (by lia)
  ·obtain⟨k,e⟩:=List.mem_iff_getElem?.mp hy';obtain⟨_,_,h⟩:=hy k y e;exact h.1
  ·obtain⟨x,ex,h⟩:=hy k y e;rw[h.2];exact hfe k x ex (by lia)
  ·rw[show szs ys=szs ps from List.ext_getElem? λi=>by
    unfold szs;rw[List.getElem?_map,List.getElem?_map]
    rcases hi:ys[i]? with _ | y
    ·have:=List.getElem?_eq_none_iff.mp hi;rw[List.getElem?_eq_none (by lia)]
    ·obtain⟨x,ex,h⟩:=hy i y hi;rw[ex];exact congrArg some h.2]
   exact htl
 ·walk_at "go";exact q ps (λx hx=>(hps x hx).gw) hfe htl hpl
end Pu
namespace Pu
open PySem L2
end Pu
namespace Pu
open PySem L2
theorem zio {x y:Bool}{Q:DK}{X:XP}(q:Q (.bl (!decide (x=y)))):pNe.run [.bl x,.bl y] Q X:=q
theorem zbd {n:Nat}{a:Int}{Q:DK}{X:XP}(q:Q (.bl true)):(z09 (n+1)).run [.int a,.int a] Q X:=by
 walk_at "fn";walk_at "go";refine zft rfl ?_;walk_at "go";refine zft rfl ?_;walk_at "go";refine zft rfl ?_;walk_at "go";refine z89 (zfs rfl ?_);walk_at "go";refine zio ?_;refine z89 (zdv rfl ?_);walk_at "go";rw[decide_eq_true (show a=a from rfl)];exact q
theorem z7Q {n:Nat}{l:List D}{Q:DK}{X:XP}(hz:l.length<=1000)(hi:∀d∈l,∀(Q:DK) (X:XP),Q (.bl true)->(z09 n).run [d,d] Q X)(q:Q (.bl true)):(z09 (n+1)).run [.tup l,.tup l] Q X:=by
 walk_at "fn";walk_at "go";refine zfs rfl ?_;walk_at "go";refine z89 (zfs rfl ?_);walk_at "go";refine z89 (zdv rfl ?_);walk_at "go";refine zhl (by omega) (by omega) ?_;rw[show ((l.length:Nat):Int).toNat=l.length by simp];refine z2w (f:=λ(j:Nat)=>D.int (j:Int)) (λdn ρ=>∃x:B,ρ=[.s (.tup l),.s (.tup l),x]) ⟨_,rfl⟩ ?_ ?_
 ·rintro dn k r ρ e ⟨x,rfl⟩;have hk:k<l.length:=by
   have:k∈List.range l.length:=by rw[e]; simp
   simpa using this
  obtain⟨d,hd,ed⟩:=z6d (xs:=l) (i:=(k:Int)) (by omega) (by omega);show Sm.run _ _ _ _ _;walk_at "en";walk_at "go";refine z2S ed ?_;walk_at "go";refine z2S ed ?_;walk_at "go";refine hi d hd _ _ ?_;walk_at "go";refine z89 (z6B ?_);walk_at "go";exact⟨_,rfl⟩
 rintro ρ ⟨x,rfl⟩;walk_at "go";exact q
theorem z3u {h:List P}{Q:DK}{X:XP}(hz:h.length<=1000)(q:Q (.bl true)):z0R.run [vecs h,vecs h] Q X:=by
 refine z7Q (n:=3) (by rw[List.length_map]; exact hz) (λd hd Q X q =>?_) q;obtain⟨p,_,rfl⟩:=List.mem_map.mp hd;refine z7Q (n:=2) (by simp) (λd hd Q X q =>?_) q;simp only[List.mem_cons,List.not_mem_nil,or_false] at hd
 rcases hd with rfl | rfl <;> exact zbd (n:=1) q
theorem zfA {a b c:P}{Q:DK}{X:XP}(h1:Vb 20000000 a)(h2:Vb 20000000 b)(h3:Vb 20000000 c)(q:Q (.int (Geo.cr a b c))):z18.run [vec a,vec b,vec c] Q X:=by
 obtain⟨a1,a2⟩:=h1.step h2;obtain⟨b1,b2⟩:=h1.step h3;dsimp only at a1 a2 b1 b2;walk_at "fn";walk_at "go";exact q
theorem zeL {l:List (Int × Int)}{Q:DK}{X:XP}(hb:Wb 20000000 l)(hz:l.length<=100000)(q:Q (.lst ((Geo.z1j l).reverse.dropLast.map vec))):z0g.run [.lst (l.map vec)] Q X:=by
 walk_at "fn";refine zbc (zfC ?_);walk_at "go";refine z2D (λx hx=>by cases hx) ?_;walk_at "en";walk_at "go";refine z2w (f:=vec) (λdn ρ=>∃(st:List (Int × Int)) (x:B),st=Geo.z1j dn/\(∀p∈st,p∈l)/\st.length<=dn.length/\ρ=[.s (.lst (l.map vec)),.o (.lst (st.reverse.map vec)),x]) ⟨[],_,rfl,(λp hp=>by cases hp),Nat.le_refl _,rfl⟩ ?_ ?_
 ·rintro dn v r ρ e ⟨st,x,hst,hsub,hlen,rfl⟩;have hv:v∈l:=by rw[e]; simp
  show Sm.run _ _ _ _ _;walk_at "en";refine Sm.cut (λρ=>∃st':List (Int × Int),st'=Geo.pops v st/\(∀p∈st',p∈l)/\st'.length<=dn.length/\ρ=[.s (.lst (l.map vec)),.o (.lst (st'.reverse.map vec)),.s (vec v)]) ?_ ?_
  ·refine z8P (λρ=>∃st':List (Int × Int),Geo.pops v st'=Geo.pops v st/\(∀p∈st',p∈l)/\st'.length<=dn.length/\ρ=[.s (.lst (l.map vec)),.o (.lst (st'.reverse.map vec)),.s (vec v)]) (λρ=>match ρ with | [_,.o (.lst k),_]=>k.length | _=>0) ⟨st,rfl,hsub,hlen,rfl⟩ ?_;rintro ρ ⟨st',h1,h2,h3,rfl⟩;walk_at "go"
   match st',h1,h2,h3 with
   | [],h1,h2,h3=>
    refine t_no (by simp) ?_;refine z4N ?_;exact⟨[],by rw[<- h1]; rfl,h2,h3,rfl⟩
   | [b],h1,h2,h3=>
    refine t_no (by simp) ?_;refine z4N ?_;exact⟨[b],by rw[<- h1]; rfl,h2,h3,rfl⟩
   | b::a::r,h1,h2,h3=>
    refine zdv (by simp; omega) ?_;walk_at "go";refine z2S (z1H zdm) ?_;walk_at "go";refine z2S (z1H zfk) ?_;walk_at "go";have hB:∀p,p∈l->Vb 20000000 p:=hb;refine zfA (hB a (h2 a (by simp))) (hB b (h2 b (by simp))) (hB v hv) ?_;walk_at "go";refine z3s (λhc =>?_) (λhc =>?_)
    ·refine zhc (z1M rfl ?_);unfold popL;rw[List.length_map,List.length_reverse,List.getElem?_map,show (b::a::r).reverse[(b::a::r).length - 1]? = some b by simp];refine⟨⟨a::r,?_,λp hp=>h2 p (List.mem_cons_of_mem _ hp),by simp at h3 ⊢; omega,?_⟩,?_⟩
     ·rw[<- h1];show _=Geo.pops v (b::a::r);rw[Geo.pops,if_pos hc]
     ·simp
     ·simp
    ·exact⟨b::a::r,by rw[<- h1,Geo.pops,if_neg hc],h2,h3,rfl⟩
  ·rintro ρ ⟨st',h1,h2,h3,rfl⟩;refine z8Z (l:=[]) (z1M rfl ?_);walk_at "go";have hdl:dn.length<l.length:=by rw[e]; simp
   refine⟨by simp; exact szl' (by omega),Safe.of_noL rfl rfl _,?_⟩;walk_at "en";refine⟨v::st',.s (vec v),?_,λp hp =>?_,by simp; omega,by simp⟩
   ·unfold Geo.z1j at hst ⊢;rw[List.foldl_append, <- hst,h1]
    rfl
   ·rcases List.mem_cons.mp hp with rfl | hp
    ·exact hv
    ·exact h2 p hp
 rintro ρ ⟨st,x,hst,hsub,hlen,rfl⟩;walk_at "go";rw[z3f,z8F,hst];exact q
theorem filterMap_map {α β:Type}{f:α->Option β}{g:α->β}:∀{ks:List α},(∀k∈ks,f k=some (g k))->ks.filterMap f=ks.map g
 | [],_=>rfl
 | k::ks,h=>by rw[List.filterMap_cons,h k (by simp),List.map_cons,filterMap_map λx hx=>h x (by simp[hx])]
theorem zco (l:List D):zbh l none none (-1)=l.reverse:=by
 have e1:sliceBounds none none (some (-1)) l.length=((l.length:Int) - 1,-1,-1):=by simp[sliceBounds]
 unfold zbh;rw[e1];have e2:sliceRange ((l.length:Int) - 1) (-1) (-1)=(List.range l.length).map λ(k:Nat)=>((l.length:Int) - 1 + -1*(k:Int)).toNat:=by
  unfold sliceRange;rw[if_neg (by decide)]
  by_cases h:(l.length:Int) - 1 > -1
  ·rw[if_pos h,show ((l.length:Int) - 1 - -1 - -1 - 1) / - -1=l.length by rw[show -(-1:Int)=1 from rfl,Int.ediv_one]; omega];simp
  ·rw[if_neg h];have:l.length=0:=by omega
   simp[this]
 rw[e2,List.filterMap_map];apply List.ext_getElem?;intro k;have fm:((List.range l.length).filterMap λ(k:Nat)=>l[((l.length:Int) - 1 + -1*(k:Int)).toNat]?)=(List.range l.length).map λk=>l.reverse.getD k .non:=by
  apply filterMap_map;intro k hk;have hk:=List.mem_range.mp hk;rw[show ((l.length:Int) - 1 + -1*(k:Int)).toNat=l.length - 1 - k by omega,List.getD_eq_getElem?_getD,List.getElem?_reverse hk,List.getElem?_eq_getElem (by omega)]
  rfl
 rw[show ((λx=>l[x]?) ∘ λ(k:Nat)=>((l.length:Int) - 1 + -1*(k:Int)).toNat)=λ(k:Nat)=>l[((l.length:Int) - 1 + -1*(k:Int)).toNat]? from rfl,fm,List.getElem?_map]
 rcases Nat.lt_or_ge k l.length with z | z
 ·rw[List.getElem?_range z];simp only[Option.map_some,List.getD_eq_getElem?_getD];rw[List.getElem?_reverse z,List.getElem?_eq_getElem (by omega)]
  rfl
 ·rw[List.getElem?_eq_none (by simpa using z),List.getElem?_eq_none (by simpa using z)]
  rfl
theorem zaB (v:P):∀st:List P,(Geo.pops v st).length<=st.length
 | []=>by simp[Geo.pops]
 | [b]=>by simp[Geo.pops]
 | b::a::r=>by
  rw[Geo.pops]
  split
  ·have:=zaB v (a::r);simp at this ⊢;omega
  ·simp
theorem zde (l:List P):(Geo.z1j l).length<=l.length:=by
 unfold Geo.z1j;have:∀(l:List P) (st:List P),(l.foldl (λst p=>p::Geo.pops p st) st).length<=st.length+l.length:=by
  intro l
  induction l with
  | nil=>intro st; simp
  | cons p l ih=>
   intro st;have:=ih (p::Geo.pops p st);have:=zaB p st;simp at*;omega
 simpa using this l []
theorem zfD {d:D}{l:List P}{Q:DK}{X:XP}(hd:Vs d l)(hb:Wb 20000000 l)(hn:l≠[])(hz:l.length<=2040)(q:∀h,Geo.Hd l h->Q (vecs h)):z12.run [d] Q X:=by
 walk_at "fn";walk_at "go";refine hd.set hz ⟨λk hk =>?_,λkl hr =>?_⟩
 ·obtain⟨p,_,rfl⟩:=List.mem_map.mp hk;exact List.cons_ne_nil _ _
 obtain⟨rl,rfl,h1,h2⟩:=zav rfl hr;rw[<- zal];have hz2:rl.length<=l.length:=z1v (h1.imp λz=>z.ne) λp hp=>(h2 p).mp hp;have hb2:Wb 20000000 rl:=λp hp=>hb p ((h2 p).mp hp);have hr0:rl≠[]:=λz=>by
  obtain⟨x,l',rfl⟩:=List.exists_cons_of_ne_nil hn;have:=(h2 x).mpr (by simp);rw[z] at this
  cases this
 have hrp:=List.length_pos_iff.mpr hr0;walk_at "go";rw[List.length_map];refine z3s (λh =>?_) (λh =>?_)
 ·walk_at "go";have e:Geo.hull rl=rl:=if_pos (by omega);have:=q _ ⟨rl,h1,h2,rfl⟩;rw[e] at this;exact this
 walk_at "go";refine zeL hb2 (by omega) ?_;walk_at "go";refine⟨by decide,?_⟩;show z0g.run [.lst (zbh (rl.map vec) none none (-1))] _ _;rw[zco, <- List.map_reverse];have hcl:∀l:List P,(Geo.z1j l).length<=l.length:=zde;refine zeL (λp hp=>hb2 p (by simpa using hp)) (by simp; omega) ?_;refine zaL (by have:=hcl rl; have:=hcl rl.reverse; simp at *; exact szl (by omega)) ?_;rw[<- List.map_append];walk_at "go";have e:Geo.hull rl=(Geo.z1j rl).reverse.dropLast++(Geo.z1j rl.reverse).reverse.dropLast:=if_neg (by omega);have:=q _ ⟨rl,h1,h2,rfl⟩;rw[e] at this;exact this
theorem zcS {S T:P->Prop}{h:List P}(x:Geo.z0n T h)(hs:∀p∈h,S p)(hf:∀p,S p->∀b:P,∃c,T c/\dot p b<=dot c b):Geo.z0n S h:=by
 refine x.fill hs λp hp=>zdy (by obtain⟨m,t,et,_⟩:=x.ex; rw[et]; simp) λs hs =>?_;obtain⟨c,hc,hle⟩:=hf p hp s.1;exact Int.le_trans hle ((zdz x hs).2 c hc)
theorem s_vector_added {p r:P}{Q:DK}{X:XP}(q:Q (vec (p.1+r.1,p.2+r.2))):z1a.run [vec p,vec r] Q X:=by
 walk_at "fn";walk_at "go";exact q
end Pu
namespace Geo
noncomputable def cx (u v:P):Int:=u.1*v.2 - u.2*v.1
noncomputable def Rs (u:P):Prop:=0<u.1\/(u.1=0/\0<u.2)
noncomputable instance (u:P):Decidable (Rs u):=inferInstanceAs (Decidable (_\/_))
noncomputable def Be (u v:P):Prop:=(Rs u/\¬ Rs v)\/((Rs u↔Rs v)/\0<cx u v)
noncomputable instance (u v:P):Decidable (Be u v):=inferInstanceAs (Decidable (_\/_))
theorem z90 {u:P}(h:u≠(0,0)):Rs (ng u)↔¬ Rs u:=by
 obtain⟨a,b⟩:=u;have:¬ (a=0/\b=0):=λ⟨h1,h2⟩=>h (by rw[h1,h2]);simp only[Rs,ng];lia
theorem zbE (u v:P):cx (ng u) (ng v)=cx u v:=by simp only[cx,ng]; grind
theorem zfh (u v:P):cx (ng u) v=cx v u:=by simp only[cx,ng]; grind
theorem zdb (u v:P):cx u (ng v) = -cx u v:=by simp only[cx,ng]; grind
theorem zjR {u:P}(h:u≠(0,0)):ng u≠(0,0):=λz=>h (by
 have h1:=congrArg Prod.fst z;have h2:=congrArg Prod.snd z;simp only[ng] at h1 h2;exact Prod.ext (by simp; lia) (by simp; lia))
theorem zcV {u v w:P}(hu:Rs u)(hv:Rs v)(hw:Rs w)(h1:0<cx u v)(h2:0<cx v w):0<cx u w:=by
 obtain⟨u1,u2⟩:=u;obtain⟨v1,v2⟩:=v;obtain⟨w1,w2⟩:=w;simp only[Rs,cx] at*;have id1:(u1*w2 - u2*w1)*v1=(u1*v2 - u2*v1)*w1+(v1*w2 - v2*w1)*u1:=by grind
 rcases hv with hv | ⟨hv,hv2⟩
 ·rcases Int.lt_or_le 0 (u1*w2 - u2*w1) with z | z
  ·exact z
  ·exfalso
   have n1:(u1*w2 - u2*w1)*v1<=0:=Int.mul_nonpos_of_nonpos_of_nonneg z (by omega);have n2:0<=(u1*v2 - u2*v1)*w1:=Int.mul_nonneg (by omega) (by omega);have n3:0<=(v1*w2 - v2*w1)*u1:=Int.mul_nonneg (by omega) (by omega);have z2:(u1*v2 - u2*v1)*w1=0:=by omega
   have z3:(v1*w2 - v2*w1)*u1=0:=by omega
   have w0:w1=0:=(Int.mul_eq_zero.mp z2).resolve_left (by omega);have u0:u1=0:=(Int.mul_eq_zero.mp z3).resolve_left (by omega);subst u0;have:=Int.mul_pos (show 0<u2 by omega) hv;simp at h1;omega
 ·subst hv;have:0<=v2*w1:=Int.mul_nonneg (by omega) (by omega);simp at h2;omega
theorem zcU {u v w:P}(hu:Rs u)(hv:Rs v)(hw:Rs w)(h:0<cx u w):0<cx u v\/0<cx v w:=by
 obtain⟨u1,u2⟩:=u;obtain⟨v1,v2⟩:=v;obtain⟨w1,w2⟩:=w;simp only[Rs,cx] at*;have id1:(u1*w2 - u2*w1)*v1=(u1*v2 - u2*v1)*w1+(v1*w2 - v2*w1)*u1:=by grind
 rcases Int.lt_or_le 0 (u1*v2 - u2*v1) with z1 | z1
 ·exact .inl z1
 rcases Int.lt_or_le 0 (v1*w2 - v2*w1) with z2 | z2
 ·exact .inr z2
 exfalso
 have n2:(u1*v2 - u2*v1)*w1<=0:=Int.mul_nonpos_of_nonpos_of_nonneg z1 (by omega);have n3:(v1*w2 - v2*w1)*u1<=0:=Int.mul_nonpos_of_nonpos_of_nonneg z2 (by omega)
 rcases hv with hv | ⟨hv,hv2⟩
 ·have:=Int.mul_pos h hv;omega
 ·subst hv;simp at z1;have u0:u1=0:=by
   rcases Int.lt_or_le 0 u1 with q | q
   ·have:=Int.mul_pos q hv2;omega
   ·omega
  subst u0;have:0<=u2*w1:=Int.mul_nonneg (by omega) (by omega);simp at h;omega
theorem Be.tr {u v w:P}(hu:u≠(0,0))(hv:v≠(0,0))(hw:w≠(0,0))(h1:Be u v)(h2:Be v w):Be u w:=by
 rcases h1 with ⟨a,b⟩ | ⟨a,b⟩
 ·rcases h2 with ⟨c,d⟩ | ⟨c,d⟩
  ·exact absurd c b
  ·exact .inl ⟨a,λz=>b (c.mpr z)⟩
 ·rcases h2 with ⟨c,d⟩ | ⟨c,d⟩
  ·exact .inl ⟨a.mpr c,d⟩
  ·refine .inr ⟨a.trans c,?_⟩
   by_cases r:Rs u
   ·exact zcV r (a.mp r) (c.mp (a.mp r)) b d
   ·have:=zcV ((z90 hu).mpr r) ((z90 hv).mpr λz=>r (a.mpr z)) ((z90 hw).mpr λz=>r (a.mpr (c.mpr z))) (by rw[zbE]; exact b) (by rw[zbE]; exact d)
    rwa [zbE] at this
theorem Be.wk {u v w:P}(hu:u≠(0,0))(hv:v≠(0,0))(hw:w≠(0,0))(h:Be u w):Be u v\/Be v w:=by
 rcases h with ⟨a,b⟩ | ⟨a,b⟩
 ·by_cases r:Rs v
  ·exact .inr (.inl ⟨r,b⟩)
  ·exact .inl (.inl ⟨a,r⟩)
 ·by_cases r:Rs u
  ·by_cases s:Rs v
   ·rcases zcU r s (a.mp r) b with z | z
    ·exact .inl (.inr ⟨⟨λ_=>s,λ_=>r⟩,z⟩)
    ·exact .inr (.inr ⟨⟨λ_=>a.mp r,λ_=>s⟩,z⟩)
   ·exact .inl (.inl ⟨r,s⟩)
  ·by_cases s:Rs v
   ·exact .inr (.inl ⟨s,λz=>r (a.mpr z)⟩)
   ·rcases zcU ((z90 hu).mpr r) ((z90 hv).mpr s) ((z90 hw).mpr λz=>r (a.mpr z)) (by rw[zbE]; exact b) with z | z
    ·rw[zbE] at z;exact .inl (.inr ⟨⟨λq=>absurd q r,λq=>absurd q s⟩,z⟩)
    ·rw[zbE] at z;exact .inr (.inr ⟨⟨λq=>absurd q s,λq=>absurd (a.mpr q) r⟩,z⟩)
theorem Be.irr {u:P}:¬ Be u u:=by
 rintro(⟨a,b⟩ | ⟨_,b⟩)
 ·exact b a
 ·have:cx u u=0:=by simp only[cx]; grind
  lia
noncomputable def Dt (t:P)(l:List P):Int:=(l.map (cx · t)).sum
theorem Dt.app (t:P)(l m:List P):Dt t (l++m)=Dt t l+Dt t m:=by unfold Dt; rw[List.map_append,List.sum_append]
theorem Dt.nonneg {t:P}:∀{l:List P},(∀u∈l,0<=cx u t)->0<=Dt t l
 | [],_=>by simp[Dt]
 | u::l,h=>by
  have:=Dt.nonneg (t:=t) (l:=l) λx hx=>h x (by simp[hx]);have:=h u (by simp);simp[Dt] at*;lia
theorem Dt.nonpos {t:P}:∀{l:List P},(∀u∈l,cx u t<=0)->Dt t l<=0
 | [],_=>by simp[Dt]
 | u::l,h=>by
  have:=Dt.nonpos (t:=t) (l:=l) λx hx=>h x (by simp[hx]);have:=h u (by simp);simp[Dt] at*;lia
theorem z8l {t:P}{R:P->P->Prop}(ht:∀u v:P,R u v->Be v t->Be u t):∀{E:List P},E.Pairwise R->∃F G,E=F++G/\(∀u∈F,Be u t)/\(∀u∈G,¬ Be u t)
 | [],_=>⟨[],[],rfl,λ_ h=>by(cases h),λ_ h=>by(cases h)⟩
 | u::E,h=>by
  rw[List.pairwise_cons] at h
  by_cases b:Be u t
  ·obtain⟨F,G,e,h1,h2⟩:=z8l ht h.2;exact⟨u::F,G,by rw[e]; rfl,λx hx=>(List.mem_cons.mp hx).elim (λz=>z ▸ b) (h1 x),h2⟩
  ·exact⟨[],u::E,rfl,λ_ h=>by(cases h),λx hx=>(List.mem_cons.mp hx).elim (λz=>z ▸ b) λz q=>b (ht u x (h.1 x z) q)⟩
theorem lead {t:P}(ht:t≠(0,0)){E F G K L:List P}(hn:∀u∈E,u≠(0,0))(hs:E.Pairwise Be)(h0:Dt t E=0)(e:E=F++G)(hF:∀u∈F,Be u t)(hG:∀u∈G,¬ Be u t)(k:E=K++L):Dt t K<=Dt t F:=by
 have e0:Dt t F+Dt t G=0:=by rw[<- Dt.app, <- e]; exact h0
 have nF:∀u∈F,u≠(0,0):=λu hu=>hn u (by rw[e]; simp[hu]);have nG:∀u∈G,u≠(0,0):=λu hu=>hn u (by rw[e]; simp[hu]);have tn:=zjR ht
 by_cases r:Rs t
 ·have pF:∀u∈F,0<cx u t:=λu hu=>by
   rcases hF u hu with ⟨_,z⟩ | ⟨_,z⟩
   ·exact absurd r z
   ·exact z
  have dF:0<=Dt t F:=Dt.nonneg λu hu=>Int.le_of_lt (pF u hu)
  rcases List.append_eq_append_iff.mp (k.symm.trans e) with ⟨a,e1,e2⟩ | ⟨c,e1,e2⟩
  ·have:0<=Dt t a:=Dt.nonneg λu hu=>Int.le_of_lt (pF u (by rw[e1]; simp[hu]));rw[e1,Dt.app];lia
  ·rw[e1,Dt.app]
   rcases Int.lt_or_le 0 (Dt t c) with z | z
   ·exfalso
    obtain⟨u,hu,hp⟩:∃u∈c,0<cx u t:=by
     apply Classical.byContradiction;intro q;have:=Dt.nonpos (t:=t) (l:=c) λu hu=>by
      rcases Int.lt_or_le 0 (cx u t) with w | w
      ·exact absurd ⟨u,hu,w⟩ q
      ·exact w
     lia
    have ru:¬ Rs u:=λw=>hG u (by rw[e2]; simp[hu]) (.inr ⟨⟨λ_=>r,λ_=>w⟩,hp⟩);have rt:¬ Rs (ng t):=λw=>(z90 ht).mp w r;have b1:Be (ng t) u :=.inr ⟨⟨λw=>absurd w rt,λw=>absurd w ru⟩,by rw[zfh]; exact hp⟩;have dL:0<=Dt t L:=Dt.nonneg λv hv=>by
     have huv:Be u v:=by
      rw[k,e1,List.pairwise_append] at hs;exact hs.2.2 u (by simp[hu]) v hv
     have nv:=hn v (by rw[k]; simp[hv]);have b2:=b1.tr tn (nG u (by rw[e2]; simp[hu])) nv huv
     rcases b2 with ⟨w,_⟩ | ⟨_,w⟩
     ·exact absurd w rt
     ·rw[zfh] at w;lia
    rw[e2,Dt.app] at e0;lia
   ·lia
 ·have pG:∀u∈G,cx u t<=0:=λu hu=>by
   have ru:¬ Rs u:=λw=>hG u hu (.inl ⟨w,r⟩)
   rcases Int.lt_or_le 0 (cx u t) with w | w
   ·exact absurd (.inr ⟨⟨λq=>absurd q ru,λq=>absurd q r⟩,w⟩) (hG u hu)
   ·exact w
  have dG:Dt t G<=0:=Dt.nonpos pG
  rcases List.append_eq_append_iff.mp (k.symm.trans e) with ⟨a,e1,e2⟩ | ⟨c,e1,e2⟩
  ·rw[e1,Dt.app]
   rcases Int.lt_or_le (Dt t a) 0 with z | z
   ·exfalso
    obtain⟨v,hv,hp⟩:∃v∈a,cx v t<0:=by
     apply Classical.byContradiction;intro q;have:=Dt.nonneg (t:=t) (l:=a) λu hu=>by
      rcases Int.lt_or_le (cx u t) 0 with w | w
      ·exact absurd ⟨u,hu,w⟩ q
      ·exact w
     lia
    have rv:Rs v:=by
     rcases hF v (by rw[e1]; simp[hv]) with ⟨w,_⟩ | ⟨_,w⟩
     ·exact w
     ·lia
    have rt:Rs (ng t):=(z90 ht).mpr r;have b1:Be v (ng t) :=.inr ⟨⟨λ_=>rt,λ_=>rv⟩,by rw[zdb]; lia⟩;have dK:Dt t K<=0:=Dt.nonpos λu hu=>by
     have huv:Be u v:=by
      rw[k,e2,List.pairwise_append] at hs;exact hs.2.2 u hu v (by simp[hv])
     have nu:=hn u (by rw[k]; simp[hu])
     rcases huv.tr nu (nF v (by rw[e1]; simp[hv])) tn b1 with ⟨_,w⟩ | ⟨_,w⟩
     ·exact absurd rt w
     ·rw[zdb] at w;lia
    rw[e1,Dt.app] at e0;lia
   ·lia
  ·have:Dt t c<=0:=Dt.nonpos λu hu=>pG u (by rw[e2]; simp[hu]);rw[e1,Dt.app];lia
end Geo
namespace Geo
noncomputable def sb (a b:P):P:=(b.1 - a.1,b.2 - a.2)
noncomputable def pl (a b:P):P:=(a.1+b.1,a.2+b.2)
noncomputable def vs (l:List P):P:=((l.map (·.1)).sum,(l.map (·.2)).sum)
theorem z4M (u:P)(l:List P):vs (u::l)=pl u (vs l):=rfl
theorem zbQ (l m:List P):vs (l++m)=pl (vs l) (vs m):=by
 simp only[vs,pl,List.map_append,List.sum_append]
theorem zbP {l m:List P}(h:l.Perm m):vs l=vs m:=by
 induction h with
 | nil=>rfl
 | cons x _ ih=>rw[z4M,z4M,ih]
 | swap x y l=>simp only[z4M,pl]; exact Prod.ext (by simp; lia) (by simp; lia)
 | trans _ _ h1 h2=>exact h1.trans h2
theorem zac (t:P):∀l:List P,Dt t l=cx (vs l) t
 | []=>by simp[Dt,vs,cx]
 | u::l=>by
  have ih:=zac t l;rw[z4M,show Dt t (u::l)=cx u t+Dt t l by simp[Dt],ih];simp only[cx,pl]
  grind
noncomputable def df:List P->List P
 | a::b::r=>sb a b::df (b::r)
 | _=>[]
theorem zaW:∀{r:List P}{a q:P},q∈a::r->∃K L,df (a::r)=K++L/\vs K=sb a q
 | [],a,q,h=>by
  rw[List.mem_singleton.mp h];exact⟨[],[],rfl,by simp[vs,sb]⟩
 | b::r,a,q,h=>by
  rcases List.mem_cons.mp h with rfl | h
  ·exact⟨[],_,rfl,by simp[vs,sb]⟩
  ·obtain⟨K,L,e,v⟩:=zaW h;refine⟨sb a b::K,L,by rw[df,e]; rfl,?_⟩;rw[z4M,v];simp only[pl,sb];exact Prod.ext (by simp; lia) (by simp; lia)
theorem ziZ:∀{r:List P}{a:P}{K L:List P},df (a::r)=K++L->∃q∈a::r,vs K=sb a q
 | [],a,K,L,h=>by
  have:K=[]:=(List.append_eq_nil_iff.mp h.symm).1;subst this;exact⟨a,by simp,by simp[vs,sb]⟩
 | b::r,a,[],L,h=>⟨a,by simp,by simp[vs,sb]⟩
 | b::r,a,u::K,L,h=>by
  rw[df,List.cons_append] at h;obtain⟨rfl,h'⟩:=List.cons.inj h;obtain⟨q,hq,v⟩:=ziZ h';refine⟨q,List.mem_cons_of_mem _ hq,?_⟩;rw[z4M,v];simp only[pl,sb];exact Prod.ext (by simp; lia) (by simp; lia)
theorem zd6:∀{r:List P}{a z:P},vs (df (a::r++[z]))=sb a z
 | [],a,z=>by simp[df,vs,sb]
 | b::r,a,z=>by
  show vs (sb a b::df (b::r++[z]))=_;rw[z4M,zd6];simp only[pl,sb];exact Prod.ext (by simp; lia) (by simp; lia)
theorem zfd:∀{r s:List P}{a m:P},df (a::r++m::s)=df (a::r++[m])++df (m::s)
 | [],s,a,m=>by
  show sb a m::df (m::s)=[sb a m]++df (m::s)
  rfl
 | b::r,s,a,m=>by
  show sb a b::df (b::r++m::s)=sb a b::df (b::r++[m])++df (m::s);rw[zfd]
  rfl
noncomputable def mg:List P->List P->List P
 | E,[]=>E
 | E,f::F=>E.takeWhile (λu=>decide (Be u f))++f::mg (E.dropWhile (λu=>decide (Be u f))) F
theorem z5K:∀(E F:List P),(mg E F).Perm (E++F)
 | E,[]=>by simp[mg]
 | E,f::F=>by
  have ih:=z5K (E.dropWhile (λu=>decide (Be u f))) F;rw[mg];refine(List.Perm.append_left _ (ih.cons f)).trans ?_
  conv=>rhs; rw[<- List.takeWhile_append_dropWhile (p:=λu=>decide (Be u f)) (l:=E),List.append_assoc]
  exact List.Perm.append_left _ List.perm_middle.symm
theorem zf3:∀{E F K L:List P},mg E F=K++L->∃E1 E2 F1 F2,E=E1++E2/\F=F1++F2/\K.Perm (E1++F1)
 | E,[],K,L,h=>⟨K,L,[],[],h,rfl,by simp⟩
 | E,f::F,K,L,h=>by
  rw[mg] at h;have sp:=List.takeWhile_append_dropWhile (p:=λu=>decide (Be u f)) (l:=E);generalize E.takeWhile (λu=>decide (Be u f))=T at*;generalize E.dropWhile (λu=>decide (Be u f))=R at*
  rcases List.append_eq_append_iff.mp h with ⟨a,e1,e2⟩ | ⟨c,e1,e2⟩
  ·cases a with
   | nil=>exact⟨T,R,[],f::F,sp.symm,rfl,by rw[e1]⟩
   | cons x a=>
    rw[List.cons_append] at e2;obtain⟨rfl,e3⟩:=List.cons.inj e2;obtain⟨E1,E2,F1,F2,q1,q2,q3⟩:=zf3 e3;refine⟨T++E1,E2,f::F1,F2,by rw[<- sp,q1,List.append_assoc],by rw[q2,List.cons_append],?_⟩;rw[e1,List.append_assoc];exact List.Perm.append_left _ ((q3.cons f).trans List.perm_middle.symm)
  ·exact⟨K,c++R,[],f::F,by rw[<- sp,e1,List.append_assoc],rfl,by simp⟩
noncomputable def Nz (l:List P):Prop:=∀u∈l,u≠(0,0)
theorem Be.asym {u v:P}(hu:u≠(0,0))(hv:v≠(0,0))(h:Be u v):¬ Be v u:=λz=>Be.irr (h.tr hu hv hu z)
theorem ziJ:∀{E F:List P},Nz E->Nz F->E.Pairwise (λx y=>¬ Be y x)->F.Pairwise (λx y=>¬ Be y x)->(mg E F).Pairwise (λx y=>¬ Be y x)
 | E,[],_,_,h,_=>by rw[mg]; exact h
 | E,f::F,nE,nF,hE,hF=>by
  have sp:=List.takeWhile_append_dropWhile (p:=λu=>decide (Be u f)) (l:=E);have ht:∀u∈E.takeWhile (λu=>decide (Be u f)),Be u f:=λu hu=>by
   have:=List.all_eq_true.mp (List.all_takeWhile (p:=λu=>decide (Be u f)) (l:=E)) u hu;simpa using this
  have hdr:∀d r,E.dropWhile (λu=>decide (Be u f))=d::r->¬ Be d f:=λd r e z=>by
   have:=List.head?_dropWhile_not (λu=>decide (Be u f)) E;rw[e] at this;simp at this;exact this z
  rw[mg];have hp:=z5K (E.dropWhile (λu=>decide (Be u f))) F;generalize E.takeWhile (λu=>decide (Be u f))=T at*;generalize E.dropWhile (λu=>decide (Be u f))=R at*;have nT:Nz T:=λu hu=>nE u (by rw[<- sp]; simp[hu]);have nR:Nz R:=λu hu=>nE u (by rw[<- sp]; simp[hu]);have nf:=nF f (by simp);have nF':Nz F:=λu hu=>nF u (by simp[hu]);rw[<- sp,List.pairwise_append] at hE;rw[List.pairwise_cons] at hF;have ih:=ziJ nR nF' hE.2.1 hF.2;have mem:∀y∈mg R F,y∈R\/y∈F:=λy hy=>List.mem_append.mp (hp.mem_iff.mp hy);rw[List.pairwise_append,List.pairwise_cons];refine⟨hE.1,⟨λy hy =>?_,ih⟩,λx hx y hy =>?_⟩
  ·rcases mem y hy with z | z
   ·cases R with
    | nil=>cases z
    | cons d r=>
     have hd:=hdr d r rfl
     rcases List.mem_cons.mp z with rfl | z
     ·exact hd
     ·intro w
      rcases w.wk (v:=d) (nR y (by simp[z])) (nR d (by simp)) nf with q | q
      ·exact(List.pairwise_cons.mp hE.2.1).1 y z q
      ·exact hd q
   ·exact hF.1 y z
  ·rcases List.mem_cons.mp hy with rfl | hy
   ·exact(ht x hx).asym (nT x hx) nf
   ·rcases mem y hy with z | z
    ·exact hE.2.2 x hx y z
    ·intro w;exact hF.1 y z (w.tr (nF' y z) (nT x hx) nf (ht x hx))
theorem zgq {t:P}(ht:t≠(0,0)){E F:List P}(nE:Nz E)(nF:Nz F)(sE:E.Pairwise Be)(sF:F.Pairwise Be)(zE:vs E=(0,0))(zF:vs F=(0,0)):
  ∃K L,mg E F=K++L/\∀K1 L1 K2 L2,E=K1++L1->F=K2++L2->Dt t K1+Dt t K2<=Dt t K:=by
 have d0:∀{l:List P},vs l=(0,0)->Dt t l=0:=λ{l} h=>by rw[zac,h]; simp[cx]
 have wk:∀{l:List P},Nz l->l.Pairwise Be->l.Pairwise (λx y=>¬ Be y x):=λ{l} n h=>by
  have:l.Pairwise λx y=>(x∈l/\y∈l):=List.pairwise_of_forall_mem_list λx hx y hy=>⟨hx,hy⟩
  exact(h.and this).imp λ{x y} ⟨q,hx,hy⟩=>q.asym (n x hx) (n y hy)
 have nz:∀{l:List P}{R:P->P->Prop},Nz l->l.Pairwise R->l.Pairwise λx y=>(x≠(0,0)/\y≠(0,0))/\R x y:=λ{l R} n h=>by
  have:l.Pairwise λx y=>(x≠(0,0)/\y≠(0,0)):=List.pairwise_of_forall_mem_list λx hx y hy=>⟨n x hx,n y hy⟩
  exact this.and h
 have strong:∀u v:P,((u≠(0,0)/\v≠(0,0))/\Be u v)->Be v t->Be u t:=λu v ⟨⟨a,b⟩,c⟩ d=>c.tr a b ht d;have weak:∀u v:P,((u≠(0,0)/\v≠(0,0))/\¬ Be v u)->Be v t->Be u t:=λu v ⟨⟨a,b⟩,c⟩ d=>(d.wk b a ht).resolve_left c;have nM:Nz (mg E F):=λu hu=>(List.mem_append.mp ((z5K E F).mem_iff.mp hu)).elim (nE u) (nF u);obtain⟨E1,E2,e1,pE,qE⟩:=z8l strong (nz nE sE);obtain⟨F1,F2,f1,pF,qF⟩:=z8l strong (nz nF sF);obtain⟨K,L,k1,pK,qK⟩:=z8l weak (nz nM (ziJ nE nF (wk nE sE) (wk nF sF)));refine⟨K,L,k1,λK1 L1 K2 L2 h1 h2 =>?_⟩;have a1:=lead ht nE sE (d0 zE) e1 pE qE h1;have a2:=lead ht nF sF (d0 zF) f1 pF qF h2;have fl:∀{A B:List P},(∀u∈A,Be u t)->(∀u∈B,¬ Be u t)->(A++B).filter (λu=>decide (Be u t))=A:=λ{A B} ha hb=>by
  rw[List.filter_append,List.filter_eq_self.mpr λu hu=>decide_eq_true (ha u hu),List.filter_eq_nil_iff.mpr λu hu=>by simpa using hb u hu,List.append_nil]
 have hp:=(z5K E F).filter (λu=>decide (Be u t));rw[k1,fl pK qK,List.filter_append,e1,fl pE qE,f1,fl pF qF] at hp;have:Dt t K=Dt t E1+Dt t F1:=by rw[zac,zbP hp, <- zac,Dt.app]
 lia
noncomputable def rd (h:List P):List P:=if h.length=1 then [] else df (h++h.take 1)
theorem ziL {a b c:P}(h:Lx a b)(k:Lx b c):Lx a c:=by
 simp only[Lx] at*;lia
theorem zgs {a b:P}(h:Lx a b):Rs (sb a b):=by
 simp only[Lx,Rs,sb] at*;lia
theorem zcJ {a b:P}(h:Lx b a):¬ Rs (sb a b):=by
 simp only[Lx,Rs,sb] at*;lia
theorem zh7 {a b:P}(h:a≠b):sb a b≠(0,0):=λz=>h (by
 have h1:=congrArg Prod.fst z;have h2:=congrArg Prod.snd z;simp only[sb] at h1 h2;exact Prod.ext (by lia) (by lia))
theorem zew {R:P->P->Prop}(hR:∀a b,R a b->a≠b):∀{p:List P},Path R p->Nz (df p)
 | [],_=>λu hu=>by(cases hu)
 | [_],_=>λu hu=>by(cases hu)
 | a::b::r,h=>λu hu=>by
  rw[df] at hu
  rcases List.mem_cons.mp hu with rfl | hu
  ·exact zh7 (hR a b h.1)
  ·exact zew hR h.2 u hu
theorem zaX {p:List P}{u:P}:u∈df p->∃a b,(∀R:P->P->Prop,Path R p->R a b)/\u=sb a b:=by
 match p with
 | []=>intro h; cases h
 | [_]=>intro h; cases h
 | a::b::r=>
  intro h;rw[df] at h
  rcases List.mem_cons.mp h with rfl | h
  ·exact⟨a,b,λR q=>q.1,rfl⟩
  ·obtain⟨x,y,q,e⟩:=zaX h;exact⟨x,y,λR w=>q R w.2,e⟩
theorem z8j {R:P->P->Prop}:∀{p:List P},p.Pairwise R->Path R p
 | [],_=>trivial
 | [_],_=>trivial
 | a::b::r,h=>by
  rw[List.pairwise_cons] at h;exact⟨h.1 b (by simp),z8j h.2⟩
theorem zgD {S:P->Prop}{O:P->P->Prop}(hO:∀a b c d:P,O a b->O c d->(Rs (sb a b)↔Rs (sb c d)))(tr:∀a b c:P,O a b->O b c->a≠c):∀{p:List P},Path (Edge S) p->Path O p->(df p).Pairwise Be
 | [],_,_ =>.nil
 | [_],_,_ =>.nil
 | [a,b],_,_=>List.pairwise_singleton _ _
 | a::b::c::r,h,o=>by
  have ih:=zgD hO tr h.2 o.2;have nz:=zew (λ_ _ (e:Edge S _ _)=>e.ne) h.2;rw[df,List.pairwise_cons];refine⟨λu hu =>?_,ih⟩;have first:Be (sb a b) (sb b c) :=.inr ⟨hO a b b c o.1 o.2.1,by
   have:=z7i h.1 h.2.1 (tr a b c o.1 o.2.1);have e:cr a b c=cx (sb a b) (sb b c):=by simp only[cr,cx,sb]; grind
   rwa [e] at this⟩
  rw[df] at hu ih nz
  rcases List.mem_cons.mp hu with rfl | hu
  ·exact first
  ·exact first.tr (zh7 h.1.ne) (nz _ (by simp)) (nz u (by simp[hu])) ((List.pairwise_cons.mp ih).1 u hu)
structure Rnd (h:List P):Prop where
 nz:Nz (rd h)
 up:(rd h).Pairwise Be
 zero:vs (rd h)=(0,0)
theorem Hd.rnd {l h:List P}(x:Hd l h)(hn:l≠[]):Rnd h:=by
 obtain⟨rl,h1,h2,rfl⟩:=x;have hr:rl≠[]:=λz=>by
  obtain⟨p,r,rfl⟩:=List.exists_cons_of_ne_nil hn;have:=(h2 p).mpr (by simp);rw[z] at this
  cases this
 have hp:=List.length_pos_iff.mpr hr
 rcases Nat.lt_or_ge rl.length 2 with z | z
 ·have e:hull rl=rl:=if_pos (by lia);have:rd (hull rl)=[]:=by rw[e]; exact if_pos (by lia)
  refine⟨?_,?_,?_⟩ <;> rw[this]
  ·exact λu hu=>by(cases hu)
  ·exact .nil
  ·rfl
 ·obtain⟨m,M,A,B,e,ml,Ml,hlt,hmin,hmax,pa,pb,wa,wb⟩:=z7V z h1;have er:rd (hull rl)=df (m::A++[M])++df (M::B++[m]):=by
   unfold rd;rw[if_neg (by rw[e]; simp),e];show df (m::A++M::B++[m])=_;rw[List.append_assoc,List.cons_append];exact zfd
  have up:=z8j pa;have dn:=z8j pb;have edge:∀a b,Edge (· ∈ rl) a b->a≠b:=λa b e=>e.ne;refine⟨?_,?_,?_⟩
  ·rw[er];intro u hu
   rcases List.mem_append.mp hu with hu | hu
   ·exact zew edge wa u hu
   ·exact zew edge wb u hu
  ·rw[er,List.pairwise_append];refine⟨zgD (O:=Lx) (λa b c d q w=>⟨λ_=>zgs w,λ_=>zgs q⟩) (λa b c q w z=>by subst z; exact Lx.irr (ziL q w)) wa up,zgD (O:=λx y=>Lx y x) (λa b c d q w=>⟨λz=>absurd z (zcJ q),λz=>absurd z (zcJ w)⟩) (λa b c q w z=>by subst z; exact Lx.irr (ziL q w)) wb dn,λu hu v hv =>?_⟩;obtain⟨a,b,q,rfl⟩:=zaX hu;obtain⟨c,d,w,rfl⟩:=zaX hv;exact .inl ⟨zgs (q _ up),zcJ (w _ dn)⟩
  ·rw[er,zbQ,zd6,zd6];simp only[pl,sb];exact Prod.ext (by simp; lia) (by simp; lia)
theorem zhk {h:List P}{a:P}{r K L:List P}(e:h=a::r)(k:rd h=K++L):∃q∈h,vs K=sb a q:=by
 subst e;unfold rd at k
 split at k
 ·have:K=[]:=(List.append_eq_nil_iff.mp k.symm).1;subst this;exact⟨a,by simp,by simp[vs,sb]⟩
 ·obtain⟨q,hq,v⟩:=ziZ (r:=r++[a]) (a:=a) k;refine⟨q,?_,v⟩;simp at hq ⊢
  rcases hq with z | z | z
  ·exact .inl z
  ·exact .inr z
  ·exact .inl z
theorem zaw {h:List P}{a q:P}{r:List P}(e:h=a::r)(hq:q∈h):∃K L,rd h=K++L/\vs K=sb a q:=by
 subst e;unfold rd
 split
 ·rename_i z
  have:r=[]:=List.length_eq_zero_iff.mp (by simpa using z);subst this;rw[List.mem_singleton.mp hq];exact⟨[],[],rfl,by simp[vs,sb]⟩
 ·exact zaW (r:=r++[a]) (a:=a) (by simp at hq ⊢; rcases hq with z | z; exact .inl z; exact .inr (.inl z))
theorem join {l1 l2 h1 h2 r1 r2:List P}{a b:P}(x1:Hd l1 h1)(x2:Hd l2 h2)(n1:l1≠[])(n2:l2≠[])(e1:h1=a::r1)(e2:h2=b::r2):
  (∀K L,mg (rd h1) (rd h2)=K++L->∃p∈h1,∃q∈h2,pl (pl a b) (vs K)=pl p q)/\
  ∀p∈h1,∀q∈h2,∀d:P,∃K L,mg (rd h1) (rd h2)=K++L/\sc (pl p q) d<=sc (pl (pl a b) (vs K)) d:=by
 have R1:=x1.rnd n1;have R2:=x2.rnd n2;refine⟨λK L k =>?_,λp hp q hq d =>?_⟩
 ·obtain⟨E1,E2,F1,F2,q1,q2,q3⟩:=zf3 k;obtain⟨p,hp,v1⟩:=zhk e1 q1;obtain⟨q,hq,v2⟩:=zhk e2 q2;refine⟨p,hp,q,hq,?_⟩;rw[zbP q3,zbQ,v1,v2];simp only[pl,sb];exact Prod.ext (by simp; lia) (by simp; lia)
 ·by_cases hd:d=(0,0)
  ·subst hd;exact⟨[],_,rfl,by simp[sc]⟩
  ·have ht:((-d.2,d.1):P)≠(0,0):=λz=>hd (by
    have z1:=congrArg Prod.fst z;have z2:=congrArg Prod.snd z;simp at z1 z2;exact Prod.ext z2 z1)
   obtain⟨K,L,k,far⟩:=zgq ht R1.nz R2.nz R1.up R2.up R1.zero R2.zero;obtain⟨K1,L1,k1,v1⟩:=zaw e1 hp;obtain⟨K2,L2,k2,v2⟩:=zaw e2 hq;refine⟨K,L,k,?_⟩;have:=far K1 L1 K2 L2 k1 k2;rw[zac,zac,zac,v1,v2] at this;simp only[cx,sb,sc,pl] at*
   grind
end Geo
namespace Pu
open PySem L2
theorem ziE {p r:Int × Int}{Q:DK}{X:XP}(q:Q (.bl (HT.z0r [r.1,r.2] [p.1,p.2]))):pGt.run [vec p,vec r] Q X:=q
theorem zf8 (u:P):HT.z0r [(0:Int),0] [u.1,u.2]=decide (Geo.Rs u):=by
 rw[Bool.eq_iff_iff,decide_eq_true_iff];exact(zf9 (a:=(0,0)) (b:=u)).trans ⟨λh=>by simp only[Geo.Lx,Geo.Rs] at *; lia,λh=>by simp only[Geo.Lx,Geo.Rs] at *; lia⟩
theorem s_goes_first {u v:P}{Q:DK}{X:XP}(hu:Vb 30000000 u)(hv:Vb 30000000 v)(q:Q (.bl (decide (Geo.Be u v)))):z2e.run [vec u,vec v] Q X:=by
 walk_at "fn";walk_at "go";refine ziE (p:=u) (r:=(0,0)) ?_;rw[show HT.z0r [((0,0):P).1,((0,0):P).2] [u.1,u.2]=decide (Geo.Rs u) from zf8 u];walk_at "go";refine ziE (p:=v) (r:=(0,0)) ?_;rw[show HT.z0r [((0,0):P).1,((0,0):P).2] [v.1,v.2]=decide (Geo.Rs v) from zf8 v];walk_at "go";refine zio ?_;refine z89 (z3s (λe =>?_) (λe =>?_))
 ·walk_at "go";refine s_turn_of hu hv ?_;walk_at "go";have e':Geo.Rs u↔Geo.Rs v:=by rw[<- decide_eq_true_iff (p:=Geo.Rs u),e,decide_eq_true_iff]
  have:decide (0<u.1*v.2 - u.2*v.1)=decide (Geo.Be u v):=decide_eq_decide.mpr ⟨λz =>.inr ⟨e',z⟩,λz=>by
   rcases z with ⟨a,b⟩ | ⟨_,b⟩
   ·exact absurd (e'.mp a) b
   ·exact b⟩
  rw[this];exact q
 ·walk_at "go";have:decide (Geo.Rs u)=decide (Geo.Be u v):=decide_eq_decide.mpr ⟨λz =>.inl ⟨z,λw=>e (by rw[decide_eq_true z,decide_eq_true w])⟩,λz=>by
   rcases z with ⟨a,_⟩ | ⟨a,_⟩
   ·exact a
   ·exact absurd (decide_eq_decide.mpr a) e⟩
  rw[this];exact q
theorem s_steps_merged {E F:List P}{Q:DK}{X:XP}(hE:Wb 30000000 E)(hF:Wb 30000000 F)(zE:E.length<=1000)(zF:F.length<=1000)(q:Q (.lst ((Geo.mg E F).map vec))):z1w.run [.lst (E.map vec),.lst (F.map vec)] Q X:=by
 walk_at "fn";walk_at "go";refine z2D (λx hx=>by cases hx) ?_;walk_at "en";walk_at "go";refine z2w (f:=vec) (λdn ρ=>∃(st:List P) (n:Nat) (x4:B),(∀G,Geo.mg E (dn++G)=st++Geo.mg (E.drop n) G)/\n<=E.length/\st.length=n+dn.length/\ρ=[.s (.lst (E.map vec)),.s (.lst (F.map vec)),.o (.lst (st.map vec)),.s (.int (n:Int)),x4]) ⟨[],0,_,λG=>by simp,by simp,by simp,rfl⟩ ?_ ?_
 ·rintro dn f r ρ e ⟨st,n,x4,hm,hn,hl,rfl⟩;have hf:=hF f (by rw[e]; simp);have hd:dn.length<=1000:=by
   have:=congrArg List.length e;simp at this;omega
  show Sm.run _ _ _ _ _;walk_at "en";refine zhd (λρ'=>∃(st':List P) (n':Nat),st'=st++(E.drop n).takeWhile (λu=>decide (Geo.Be u f))/\E.drop n'=(E.drop n).dropWhile (λu=>decide (Geo.Be u f))/\n'<=E.length/\st'.length=n'+dn.length/\ρ'=[.s (.lst (E.map vec)),.s (.lst (F.map vec)),.o (.lst (st'.map vec)),.s (.int (n':Int)),.s (vec f)]) ?_ ?_
  ·refine z8P (λρ=>∃(st':List P) (n':Nat),st'++(E.drop n').takeWhile (λu=>decide (Geo.Be u f))=st++(E.drop n).takeWhile (λu=>decide (Geo.Be u f))/\(E.drop n').dropWhile (λu=>decide (Geo.Be u f))=(E.drop n).dropWhile (λu=>decide (Geo.Be u f))/\n'<=E.length/\st'.length=n'+dn.length/\ρ=[.s (.lst (E.map vec)),.s (.lst (F.map vec)),.o (.lst (st'.map vec)),.s (.int (n':Int)),.s (vec f)]) (λρ=>match ρ with | [_,_,_,.s (.int n),_]=>((E.length:Int) - n).toNat | _=>0) ⟨st,n,rfl,rfl,hn,hl,rfl⟩ ?_;rintro ρ ⟨st',n',h1,h2,h3,h4,rfl⟩;walk_at "go";rw[List.length_map];refine z3s (λz =>?_) (λz =>?_)
   ·have hn':n'<E.length:=by omega
    obtain⟨u,hu,eu⟩:=z6d (xs:=E) (i:=(n':Int)) (by omega) (by omega);have ed:E.drop n'=u::E.drop (n'+1):=by
     rw[List.drop_eq_getElem_cons hn']
     congr 1
     rw[zdn hn',List.getElem?_eq_getElem hn'] at eu;exact Option.some.inj eu
    walk_at "go";refine z2S (z1H eu) ?_;walk_at "go";refine s_goes_first (hE u hu) hf ?_;refine z3s (λb =>?_) (λb =>?_)
    ·refine zbc (z8Z (l:=[]) (z1M rfl ?_));walk_at "go";refine z2S (z1H eu) ?_;refine⟨by rw[List.length_map]; exact szl' (by omega),Safe.of_noL rfl rfl _,?_⟩;walk_at "en";walk_at "go";refine⟨⟨st'++[u],n'+1,?_,?_,by omega,by simp; omega,by rw[List.map_append]; simp⟩,?_⟩
     ·rw[<- h1,ed,List.takeWhile_cons,if_pos (by simpa using b),List.append_assoc]
      rfl
     ·rw[<- h2,ed,List.dropWhile_cons,if_pos (by simpa using b)]
     ·show ((E.length:Int) - ((n':Int)+1)).toNat<((E.length:Int) - (n':Int)).toNat
      omega
    ·rw[ed,List.takeWhile_cons,if_neg (by simpa using b),List.append_nil] at h1;rw[ed,List.dropWhile_cons,if_neg (by simpa using b), <- ed] at h2;exact⟨st',n',h1,h2,h3,h4,rfl⟩
   ·walk_at "go";have ed:E.drop n'=[]:=List.drop_eq_nil_of_le (by omega);rw[ed] at h1 h2;simp only[List.takeWhile_nil,List.append_nil,List.dropWhile_nil] at h1 h2;exact⟨st',n',h1,by rw[ed]; exact h2,h3,h4,rfl⟩
  rintro ρ' ⟨st',n',rfl,h2,h3,h4,rfl⟩;refine z8Z (l:=[]) (z1M rfl ?_);walk_at "go";refine⟨by rw[List.length_map,h4]; exact szl' (by omega),Safe.of_noL rfl rfl _,?_⟩;walk_at "en";refine⟨st++(E.drop n).takeWhile (λu=>decide (Geo.Be u f))++[f],n',_,λG =>?_,h3,by rw[List.length_append,h4]; simp; omega,by rw[List.map_append (l₂:=[f])]; rfl⟩;rw[List.append_assoc,List.singleton_append,hm (f::G),Geo.mg,h2];simp
 rintro ρ ⟨st,n,x4,hm,hn,hl,rfl⟩;have em:=hm [];rw[List.append_nil,Geo.mg] at em;walk_at "go";rw[zdc (by omega)];refine zaL (by simp; exact szl (by omega)) ?_;rw[<- List.map_append,show ((n:Int)).toNat=n by omega, <- em];exact q
end Pu
namespace Pu
open PySem L2
theorem zil {l m:List D}{Q:DK}{X:XP}(q:Q (.lst ((l.zip m).map λp =>.tup [p.1,p.2]))):zdZ.run [.tup l,.tup m] Q X:=q
theorem zj1 {α:Type}{f:α->D}{l:List α}{k:Int}(h:0<=k):cutD (l.map f) none (some k)=(l.take k.toNat).map f:=by
 have hs:HT.sIx l.length l.length (some k)=min k.toNat l.length:=by
  show (if k<0 then (k+(l.length:Int)).toNat else min k.toNat l.length)=_;rw[if_neg (by lia)]
 rw[z3f,hs];show ((l.drop 0).take (min k.toNat l.length - 0)).map f=_;rw[List.drop_zero,Nat.sub_zero, <- List.take_eq_take_min]
theorem zeH:∀(r:List P) (a z:P),((a::r).zip (r++[z])).map (λp=>Geo.sb p.1 p.2)=Geo.df (a::r++[z])
 | [],a,z=>rfl
 | b::r,a,z=>by
  show Geo.sb a b::((b::r).zip (r++[z])).map (λp=>Geo.sb p.1 p.2)=Geo.sb a b::Geo.df (b::r++[z]);rw[zeH r b z]
theorem s_steps_round {h:List P}{Q:DK}{X:XP}(hz:h.length<=1000)(hn:h≠[])(q:Q (.lst ((Geo.rd h).map vec))):z1q.run [vecs h,.fn 2] Q X:=by
 walk_at "fn";walk_at "go";rw[List.length_map];refine z3s (λz =>?_) (λz =>?_)
 ·walk_at "go";have:Geo.rd h=[]:=if_pos (by lia);rw[this] at q;exact q
 walk_at "go";obtain⟨a,r,rfl⟩:=List.exists_cons_of_ne_nil hn;rw[zdc (by decide),zj1 (by decide)];refine ziG (by simp; exact szl (by simp at hz; lia)) ?_;rw[<- List.map_append,show (a::r).drop (1:Int).toNat++(a::r).take (1:Int).toNat=r++[a] from rfl];refine z3i (Safe.of_noL (z3A _) (z3B _) _) ?_;walk_at "en";walk_at "go";refine zil ?_;rw[List.zip_map,List.map_map];walk_at "go";refine⟨by rw[List.length_map]; exact szl' (by simp at hz ⊢; lia),?_⟩;refine z3r (g:=λp:P × P=>vec (Geo.sb p.1 p.2)) (λp hp K hK =>?_) ?_
 ·refine⟨rfl,?_⟩;show Ex.run _ _ _ _;unfold z6H z6H z6H;walk_at "en";refine zd5 rfl ?_;walk_at "go";exact s_step_of hK
 have e:Geo.rd (a::r)=Geo.df (a::r++[a]):=if_neg (by lia);rw[show (((a::r).zip (r++[a])).map λp=>vec (Geo.sb p.1 p.2))=(((a::r).zip (r++[a])).map λp=>Geo.sb p.1 p.2).map vec by rw[List.map_map]; rfl,zeH, <- e];exact q
theorem zfc:∀(l:List P),(Geo.df l).length<=l.length - 1
 | []=>by simp[Geo.df]
 | [_]=>by simp[Geo.df]
 | a::b::r=>by
  have:=zfc (b::r);rw[Geo.df];simp at this ⊢;lia
theorem zax (h:List P):(Geo.rd h).length<=h.length:=by
 unfold Geo.rd
 split
 ·simp
 ·have:=zfc (h++h.take 1);simp at this;lia
theorem zhi {h:List P}(hb:Wb 20000000 h):Wb 30000000 (Geo.rd h):=λu hu=>by
 unfold Geo.rd at hu
 split at hu
 ·cases hu
 ·obtain⟨a,b,R,rfl⟩:=Geo.zaX hu;have:∀p∈h++h.take 1,p∈h:=λp hp=>(List.mem_append.mp hp).elim id List.mem_of_mem_take;have pw:=R (λa b=>a∈h/\b∈h) (Geo.z8j (List.pairwise_of_forall_mem_list λx hx y hy=>⟨this x hx,this y hy⟩));exact(hb a pw.1).step (hb b pw.2)
noncomputable def Sm2 (l1 l2:List P)(p:P):Prop:=∃a∈l1,∃b∈l2,p=Geo.pl a b
theorem s_joined {l1 l2:List P}{Q:DK}{X:XP}(b1:Wb 10000000 l1)(b2:Wb 10000000 l2)(n1:l1≠[])(n2:l2≠[])(z1:l1.length<=400)(z2:l2.length<=400)(q:∀h,Geo.z0n (Sm2 l1 l2) h->h.length<=l1.length+l2.length+1->Q (vecs h)):z3H.run [vecs l1,vecs l2] Q X:=by
 walk_at "fn";walk_at "go";refine s_least_headings (.inl rfl) b1.le (by lia) λh1 x1 =>?_;refine z3i (Safe.of_noL (z3A _) (z3B _) _) ?_;walk_at "en";walk_at "go";refine s_least_headings (.inl rfl) b2.le (by lia) λh2 x2 =>?_;refine z3i (Safe.of_noL (z3A _) (z3B _) _) ?_;walk_at "en";have y1:=x1.is n1;have y2:=x2.is n2;have m1:=z1v y1.nodup y1.sub;have m2:=z1v y2.nodup y2.sub;obtain⟨a,r1,e1,_⟩:=y1.ex;obtain⟨b,r2,e2,_⟩:=y2.ex;have J:=Geo.join x1 x2 n1 n2 e1 e2;have c1:Wb 20000000 h1:=λp hp=>(b1.le:Wb 20000000 l1) p (y1.sub p hp);have c2:Wb 20000000 h2:=λp hp=>(b2.le:Wb 20000000 l2) p (y2.sub p hp);walk_at "go";refine z2S (d:=vec a) (by rw[e1]; exact zdl) ?_;walk_at "go";refine z2S (d:=vec b) (by rw[e2]; exact zdl) ?_;refine s_vector_added ?_;refine z3i (Safe.of_noL rfl rfl _) ?_;walk_at "en";walk_at "go";refine z2D (λx hx=>by rw[List.mem_singleton.mp hx]; exact Safe.of_noL rfl rfl _) ?_;walk_at "en";walk_at "go";refine s_steps_round (by lia) (by rw[e1]; simp) ?_;walk_at "go";refine s_steps_round (by lia) (by rw[e2]; simp) ?_;have k1:=zax h1;have k2:=zax h2;refine s_steps_merged (zhi c1) (zhi c2) (by lia) (by lia) ?_;have km:=(Geo.z5K (Geo.rd h1) (Geo.rd h2)).length_eq;rw[List.length_append] at km;generalize Geo.mg (Geo.rd h1) (Geo.rd h2)=M at*;walk_at "go";refine z2w (f:=vec) (λdn ρ=>∃(H:List P) (x6:B),H.length=dn.length+1/\(∀p,p∈H↔∃K L,dn=K++L/\p=Geo.pl (Geo.pl a b) (Geo.vs K))/\ρ=[.s (vecs l1),.s (vecs l2),.s (vecs h1),.s (vecs h2),.s (vec (Geo.pl (Geo.pl a b) (Geo.vs dn))),.o (.lst (H.map vec)),x6]) ⟨[Geo.pl a b],_,rfl,λp =>?_,by simp[Geo.vs,Geo.pl]; rfl⟩ ?_ ?_
 ·constructor
  ·intro h;exact⟨[],[],rfl,by rw[List.mem_singleton.mp h]; simp[Geo.vs,Geo.pl]⟩
  ·rintro⟨K,L,e,rfl⟩;rw[(List.append_eq_nil_iff.mp e.symm).1];simp[Geo.vs,Geo.pl]
 ·rintro dn u r ρ e ⟨H,x6,hl,hH,rfl⟩;have hd:dn.length<M.length:=by rw[e]; simp
  show Sm.run _ _ _ _ _;walk_at "en";walk_at "go";refine s_vector_added ?_;refine z3i (Safe.of_noL rfl rfl _) ?_;walk_at "en";refine z8Z (l:=[]) (z1M rfl ?_);walk_at "go";refine⟨by rw[List.length_map]; exact szl' (by lia),Safe.of_noL rfl rfl _,?_⟩;walk_at "en";have ev:(((Geo.pl (Geo.pl a b) (Geo.vs dn)).1+u.1,(Geo.pl (Geo.pl a b) (Geo.vs dn)).2+u.2):P)=Geo.pl (Geo.pl a b) (Geo.vs (dn++[u])):=by
   rw[Geo.zbQ];simp[Geo.pl,Geo.vs,Int.add_assoc]
  rw[ev];refine⟨H++[Geo.pl (Geo.pl a b) (Geo.vs (dn++[u]))],_,by simp[hl],λp =>?_,by rw[List.map_append]; rfl⟩;rw[List.mem_append,hH,List.mem_singleton]
  constructor
  ·rintro(⟨K,L,e,rfl⟩ | rfl)
   ·exact⟨K,L++[u],by rw[e,List.append_assoc],rfl⟩
   ·exact⟨dn++[u],[],by simp,rfl⟩
  ·rintro⟨K,L,e,rfl⟩
   rcases List.eq_nil_or_concat L with rfl | ⟨L',w,rfl⟩
   ·rw[List.append_nil] at e;exact .inr (by rw[e])
   ·rw[List.concat_eq_append, <- List.append_assoc] at e;exact .inl ⟨K,L',(List.append_inj' e rfl).1,rfl⟩
 rintro ρ ⟨H,x6,hl,hH,rfl⟩;have hsum:∀p∈H,Sm2 l1 l2 p:=λp hp=>by
  obtain⟨K,L,e,rfl⟩:=(hH p).mp hp;obtain⟨p,hp,q,hq,e⟩:=J.1 K L e;exact⟨p,y1.sub p hp,q,y2.sub q hq,e⟩
 walk_at "go";refine s_least_headings (l:=H) (.inr rfl) (λp hp =>?_) (by lia) λh x =>?_
 ·obtain⟨u,hu,v,hv,rfl⟩:=hsum p hp;exact⟨(Bt.add (b1 u hu).1 (b2 v hv).1).le,(Bt.add (b1 u hu).2 (b2 v hv).2).le⟩
 have hn:H≠[]:=λz=>by rw[z] at hl; simp at hl
 have y:=x.is hn;refine q h (zcS y (λp hp=>hsum p (y.sub p hp)) λp hp w =>?_) (by have:=z1v y.nodup y.sub; lia);obtain⟨u,hu,v,hv,rfl⟩:=hp;obtain⟨cu,hcu,lu⟩:=y1.far (y1.in hu) w;obtain⟨cv,hcv,lv⟩:=y2.far (y2.in hv) w;obtain⟨K,L,e,le⟩:=J.2 cu hcu cv hcv w;refine⟨_,(hH _).mpr ⟨K,L,e,rfl⟩,?_⟩;have s1:dot (Geo.pl u v) w=Geo.sc u w+Geo.sc v w:=by simp only[dot,Geo.pl,Geo.sc]; grind
 have s2:Geo.sc (Geo.pl cu cv) w=Geo.sc cu w+Geo.sc cv w:=by simp only[Geo.pl,Geo.sc]; grind
 have s3:dot (Geo.pl (Geo.pl a b) (Geo.vs K)) w=Geo.sc (Geo.pl (Geo.pl a b) (Geo.vs K)) w:=rfl;rw[s1,s3];lia
end Pu
namespace Geo
theorem zc9:∀l:List P,∃rl:List P,rl.Pairwise Lx/\∀p,p∈rl↔p∈l
 | []=>⟨[],.nil,λ_=>Iff.rfl⟩
 | a::l=>by
  obtain⟨rl,h1,h2⟩:=zc9 l;have:∀rl:List P,rl.Pairwise Lx->∃rl':List P,rl'.Pairwise Lx/\∀p,p∈rl'↔p=a\/p∈rl:=by
   intro rl
   induction rl with
   | nil=>exact λ_=>⟨[a],by simp,by simp⟩
   | cons b r ih=>
    intro h;have hb:=List.pairwise_cons.mp h
    rcases Lx.tri a b with z | z | z
    ·exact⟨a::b::r,List.pairwise_cons.mpr ⟨λc hc=>by
      rcases List.mem_cons.mp hc with rfl | hc
      ·exact z
      ·exact z.tr (hb.1 c hc),h⟩,λp=>List.mem_cons⟩
    ·exact⟨b::r,h,λp=>by rw[z]; simp⟩
    ·obtain⟨r',i1,i2⟩:=ih hb.2;exact⟨b::r',List.pairwise_cons.mpr ⟨λc hc=>by
      rcases(i2 c).mp hc with rfl | hc
      ·exact z
      ·exact hb.1 c hc,i1⟩,λp=>by rw[List.mem_cons,i2,List.mem_cons]; exact or_left_comm⟩
  obtain⟨rl',j1,j2⟩:=this rl h1;exact⟨rl',j1,λp=>by rw[j2,h2,List.mem_cons]⟩
theorem Hd.ex (l:List P):∃h,Hd l h:=by
 obtain⟨rl,h1,h2⟩:=zc9 l;exact⟨_,rl,h1,h2,rfl⟩
end Geo
namespace Pu
open PySem L2
theorem zel {l1 l2 h:List P}(n1:l1≠[])(n2:l2≠[])(x:Geo.z0n (Sm2 l1 l2) h):h.length<=l1.length+l2.length+1:=by
 obtain⟨h1,x1⟩:=Geo.Hd.ex l1;obtain⟨h2,x2⟩:=Geo.Hd.ex l2;have y1:=x1.is n1;have y2:=x2.is n2;have m1:=z1v y1.nodup y1.sub;have m2:=z1v y2.nodup y2.sub;obtain⟨a,r1,e1,_⟩:=y1.ex;obtain⟨b,r2,e2,_⟩:=y2.ex;have J:=Geo.join x1 x2 n1 n2 e1 e2;have k1:=zax h1;have k2:=zax h2;have km:=(Geo.z5K (Geo.rd h1) (Geo.rd h2)).length_eq;rw[List.length_append] at km;generalize Geo.mg (Geo.rd h1) (Geo.rd h2)=M at*;obtain⟨H,hl,hH⟩:∃H:List P,H.length=M.length+1/\∀p,p∈H↔∃K L,M=K++L/\p=Geo.pl (Geo.pl a b) (Geo.vs K):=by
  refine⟨(List.range (M.length+1)).map λk=>Geo.pl (Geo.pl a b) (Geo.vs (M.take k)),by simp,λp =>?_⟩;rw[List.mem_map]
  constructor
  ·rintro⟨k,_,rfl⟩;exact⟨M.take k,M.drop k,(List.take_append_drop k M).symm,rfl⟩
  ·rintro⟨K,L,e,rfl⟩;exact⟨K.length,by rw[List.mem_range,e,List.length_append]; lia,by rw[e,List.take_left]⟩
 have hsum:∀p∈H,Sm2 l1 l2 p:=λp hp=>by
  obtain⟨K,L,e,rfl⟩:=(hH p).mp hp;obtain⟨p,hp,q,hq,e⟩:=J.1 K L e;exact⟨p,y1.sub p hp,q,y2.sub q hq,e⟩
 obtain⟨h',x'⟩:=Geo.Hd.ex H;have hn:H≠[]:=λz=>by rw[z] at hl; simp at hl
 have y:=x'.is hn;have w:Geo.z0n (Sm2 l1 l2) h':=zcS y (λp hp=>hsum p (y.sub p hp)) λp hp w=>by
  obtain⟨u,hu,v,hv,rfl⟩:=hp;obtain⟨cu,hcu,lu⟩:=y1.far (y1.in hu) w;obtain⟨cv,hcv,lv⟩:=y2.far (y2.in hv) w;obtain⟨K,L,e,le⟩:=J.2 cu hcu cv hcv w;refine⟨_,(hH _).mpr ⟨K,L,e,rfl⟩,?_⟩;have s1:dot (Geo.pl u v) w=Geo.sc u w+Geo.sc v w:=by simp only[dot,Geo.pl,Geo.sc]; grind
  have s2:Geo.sc (Geo.pl cu cv) w=Geo.sc cu w+Geo.sc cv w:=by simp only[Geo.pl,Geo.sc]; grind
  have s3:dot (Geo.pl (Geo.pl a b) (Geo.vs K)) w=Geo.sc (Geo.pl (Geo.pl a b) (Geo.vs K)) w:=rfl;rw[s1,s3];lia
 obtain rfl:h=h':=x.unique w;have:=z1v y.nodup y.sub;lia
end Pu
namespace Pu
open PySem L2
theorem s_law_sums {l1 l2:List P}{Q:DK}{X:XP}(hz:l1.length*l2.length<=2040)(z1:l1.length<=2040)(z2:l2.length<=2040)(q:∀S:List P,S.length=l1.length*l2.length->(∀p,p∈S↔Sm2 l1 l2 p)->Q (.lst (S.map vec))):z19.run [vecs l1,vecs l2] Q X:=by
 walk_at "fn";walk_at "go";refine z2D (λx hx=>by cases hx) ?_;walk_at "en";walk_at "go";refine z2w (f:=vec) (λdn ρ=>∃(S:List P) (x3:B),S.length=dn.length*l2.length/\(∀p,p∈S↔Sm2 dn l2 p)/\ρ=[.s (vecs l1),.s (vecs l2),.o (.lst (S.map vec)),x3]) ⟨[],_,by simp,λp=>⟨λz=>by(cases z),λ⟨a,ha,_⟩=>by(cases ha)⟩,rfl⟩ ?_ ?_
 ·rintro dn u r ρ e ⟨S,x3,hl,hS,rfl⟩;have hd:dn.length<=l1.length:=by rw[e]; simp
  have hm:dn.length*l2.length<=2040:=Nat.le_trans (Nat.mul_le_mul_right _ hd) hz;show Sm.run _ _ _ _ _;walk_at "en";refine zjf (z1M rfl ?_);walk_at "go";refine⟨by rw[List.length_map]; exact szl' (by lia),?_⟩;refine z3r (g:=λp=>vec (Geo.pl u p)) (λp hp K hK =>?_) ?_
  ·walk_at "go";exact hK
  refine⟨by rw[List.length_map,List.length_map]; exact szl (by lia),λx hx =>?_,?_⟩
  ·obtain⟨y,_,rfl⟩:=List.mem_map.mp hx;exact Safe.of_noL rfl rfl _
  walk_at "en";refine⟨S++l2.map (Geo.pl u),_,?_,λp =>?_,by rw[List.map_append,List.map_map]; rfl⟩
  ·rw[List.length_append,List.length_append,List.length_map,hl,List.length_singleton,Nat.add_mul,Nat.one_mul]
  ·rw[List.mem_append,hS,List.mem_map]
   constructor
   ·rintro(⟨a,ha,b,hb,rfl⟩ | ⟨b,hb,rfl⟩)
    ·exact⟨a,by simp[ha],b,hb,rfl⟩
    ·exact⟨u,by simp,b,hb,rfl⟩
   ·rintro⟨a,ha,b,hb,rfl⟩
    rcases List.mem_append.mp ha with ha | ha
    ·exact .inl ⟨a,ha,b,hb,rfl⟩
    ·rw[List.mem_singleton.mp ha];exact .inr ⟨b,hb,rfl⟩
 rintro ρ ⟨S,x3,hl,hS,rfl⟩;walk_at "go";exact q S hl hS
end Pu
namespace Pu
open PySem PySem.Spec PyProof.Rows L2
end Pu
namespace Pu
open PySem L2
end Pu
namespace Pu
open PySem PySem.Spec PyProof.Rows L2
section
variable {X:Cx}{K:W.Frag}{mg:Str->Option Value}{E:XK}{G H:Hp}
theorem items_ints:∀{n:Nat}{acc:Array Value},ItemsOf (λi v=>∃t,v=Value.int (0+i*1) t) acc n->Vals ((List.range n).map λ(k:Nat)=>V.int (k:Int)) acc.toList:=by
 intro n acc h;have hz:=h.1;have all:∀(m:Nat) (l:List Value) (f:Nat->Int),l.length=m->(∀i v,l[i]? = some v->∃t,v=Value.int (f i) t)->Vals ((List.range m).map λ(k:Nat)=>V.int (f k)) l:=by
  intro m
  induction m with
  | zero=>intro l f e _; cases l with
   | nil=>exact .nil
   | cons=>simp at e
  | succ m ih=>
   intro l f e hv
   cases l with
   | nil=>simp at e
   | cons v l=>
    rw[List.range_succ_eq_map,List.map_cons,List.map_map];exact .cons (hv 0 v rfl) (ih l (λk=>f (k+1)) (by simpa using e) λi w hw=>hv (i+1) w (by simpa using hw))
 refine all n acc.toList (λk=>(k:Int)) (by simpa using hz) λi v e =>?_;obtain⟨t,e'⟩:=h.2 i v (by simpa using e);exact⟨t,by rw[e']; simp⟩
end
end Pu
namespace Pu
open PySem PySem.Spec PyProof.Rows L2 Tab
noncomputable def zgC (d:D)(Q:DK):Prop:=∃ks:List (List Int),d = .lst (ks.map tupD)/\(∀k∈ks,k≠[])/\ks.length<=sizeLine/\∀kl:List (List Int),kl.Perm ks->kl.Pairwise (λa b=>HT.z0r b a=false)->Q (.lst (kl.map tupD))
noncomputable def zcu:Fn:=fn1 zgC λd Q Q' m h=>by
 obtain⟨ks,e,h1,h2,q⟩:=h;exact⟨ks,e,h1,h2,λkl a b=>m _ (q kl a b)⟩
section
variable {X:Cx}
noncomputable def zhn (K:W.Frag):List V->Hp->VK->Prop:=λvs H Q=>∃G a xs ks,vs=[.ref a]/\Same G H/\SqL K G a xs/\Tis K G xs ks/\(∀k∈ks,k≠[])/\xs.length<=sizeLine/\
 ∀D out kl,H D=none->Tis K G out kl->kl.Perm ks->kl.Pairwise (λa b=>HT.z0r b a=false)->Q (.ref D) (upd H D (.lst out))
theorem zbI:z1l X (.builtin "sorted") (zhn X.K):=by
 intro pins s σ H xs us Q I rv ⟨G,a,ys,ks,e,g,hs,ht,hne,hz,q⟩;subst e;obtain⟨u,rfl,rx⟩:=z6y rv
 cases rx
 obtain⟨its,r,pl,_⟩:=I.list (z1K g hs);have two:Two (IsK X.prog X.w (MemV X.K G) s.heap) its ks:=zar (λb k hb=>⟨⟨b,k,rfl,hb⟩,b,rfl,z9O I g hb⟩) ht r;have hkeys:=zan two;have hti:∀v∈its,MemV X.K G v/\Tim.TI s.heap v (z5M s.heap v):=λv hv=>by
  obtain⟨k,_,m,b,rfl,z⟩:=two.mem_left hv;rw[z5h (TK.ti z)];exact⟨m,TK.ti z⟩
 have hlen:=r.length;refine Tim.z6E (key:=z5M s.heap) λE' =>?_;refine collect_list (vs:=its) (by simpa using pl.isList) ?_ (by lia);have keep:∀b o,s.heap.get? b=some o->((s.heap.push (seqObj "list" #[] 0)).update s.heap.objs.size (Obj.mapSeq (· ++ its.toArray))).get? b=some o:=λb o z=>by
  rw[Heap.get?_update_ne _ _ _ _ (Nat.ne_of_lt (Heap.lt_size z))];exact Heap.get?_push_of_some _ z
 refine⟨by lia,λv hv=>⟨(hti v hv).2.keep λb o g _=>keep b o g,hne _ (by rw[<- hkeys]; exact List.mem_map.mpr ⟨v,hv,rfl⟩)⟩,λout p1 p2 h' kp he =>?_⟩;obtain⟨e,he⟩:=he;have hti':∀v∈out,MemV X.K G v:=λv hv=>(hti v (p1.mem_iff.mp hv)).1;have perm:(out.map (z5M s.heap)).Perm ks:=by rw[<- hkeys]; exact p1.map _
 have hx:∃ys:List V,Vals ys out/\Tis X.K G ys (out.map (z5M s.heap)):=by
  clear p1 p2 he perm
  induction out with
  | nil=>exact⟨[],.nil,.nil⟩
  | cons v out ih=>
   obtain⟨ys,y1,y2⟩:=ih λv hv=>hti' v (List.mem_cons_of_mem _ hv);obtain⟨b,k,rfl,hb⟩:=hti' v List.mem_cons_self;refine⟨.ref b::ys,.cons rfl y1,.cons ⟨b,rfl,?_⟩ y2⟩;rw[z5h (TK.ti (z9O I g hb))];exact hb
 obtain⟨zs,y1,y2⟩:=hx;have hD:s.heap.get? ((s.heap.push (seqObj "list" #[] 0)).update s.heap.objs.size (Obj.mapSeq (· ++ its.toArray))).objs.size=none:=by
  cases z:s.heap.get? ((s.heap.push (seqObj "list" #[] 0)).update s.heap.objs.size (Obj.mapSeq (· ++ its.toArray))).objs.size with
  | none=>rfl
  | some o=>exact absurd (Heap.lt_size (keep _ _ z)) (Nat.lt_irrefl _)
 have hzl:zs.length<=sizeLine:=by
  have:=y1.length;have:=p1.length_eq;lia
 exact⟨.ref _,upd H _ (.lst zs),I.laid' (o :=.lst zs) (t':=s.toks) (λb o z=>kp b o (keep b o z)) hD ⟨hzl,out,e,y1,he⟩,rfl,q _ zs _ (I.hok.none_of hD) y2 perm (List.pairwise_map.mpr p2)⟩
theorem zdg (hu:X.A.units+64<cLine):z1l X (.builtin "sorted") (rNf X.K X.mg zcu):=zbI.imp λvs H Q ⟨G,ds,Q0,X0,g,rds,hr,hk⟩=>by
 obtain⟨d,rfl,hr'⟩:=z4q hr;obtain⟨v,rfl,rd⟩:=rds1 rds;obtain⟨ks,rfl,hne,hz,q⟩:=hr';obtain⟨a,xs,rfl,h1,h2⟩:=z2o rd;exact⟨G,a,xs,ks,rfl,g,h1,z8f h2,hne,by rw[h2.len,List.length_map]; exact hz,λD out kl hD ht pm pw=>hk.newL g hD (q kl pm pw) (zbU ht)⟩
end
end Pu
namespace Pu
open PySem L2
noncomputable def z0Y:Fn:=Fn.mkN 1 3 (.seq (.set 1 (.op pTup [(.op pTup [(.c (.int 0)),(.c (.int 0))])]))
 (.seq (.for_ [] (.nm 2) (.v 0) (.set 1 (.op z3H [(.v 1),(.v 2)])))
 (.ret (.v 1))))
noncomputable def z7h:Fn:=Fn.mkN 1 7 (.seq (.set 1 (.comp 1 [] (.nm 0) (.sl (.op z11 [(.v 0)]) none (some (.c (.int 12)))) none (.op pIx [(.v 0),(.c (.int 0))])))
 (.seq (.ifs (.op pLt [(.op pLen [(.v 0)]),(.c (.int 2))]) (.set 1 (.op pLst [])) .skip)
 (.seq (.set 2 (.op pTup [(.op pTup [(.c (.int 0)),(.c (.int 0))])]))
 (.seq (.for_ [] (.nm 3) (.v 1) (.set 2 (.op z12 [(.op z19 [(.v 2),(.v 3)])])))
 (.seq (.set 4 (.op zcu [(.comp 1 [0] (.nm 0) (.op z96 [(.op pLen [(.v 1)])]) none (.op pTup [(.op z08 [(.op z0k [(.v 1),(.c (.int 0))]),(.op pAdd [(.c (.int 60)),(.v 0)])]),(.v 0)]))]))
 (.seq (.set 5 (.op z3L [(.comp 1 [1] (.nm 0) (.v 4) none (.op pIx [(.v 1),(.op pIx [(.v 0),(.c (.int 1))])]))]))
 (.seq (.ifs (.or (.not (.op z0R [(.op z0Y [(.op z3L [(.v 1)])]),(.v 2)])) (.not (.op z0R [(.op z0Y [(.v 5)]),(.v 2)]))) (.ret (.c (.bl false))) .skip)
 (.seq (.set 6 (.op pMod [(.op z08 [(.op z0k [(.v 0),(.c (.int 0))]),(.c (.int 80))]),(.op pAdd [(.op pLen [(.v 1)]),(.c (.int 1))])]))
 (.seq (.ifs (.not (.op z0R [(.op z3H [(.op z0Y [(.sl (.v 5) none (some (.v 6)))]),(.op z0Y [(.sl (.v 5) (some (.v 6)) none)])]),(.v 2)])) (.ret (.c (.bl false))) .skip)
 (.ret (.op z0R [(.op z0Y [(.op pTup [])]),(.op pTup [(.op pTup [(.c (.int 0)),(.c (.int 0))])])])))))))))))
end Pu
namespace Geo
theorem In.of_far {S:P->Prop}{h:List P}{p:P}(x:z0n S h)(hf:∀b,∃c∈h,sc p b<=sc c b):In h p:=by
 match h,x,hf with
 | [],x,_=>obtain⟨m,t,e,_⟩:=x.ex; cases e
 | [m],x,hf=>
  have g:∀b,sc p b<=sc m b:=λb=>by
   obtain⟨c,hc,le⟩:=hf b;rw[List.mem_singleton.mp hc] at le;exact le
  have h1:=g (1,0);have h2:=g (-1,0);have h3:=g (0,1);have h4:=g (0,-1);simp only[sc] at h1 h2 h3 h4;show p=m;exact Prod.ext (by omega) (by omega)
 | [a,b],x,hf=>
  have g:∀u,sc p u<=sc a u\/sc p u<=sc b u:=λu=>by
   obtain⟨c,hc,le⟩:=hf u;simp only[List.mem_cons,List.not_mem_nil,or_false] at hc
   rcases hc with rfl | rfl
   ·exact .inl le
   ·exact .inr le
  have q1:=z0l (b.1 - a.1);have q2:=z0l (b.2 - a.2);have h1:=g (-(b.2 - a.2),b.1 - a.1);have h2:=g (b.2 - a.2,-(b.1 - a.1));have h3:=g (a.1 - b.1,a.2 - b.2);have h4:=g (b.1 - a.1,b.2 - a.2);clear g hf x;have e1:sc p (-(b.2 - a.2),b.1 - a.1)=sc a (-(b.2 - a.2),b.1 - a.1)+cr a b p:=by simp only[sc,cr]; grind
  have e2:sc b (-(b.2 - a.2),b.1 - a.1)=sc a (-(b.2 - a.2),b.1 - a.1):=by simp only[sc]; grind
  have e3:sc p (b.2 - a.2,-(b.1 - a.1))=sc a (b.2 - a.2,-(b.1 - a.1)) - cr a b p:=by simp only[sc,cr]; grind
  have e4:sc b (b.2 - a.2,-(b.1 - a.1))=sc a (b.2 - a.2,-(b.1 - a.1)):=by simp only[sc]; grind
  have e5:sc p (a.1 - b.1,a.2 - b.2)=sc a (a.1 - b.1,a.2 - b.2) - dot a b p:=by simp only[sc,dot]; grind
  have e6:sc b (a.1 - b.1,a.2 - b.2)=sc a (a.1 - b.1,a.2 - b.2) - ((b.1 - a.1)*(b.1 - a.1)+(b.2 - a.2)*(b.2 - a.2)):=by simp only[sc]; grind
  have e7:sc p (b.1 - a.1,b.2 - a.2)=sc b (b.1 - a.1,b.2 - a.2) - dot b a p:=by simp only[sc,dot]; grind
  have e8:sc a (b.1 - a.1,b.2 - a.2)=sc b (b.1 - a.1,b.2 - a.2) - ((b.1 - a.1)*(b.1 - a.1)+(b.2 - a.2)*(b.2 - a.2)):=by simp only[sc]; grind
  show cr a b p=0/\0<=dot a b p/\0<=dot b a p;generalize cr a b p=z1 at*;generalize dot a b p=z2 at*;generalize dot b a p=z3 at*;generalize (b.1 - a.1)*(b.1 - a.1)=z4 at*;generalize (b.2 - a.2)*(b.2 - a.2)=z5 at*;rw[e1,e2] at h1;rw[e3,e4] at h2;rw[e5,e6] at h3;rw[e7,e8] at h4;refine⟨?_,?_,?_⟩ <;> omega
 | a0::b0::c0::t,x,hf=>
  refine(In.three (by simp)).mpr λj a b hj ea eb =>?_;have e:=x.cyc (by simp) hj ea eb;obtain⟨c,hc,le⟩:=hf (b.2 - a.2,-(b.1 - a.1));have l:=e.left c (x.sub c hc);simp only[sc] at le;simp only[cr] at l ⊢
  grind
noncomputable def Ms:List (List P)->P->Prop
 | [],p=>p=(0,0)
 | d::ds,p=>∃q∈d,∃r,Ms ds r/\p=pl q r
theorem zcn (a b:P):pl a b=pl b a:=by simp only[pl]; exact Prod.ext (by simp; omega) (by simp; omega)
theorem zg1 (a b c:P):pl a (pl b c)=pl b (pl a c):=by simp only[pl]; exact Prod.ext (by simp; omega) (by simp; omega)
theorem z8t {l m:List (List P)}(h:l.Perm m):∀p,Ms l p->Ms m p:=by
 induction h with
 | nil=>exact λ_ h=>h
 | cons x _ ih=>rintro p ⟨q,hq,r,hr,e⟩; exact⟨q,hq,r,ih r hr,e⟩
 | swap x y l=>rintro p ⟨q,hq,r,⟨q',hq',r',hr',rfl⟩,rfl⟩; exact⟨q',hq',_,⟨q,hq,r',hr',rfl⟩,zg1 _ _ _⟩
 | trans _ _ ih1 ih2=>exact λp h=>ih2 p (ih1 p h)
theorem zgo {ds:List (List P)}{d:List P}{p:P}:Ms (ds++[d]) p↔∃r,Ms ds r/\∃q∈d,p=pl r q:=by
 constructor
 ·intro h;obtain⟨q,hq,r,hr,e⟩:=z8t (List.perm_append_singleton d ds) p h;exact⟨r,hr,q,hq,by rw[e,zcn]⟩
 ·rintro⟨r,hr,q,hq,e⟩;exact z8t (List.perm_append_singleton d ds).symm p ⟨q,hq,r,hr,by rw[e,zcn]⟩
theorem zjb (a b u:P):sc (pl a b) u=sc a u+sc b u:=by simp only[sc,pl]; grind
theorem zcF:z0n (Ms []) [(0,0)]:=⟨(0,0),[],rfl,rfl,λp hp=>by(have:p=(0,0):=hp; rw[this]; exact Lx.irr),by simp,.inl ⟨rfl,λ_ h=>h⟩⟩
noncomputable def Far (S:P->Prop)(b:P)(F:Int):Prop:=(∀p,S p->sc p b<=F)/\∃p,S p/\sc p b=F
end Geo
namespace Geo
structure Dm (S:P->Prop)(h:List P):Prop where
 sub:∀p∈h,S p
 far:∀p,S p->∀u,∃c∈h,sc p u<=sc c u
theorem Dm.of_hull {S:P->Prop}{h:List P}(x:z0n S h):Dm S h:=⟨x.sub,λp hp u=>x.far (x.in hp) u⟩
theorem Dm.of_list {d:List P}:Dm (· ∈ d) d:=⟨λ_ h=>h,λp hp u=>⟨p,hp,Int.le_refl _⟩⟩
noncomputable def Pl (S T:P->Prop)(p:P):Prop:=∃a,S a/\∃b,T b/\p=pl a b
theorem Dm.join {S T:P->Prop}{h1 h2 h:List P}(x:Dm S h1)(y:Dm T h2)(z:z0n (λp=>∃a∈h1,∃b∈h2,p=pl a b) h):z0n (Pl S T) h:=by
 refine z.fill (λp hp =>?_) (λp hp =>?_)
 ·obtain⟨a,ha,b,hb,e⟩:=z.sub p hp;exact⟨a,x.sub a ha,b,y.sub b hb,e⟩
 ·obtain⟨r,hr,q,hq,rfl⟩:=hp;refine In.of_far z λu =>?_;obtain⟨c,hc,le⟩:=x.far r hr u;obtain⟨c2,hc2,le2⟩:=y.far q hq u;obtain⟨c',hc',le'⟩:=z.far (z.in ⟨c,hc,c2,hc2,rfl⟩) u;refine⟨c',hc',?_⟩;rw[zjb] at le' ⊢;omega
theorem zaC (a b c:P):pl a (pl b c)=pl (pl a b) c:=by simp only[pl]; exact Prod.ext (by simp; omega) (by simp; omega)
theorem zcm (a:P):pl (0,0) a=a:=by simp[pl]
theorem zcG:∀{A B:List (List P)}{p:P},Ms (A++B) p↔Pl (Ms A) (Ms B) p
 | [],B,p=>by
  constructor
  ·exact λh=>⟨(0,0),rfl,p,h,(zcm p).symm⟩
  ·rintro⟨a,ha,b,hb,rfl⟩;rw[show a=(0,0) from ha,zcm];exact hb
 | d::A,B,p=>by
  constructor
  ·rintro⟨q,hq,r,hr,rfl⟩;obtain⟨a,ha,b,hb,rfl⟩:=zcG.mp hr;exact⟨pl q a,⟨q,hq,a,ha,rfl⟩,b,hb,zaC _ _ _⟩
  ·rintro⟨_,⟨q,hq,a,ha,rfl⟩,b,hb,rfl⟩;exact⟨q,hq,pl a b,zcG.mpr ⟨a,ha,b,hb,rfl⟩,(zaC _ _ _).symm⟩
theorem zaR {ds:List (List P)}{d h h':List P}(x:z0n (Ms ds) h)(y:z0n (λp=>∃a∈h,∃b∈d,p=pl a b) h'):z0n (Ms (ds++[d])) h':=by
 have:=(Dm.of_hull x).join Dm.of_list y;rw[show Ms (ds++[d])=Pl (Ms ds) (· ∈ d) from funext λp=>propext zgo];exact this
theorem zgp {A B:List (List P)}{h1 h2 h:List P}(x:z0n (Ms A) h1)(y:z0n (Ms B) h2)(z:z0n (λp=>∃a∈h1,∃b∈h2,p=pl a b) h):z0n (Ms (A++B)) h:=by
 have:=(Dm.of_hull x).join (Dm.of_hull y) z;rw[show Ms (A++B)=Pl (Ms A) (Ms B) from funext λp=>propext zcG];exact this
theorem zaS {l m:List (List P)}{h:List P}(e:l.Perm m)(x:z0n (Ms l) h):z0n (Ms m) h:=by
 rw[show Ms m=Ms l from funext λp=>propext ⟨z8t e.symm p,z8t e p⟩];exact x
end Geo
namespace Pu
open PySem L2
theorem z9e:∀{ds:List (List P)}{p:P},(∀d∈ds,Gw d)->Geo.Ms ds p->Vb (600+ds.length) p
 | [],p,_,h=>by
  have:p=(0,0):=h;rw[this];exact⟨Bt.le (m:=1) (z1e (by decide)),Bt.le (m:=1) (z1e (by decide))⟩
 | d::ds,p,hd,⟨q,hq,r,hr,e⟩=>by
  have h1:=(hd d (by simp)).wb q hq;have h2:=z9e (λd hd'=>hd d (by simp[hd'])) hr;rw[e];exact⟨Bt.le (Bt.add h1.1 h2.1) (by simp; omega),Bt.le (Bt.add h1.2 h2.2) (by simp; omega)⟩
noncomputable abbrev lens (ws:List (List P)):Nat:=(ws.map List.length).sum
theorem z5g (a b:List (List P)):lens (a++b)=lens a+lens b:=by
 unfold lens;rw[List.map_append,List.sum_append]
theorem zcO {a b:List (List P)}(h:a.Perm b):lens a=lens b:=by
 induction h with
 | nil=>rfl
 | cons x _ ih=>unfold lens at *; simp[ih]
 | swap x y l=>unfold lens; simp; omega
 | trans _ _ i1 i2=>rw[i1,i2]
theorem s_joined_all {ws:List (List P)}{Q:DK}{X:XP}(hw:∀d∈ws,Gw d)(hz:ws.length<=12)(ht:lens ws<=124)(q:∀h,Geo.z0n (Geo.Ms ws) h->h.length<=140->Q (vecs h)):z0Y.run [.tup (ws.map vecs)] Q X:=by
 walk_at "fn";walk_at "go";refine z2w (f:=vecs) (λdn ρ=>∃(h:List P) (x2:B),Geo.z0n (Geo.Ms dn) h/\h.length<=1+(lens dn+dn.length)/\ρ=[.s (.tup (ws.map vecs)),.s (vecs h),x2]) ⟨[(0,0)],_,Geo.zcF,by simp,rfl⟩ ?_ ?_
 ·rintro dn y r ρ e ⟨h,x2,hh,hlen,rfl⟩;have le:=congrArg List.length e;have ls:=congrArg lens e;rw[List.length_append,List.length_cons] at le;rw[z5g] at ls;have gy:Gw y:=hw y (by rw[e]; simp);have gd:∀d∈dn,Gw d:=λd hd=>hw d (by rw[e]; simp[hd]);have hn:h≠[]:=λz=>by obtain⟨m,t,e,_⟩:=hh.ex; rw[z] at e; cases e
  have hb:Wb 700 h:=λp hp=>by
   have:=z9e gd (hh.sub p hp);exact⟨this.1.le (by omega),this.2.le (by omega)⟩
  have gl:=gy.len;show Sm.run _ _ _ _ _;walk_at "en";walk_at "go";refine s_joined hb.le gy.wb.le hn gy.ne (by omega) (by omega) λh' hh' hl' =>?_;refine z3i (Safe.of_noL (z3A _) (z3B _) _) ?_;walk_at "en";refine⟨h',_,Geo.zaR hh hh',?_,rfl⟩;rw[z5g,List.length_append,List.length_singleton,show lens [y]=y.length by simp[lens]];omega
 rintro ρ ⟨h,x2,hh,hlen,rfl⟩;walk_at "go";exact q h hh (by omega)
theorem zgF {α:Type}(f:α->D){l:List α}{n:Nat}(h:n<=l.length):cutD (l.map f) none (some (n:Int))=(l.take n).map f/\cutD (l.map f) (some (n:Int)) none=(l.drop n).map f:=by
 have e1:HT.sIx l.length 0 none=0:=rfl;have e2:∀k:Nat,HT.sIx l.length k (some (n:Int))=n:=λk=>by
  unfold HT.sIx;show (if (n:Int)<0 then ((n:Int)+l.length).toNat else min (n:Int).toNat l.length)=n;rw[if_neg (by omega)];omega
 have e3:HT.sIx l.length l.length none=l.length:=rfl;rw[z3f,z3f,e1,e2,e2,e3];exact⟨by simp,by rw[List.take_of_length_le (by rw[List.length_drop]; omega)]⟩
theorem ze8 {k:Int}{Q:DK}{X:XP}(h : -(2 ^ 62)<=k)(h':k<2 ^ 62)(q:Q (.lst ((List.range k.toNat).map λ(j:Nat)=>D.int (j:Int)))):z96.run [.int k] Q X:=⟨⟨h,h'⟩,q⟩
noncomputable def z85 (ws:List (List P))(k:List Int):List P:=ws.getD (k.getD 1 0).toNat []
structure Ws (ws:List (List P)):Prop where
 each:∀d∈ws,Gw d
 len:ws.length<=12
 few:∀(k:Nat) (d:List P),ws[k]? = some d->0<k->d.length<=14
 tot:lens ws<=124
theorem zgt (ns:List Int)(h:ns.length<=63):z7h.run [.lst (ns.map .int)] (λd=>d = .bl true) (λ_=>False):=by
 walk_at "fn";walk_at "go";refine zdC h λps hps hfe htl hpl =>?_;walk_at "go";have c12:cutD (ps.map prD) none (some 12)=(ps.take 12).map prD:=by
  rw[z3f];rw[show HT.sIx ps.length ps.length (some (12:Int))=min 12 ps.length by
   show (if (12:Int)<0 then ((12:Int)+(ps.length:Int)).toNat else min (12:Int).toNat ps.length)=_;rw[if_neg (by decide)]
   rfl]
  show (ps.take (min 12 ps.length)).map prD=_;rw[show ps.take (min 12 ps.length)=ps.take 12 from List.take_eq_take_iff.mpr (by omega)]
 rw[c12];clear c12;have g0:Ws ((ps.take 12).map Prod.fst):=by
  refine⟨λd hd =>?_,by simp; omega,λk d e hk =>?_,?_⟩
  ·obtain⟨x,hx,rfl⟩:=List.mem_map.mp hd;exact hps x (List.mem_of_mem_take hx)
  ·rw[List.getElem?_map,List.getElem?_take] at e
   split at e
   ·rcases ex:ps[k]? with _ | x
    ·rw[ex] at e; cases e
    ·rw[ex] at e
     cases e
     exact hfe k x ex (.inl hk)
   ·cases e
  ·have:∀l:List (List P × Int),∀n,lens ((l.take n).map Prod.fst)<=(szs l).sum:=by
    intro l
    induction l with
    | nil=>intro n; simp[lens]
    | cons x r ih=>
     intro n
     cases n with
     | zero=>simp[lens]
     | succ n=>
      have:=ih n;unfold lens szs at*;simp at this ⊢;omega
   cases ps with
   | nil=>simp[lens]
   | cons x r=>
    have h1:=this r 11;have h2:=(hps x (by simp)).len;have h3:(szs r).sum<=62:=htl;unfold lens at*;simp at h1 ⊢;omega
 refine⟨by rw[List.length_map,List.length_take]; exact szl' (by omega),?_⟩;refine z3r (f:=prD) (g:=λx=>vecs x.1) (λx hx K hK =>?_) ?_
 ·walk_at "go";exact hK
 refine⟨⟨trivial,trivial,trivial,trivial,trivial,trivial,trivial,trivial⟩,?_⟩;rw[show ((ps.take 12).map λx=>vecs x.1)=((ps.take 12).map Prod.fst).map vecs by rw[List.map_map]; rfl];generalize (ps.take 12).map Prod.fst=ws at*;clear hps hfe htl hpl ps;walk_at "en";walk_at "go";rw[List.length_map];refine zfu (λρ'=>∃ws,Ws ws/\ρ'=[.s (.lst (ns.map .int)),.s (.lst (ws.map vecs)),.n,.n,.n,.n,.n]) ?_ ?_
 ·refine z3s (λz =>?_) (λz =>?_)
  ·walk_at "go";exact⟨[],⟨by simp,by simp,by simp,by simp[lens]⟩,rfl⟩
  ·walk_at "go";exact⟨ws,g0,rfl⟩
 clear g0 ws;rintro ρ' ⟨ws,⟨hw,hz,few,ht⟩,rfl⟩;walk_at "go";refine z2w (f:=vecs) (λdn ρ=>∃(h:List P) (x3:B),(x3 = .n\/∃d,x3 = .s d)/\Geo.z0n (Geo.Ms dn) h/\h.length<=1+(lens dn+dn.length)/\ρ=[.s (.lst (ns.map .int)),.s (.lst (ws.map vecs)),.s (vecs h),x3,.n,.n,.n]) ⟨[(0,0)],_,.inl rfl,Geo.zcF,by simp,rfl⟩ ?_ ?_
 ·rintro dn y r ρ e ⟨h,x3,hx3,hh,hlen,rfl⟩;have le:=congrArg List.length e;have ls:=congrArg lens e;rw[List.length_append,List.length_cons] at le;rw[z5g] at ls;have gy:Gw y:=hw y (by rw[e]; simp);have gd:∀d∈dn,Gw d:=λd hd=>hw d (by rw[e]; simp[hd]);have hn:h≠[]:=λz=>by obtain⟨m,t,e,_⟩:=hh.ex; rw[z] at e; cases e
  have hb:Wb 700 h:=λp hp=>by
   have:=z9e gd (hh.sub p hp);exact⟨this.1.le (by omega),this.2.le (by omega)⟩
  have gl:=gy.len;have gf:=few dn.length y (by rw[e]; simp);have pr:h.length*y.length<=2040:=by
   rcases Nat.eq_zero_or_pos dn.length with z | z
   ·have:dn=[]:=List.length_eq_zero_iff.mp z;rw[this] at hlen;have:h.length<=1:=by simpa[lens] using hlen
    exact Nat.le_trans (Nat.mul_le_mul this gl) (by decide)
   ·exact Nat.le_trans (Nat.mul_le_mul (show h.length<=137 by omega) (gf z)) (by decide)
  show Sm.run _ _ _ _ _;walk_at "en";walk_at "go";refine s_law_sums pr (by omega) (by omega) λS hS hm =>?_;have hn':S≠[]:=λz=>by
   rw[z,List.length_nil] at hS;have:=Nat.mul_pos (List.length_pos_iff.mpr hn) (List.length_pos_iff.mpr gy.ne);omega
  refine zfD (l:=S) (.inr rfl) (λp hp =>?_) hn' (by omega) λh2 x2 =>?_
  ·obtain⟨u,hu,v,hv,rfl⟩:=(hm p).mp hp;exact⟨(Bt.add (hb u hu).1 (gy.wb v hv).1).le,(Bt.add (hb u hu).2 (gy.wb v hv).2).le⟩
  have y2:=x2.is hn';rw[show (λx=>x∈S)=Sm2 h y from funext λp=>propext (hm p)] at y2;have jl:=zel hn gy.ne y2;refine z3i (Safe.of_noL (z3A _) (z3B _) _) ?_;walk_at "en";refine⟨h2,_,.inr ⟨_,rfl⟩,Geo.zaR hh y2,?_,rfl⟩;rw[z5g,List.length_append,List.length_singleton,show lens [y]=y.length by simp[lens]];omega
 rintro ρ ⟨h,x3,hx3,hh,hlen,rfl⟩;have hl:h.length<=140:=by omega
 clear hlen few;walk_at "go";rw[List.length_map];refine ze8 (by omega) (by omega) ?_;rw[show ((ws.length:Nat):Int).toNat=ws.length by simp];walk_at "go";refine⟨by rw[List.length_map,List.length_range]; exact szl' (by omega),?_⟩;refine z8G (f:=λ(j:Nat)=>D.int (j:Int)) (g:=tupD) (P:=λj y=>∃r:Int,y=[r,(j:Int)]) (λj hj K hK =>?_) λys yl hy =>?_
 ·have hj:=List.mem_range.mp hj;walk_at "go";refine z6L (by omega) λc =>?_;walk_at "go";refine z6K (z1e (by omega)) λr r0 r1 =>?_;walk_at "go";exact hK [r,(j:Int)] ⟨r,rfl⟩
 rw[List.length_range] at yl;have hy':∀(i:Nat),i<ws.length->∃r:Int,ys[i]? = some [r,(i:Int)]:=λi hi=>by
  have ei:ys[i]? = some ys[i]:=List.getElem?_eq_getElem (by omega);obtain⟨x,ex,r,e⟩:=hy i _ ei;rw[List.getElem?_range hi] at ex
  cases ex
  exact⟨r,by rw[ei,e]⟩
 have hmem:∀y∈ys,∃(r:Int) (j:Nat),j<ws.length/\y=[r,(j:Int)]:=λy hy0=>by
  obtain⟨i,hi,e⟩:=List.getElem_of_mem hy0;obtain⟨r,e'⟩:=hy' i (by omega);rw[List.getElem?_eq_getElem hi,e] at e';exact⟨r,i,by omega,Option.some.inj e'⟩
 have hws:ys.map (z85 ws)=ws:=by
  apply List.ext_getElem?;intro i;rw[List.getElem?_map]
  rcases Nat.lt_or_ge i ws.length with z | z
  ·obtain⟨r,e⟩:=hy' i z;rw[e];show some (z85 ws [r,(i:Int)])=_;show some (ws.getD ((i:Nat):Int).toNat [])=_;rw[show ((i:Nat):Int).toNat=i by simp,List.getD_eq_getElem?_getD,List.getElem?_eq_getElem z]
   rfl
  ·rw[List.getElem?_eq_none (by omega),List.getElem?_eq_none z]
   rfl
 refine⟨ys,rfl,λk hk =>?_,by rw[yl]; exact szl (by omega),λkl pm pw =>?_⟩
 ·obtain⟨r,j,_,rfl⟩:=hmem k hk;simp
 have pws:(kl.map (z85 ws)).Perm ws:=by rw[<- hws]; simpa[hws] using pm.map (z85 ws)
 show Safe _ _/\_;refine⟨?_,?_⟩
 ·rcases hx3 with rfl | ⟨d,rfl⟩ <;> exact⟨trivial,trivial,trivial,trivial,trivial,trivial,trivial,trivial⟩
 walk_at "en";walk_at "go";refine⟨by rw[List.length_map,pm.length_eq]; exact szl' (by omega),?_⟩;refine z3r (f:=tupD) (g:=λk=>vecs (z85 ws k)) (λk hk K hK =>?_) ?_
 ·obtain⟨r,j,hj,rfl⟩:=hmem k (pm.mem_iff.mp hk);have ej:ws[j]? = some (z85 ws [r,(j:Int)]):=by
   show _=some (ws.getD ((j:Nat):Int).toNat []);rw[show ((j:Nat):Int).toNat=j by simp,List.getD_eq_getElem?_getD,List.getElem?_eq_getElem hj]
   rfl
  show Ex.run _ _ _ _;walk_at "en";walk_at "go";refine z2S (z1H (by rw[zdn hj,ej])) ?_;exact hK
 walk_at "go"
 ·rcases hx3 with rfl | ⟨d,rfl⟩ <;> exact⟨trivial,trivial,trivial,trivial,trivial⟩
 walk_at "en";rw[show (kl.map λk=>vecs (z85 ws k))=(kl.map (z85 ws)).map vecs by rw[List.map_map]; rfl];generalize kl.map (z85 ws)=wt at*;clear hmem hws hy' hy pm pw;have gt:∀d∈wt,Gw d:=λd hd=>hw d (pws.mem_iff.mp hd);have lt:lens wt<=124:=by rw[zcO pws]; exact ht
 have zt:wt.length<=12:=by rw[pws.length_eq]; exact hz
 walk_at "go";refine s_joined_all hw hz ht λh1 y1 _ =>?_;obtain rfl:h1=h:=y1.unique hh;walk_at "go";refine z3u (by omega) ?_;walk_at "go";refine z89 (z6B ?_);walk_at "go";refine s_joined_all gt zt lt λh2 y2 _ =>?_;obtain rfl:h2=h1:=(Geo.zaS pws y2).unique hh;walk_at "go";refine z3u (by omega) ?_;walk_at "go";refine z89 (z6B ?_);walk_at "go";refine z6L (by omega) λc =>?_;walk_at "go";refine z6K (z1e (by omega)) λr r0 r1 =>?_;walk_at "go";rw[List.length_map];have a0:=Int.emod_nonneg r (show (ws.length:Int)+1≠0 by omega);have a1:=Int.emod_lt_of_pos r (show (0:Int)<(ws.length:Int)+1 by omega);generalize r % ((ws.length:Int)+1)=at' at*;obtain⟨a,rfl⟩:∃a:Nat,at'=a:=⟨at'.toNat,by omega⟩
 have pl:=pws.length_eq;obtain⟨c1,c2⟩:=zgF vecs (l:=wt) (n:=a) (by omega);rw[c1];have la:=z5g (wt.take a) (wt.drop a);rw[List.take_append_drop] at la;refine s_joined_all (λd hd=>gt d (List.mem_of_mem_take hd)) (by rw[List.length_take]; omega) (by omega) λh3 y3 l3 =>?_;walk_at "go";rw[c2];refine s_joined_all (λd hd=>gt d (List.mem_of_mem_drop hd)) (by rw[List.length_drop]; omega) (by omega) λh4 y4 l4 =>?_;have n3:h3≠[]:=λz=>by obtain⟨m,t,e,_⟩:=y3.ex; rw[z] at e; cases e
 have n4:h4≠[]:=λz=>by obtain⟨m,t,e,_⟩:=y4.ex; rw[z] at e; cases e
 have b3:Wb 700 h3:=λp hp=>by
  have:=z9e (λd hd=>gt d (List.mem_of_mem_take hd)) (y3.sub p hp);rw[List.length_take] at this;exact⟨this.1.le (by omega),this.2.le (by omega)⟩
 have b4:Wb 700 h4:=λp hp=>by
  have:=z9e (λd hd=>gt d (List.mem_of_mem_drop hd)) (y4.sub p hp);rw[List.length_drop] at this;exact⟨this.1.le (by omega),this.2.le (by omega)⟩
 refine s_joined b3.le b4.le n3 n4 (by omega) (by omega) λh5 y5 l5 =>?_;have y6:=Geo.zgp y3 y4 y5;rw[List.take_append_drop] at y6;obtain rfl:h5=h2:=(Geo.zaS pws y6).unique hh;walk_at "go";refine z3u (by omega) ?_;walk_at "go";refine z89 (z6B ?_);walk_at "go";refine s_joined_all (ws:=[]) (by simp) (by simp) (by simp[lens]) λh6 y7 _ =>?_;obtain rfl:h6=[(0,0)]:=y7.unique Geo.zcF;walk_at "go";refine z3u (h:=[(0,0)]) (by simp) ?_
 rfl
end Pu
namespace Pu
open PySem PySem.Spec PyProof.Rows L2
noncomputable def Std (K:W.Frag)(n:Str)(st:Stmt)(f:Addr):Prop:=∃(oc:Value) (od:Option Addr) (sl:Array (Option Value)) (kV dc pm:Value) (an:Option Addr) (cd ct:Value),
 PySem.W.nsIn K mainGlobals n=some (some (.ref f))/\K.lookup f=some ⟨oc,od,.func (PySem.W.fnOf n n (z4k st) (z3d st) (z01 st) .none kV dc pm an cd ct),sl⟩/\PySem.W.codeIn K cd n=true/\PySem.W.keepIn K (.ref f)=true
theorem Std.mk {K:W.Frag}{n:Str}{st:Stmt}{f:Addr}{oc:Value}{od:Option Addr}{sl:Array (Option Value)}{kV dc pm:Value}{an:Option Addr}{cd ct:Value}(a:PySem.W.nsIn K mainGlobals n=some (some (.ref f)))(l:K.lookup f=some ⟨oc,od,.func (PySem.W.fnOf n n (z4k st) (z3d st) (z01 st) .none kV dc pm an cd ct),sl⟩)(c:PySem.W.codeIn K cd n=true)(k:PySem.W.keepIn K (.ref f)=true):Std K n st f:=⟨oc,od,sl,kV,dc,pm,an,cd,ct,a,l,c,k⟩
section
variable {P:Program}{w:World}{K:W.Frag}{mg:Str->Option Value}{h base:Heap}{CX:CXT}{k:Nat}{n:Str}{st:Stmt}{f fa:Addr}{ps:List Str}{sp:Sp}
theorem z0P (X:K.In h)(G:h.Ns mainGlobals mg)(d:Std K n st f)
  (hb:∀(kV dc pm:Value) (an:Option Addr) (cd ct:Value) (us:List Value),us.length=ps.length->bindArgs (PySem.W.fnOf n n (z4k st) (z3d st) (z01 st) .none kV dc pm an cd ct) ⟨us,[]⟩=pure (ps.zip us))
  (ok:∀fd,Fun K n n st f fd->FnOk P w K mg base CX k f fd ps sp):Cal P w K mg base CX k n ps sp:=by
 obtain⟨oc,od,sl,kV,dc,pm,an,cd,ct,a,l,c,kk⟩:=d;have F:=zfb (st:=st) l c kk;exact⟨_,_,ok _ F,PySem.W.mg_of X G a,kk,F.binds (ps:=ps) hb⟩
theorem zgV {x:Str}(X:K.In h)(G:h.Ns mainGlobals mg)(d:Std K n st f)(hfa:mg n=some (.ref fa))
  (hb:∀(kV dc pm:Value) (an:Option Addr) (cd ct:Value) (s:Shared) (v:Value),BindsTo s (PySem.W.fnOf n n (z4k st) (z3d st) (z01 st) .none kV dc pm an cd ct) ⟨[v],[]⟩ [(x,v)])
  (ok:∀base:Heap,K.In base->base.Ns mainGlobals mg->∀fd,Fun K n n st fa fd->FnOk P w K mg base CX k fa fd [x] sp):
  ∃fd:FuncData,(∀(s:Shared) (v:Value),BindsTo s fd ⟨[v],[]⟩ [(x,v)])/\∀base:Heap,K.In base->base.Ns mainGlobals mg->FnOk P w K mg base CX k fa fd [x] sp:=by
 obtain⟨oc,od,sl,kV,dc,pm,an,cd,ct,a,l,c,kk⟩:=d
 cases hfa.symm.trans (PySem.W.mg_of X G a)
 exact⟨_,λs v=>hb kV dc pm an cd ct s v,λbase kb nb=>ok base kb nb _ (zfb (st:=st) l c kk)⟩
end
end Pu
namespace My
open PySem L2 Pu
noncomputable def top (i:Nat):Stmt:=PySem.Challenge.pw_closehaul_k14_whole_joined_in_any_order.main.body.getD i (.Pass ⟨0,0,0,0⟩)
theorem z3e:(("_law_cell_at":Str) == ("__debug__":Str))=false:=by decide
theorem z8D:(("_law_digits":Str) == ("__debug__":Str))=false:=by decide
theorem z7I:(("_law_far_off":Str) == ("__debug__":Str))=false:=by decide
theorem z5Z:(("_law_free_pairs":Str) == ("__debug__":Str))=false:=by decide
theorem z3p:(("_law_half_round":Str) == ("__debug__":Str))=false:=by decide
theorem z9w:(("_law_least":Str) == ("__debug__":Str))=false:=by decide
theorem z13:(("_law_mix":Str) == ("__debug__":Str))=false:=by decide
theorem z9v:(("_law_pairs":Str) == ("__debug__":Str))=false:=by decide
theorem z2O:(("_law_same":Str) == ("__debug__":Str))=false:=by decide
theorem zaf:(("_law_sums":Str) == ("__debug__":Str))=false:=by decide
theorem zae:(("_law_turn":Str) == ("__debug__":Str))=false:=by decide
theorem z3I:(("_law_vector":Str) == ("__debug__":Str))=false:=by decide
theorem z7j:(("_law_wind":Str) == ("__debug__":Str))=false:=by decide
theorem z5t:(("_law_within":Str) == ("__debug__":Str))=false:=by decide
theorem zff:(("bool":Str) == ("__debug__":Str))=false:=by decide
theorem z7Y:(("chain_of":Str) == ("__debug__":Str))=false:=by decide
theorem z9u:(("goes_first":Str) == ("__debug__":Str))=false:=by decide
theorem zgE:(("int":Str) == ("__debug__":Str))=false:=by decide
theorem zaY:(("joined":Str) == ("__debug__":Str))=false:=by decide
theorem z2f:(("joined_all":Str) == ("__debug__":Str))=false:=by decide
theorem z2m:(("least_headings":Str) == ("__debug__":Str))=false:=by decide
theorem z8C:(("least_round":Str) == ("__debug__":Str))=false:=by decide
theorem z4l:(("len":Str) == ("__debug__":Str))=false:=by decide
theorem zk7:(("max":Str) == ("__debug__":Str))=false:=by decide
theorem zk6:(("min":Str) == ("__debug__":Str))=false:=by decide
theorem zex:(("sorted":Str) == ("__debug__":Str))=false:=by decide
theorem z5s:(("step_of":Str) == ("__debug__":Str))=false:=by decide
theorem z7H:(("steps_merged":Str) == ("__debug__":Str))=false:=by decide
theorem z5r:(("steps_round":Str) == ("__debug__":Str))=false:=by decide
theorem zj0:(("str":Str) == ("__debug__":Str))=false:=by decide
theorem z2N:(("tuple":Str) == ("__debug__":Str))=false:=by decide
theorem zda:(("turn_by":Str) == ("__debug__":Str))=false:=by decide
theorem z9t:(("turn_of":Str) == ("__debug__":Str))=false:=by decide
theorem z4K:(("vector_added":Str) == ("__debug__":Str))=false:=by decide
theorem zfj:bootBuiltins "bool"=some (.type "bool"):=by rfl
theorem zf5:("bool":Str)≠"__name__":=by decide
theorem zgK:bootBuiltins "int"=some (.type "int"):=by rfl
theorem zgr:("int":Str)≠"__name__":=by decide
theorem z4m:bootBuiltins "len"=some (.builtin "len"):=by rfl
theorem z3Z:("len":Str)≠"__name__":=by decide
theorem zkd:bootBuiltins "max"=some (.builtin "max"):=by rfl
theorem zjT:("max":Str)≠"__name__":=by decide
theorem zkc:bootBuiltins "min"=some (.builtin "min"):=by rfl
theorem zjS:("min":Str)≠"__name__":=by decide
theorem zeD:bootBuiltins "sorted"=some (.builtin "sorted"):=by rfl
theorem zee:("sorted":Str)≠"__name__":=by decide
theorem zj4:bootBuiltins "str"=some (.type "str"):=by rfl
theorem ziK:("str":Str)≠"__name__":=by decide
theorem z2P:bootBuiltins "tuple"=some (.type "tuple"):=by rfl
theorem z2G:("tuple":Str)≠"__name__":=by decide
structure Txt (K:W.Frag)(mg:Str->Option Value):Prop where
 triv:True
 n_bool:mg "bool"=none
 n_int:mg "int"=none
 n_isinstance:mg "isinstance"=none
 n_len:mg "len"=none
 n_list:mg "list"=none
 n_max:mg "max"=none
 n_min:mg "min"=none
 n_range:mg "range"=none
 n_reversed:mg "reversed"=none
 n_set:mg "set"=none
 n_sorted:mg "sorted"=none
 n_str:mg "str"=none
 n_tuple:mg "tuple"=none
 n_zip:mg "zip"=none
noncomputable abbrev z0C:Stmt:=top 17
theorem z6J:z0p ["found","due","k"] ["found","due"] (z01 z0C):=⟨rfl,rfl,rfl,by decide +kernel,rfl,by decide +kernel,by decide +kernel⟩
theorem z0V:Nm (z01 z0C) "found":=⟨.inl rfl,by decide,by decide⟩
theorem z0U:Nm (z01 z0C) "due":=⟨.inl rfl,by decide,by decide⟩
theorem z4c:Nm (z01 z0C) "k":=⟨.inl rfl,by decide,by decide⟩
theorem z4w:GlS (z01 z0C) "_law_same":=rfl
theorem z4g:GlS (z01 z0C) "bool":=rfl
theorem z7D:GlS (z01 z0C) "int":=rfl
theorem z0j:GlS (z01 z0C) "isinstance":=rfl
theorem z3c:GlS (z01 z0C) "len":=rfl
theorem z6n:GlS (z01 z0C) "range":=rfl
theorem z4J:GlS (z01 z0C) "str":=rfl
theorem z3O:GlS (z01 z0C) "tuple":=rfl
theorem z3y {P:Program}{w:World}{K:W.Frag}{mg:Str->Option Value}{base:Heap}{f:Addr}{fd:FuncData}{n k:Nat}(T:Txt K mg)(F:Fun K "_law_same" "_law_same" z0C f fd)(c__law_same:Cal P w K mg base (CXe P w) k "_law_same" ["found","due"] (spP K mg (z09 n)))(hk:0<=k):FnOk P w K mg base (CXe P w) (k+1) f fd ["found","due"] (spP K mg (z09 (n+1))):=by
 refine fnN F z6J rfl rfl (λcdv A outer s H E hr =>?_);have hu:=hr.units;exact(z04 (z3v (z3x (z6N (T:="tuple") (by decide) (glg z0j) T.n_isinstance (qx_v (vg 1 z0U)) (z4U (v :=.ty "tuple") (glg z3O) T.n_tuple z2P rfl z2G z2N))) (z04 (z3v (QW.pt (zcd (z5E (z3x (z6N (T:="tuple") (by decide) (glg z0j) T.n_isinstance (qx_v (vg 0 z0V)) (z4U (v :=.ty "tuple") (glg z3O) T.n_tuple z2P rfl z2G z2N)))) (z9Q (z1t (zgk hu) lk2 (z3w z2g lkN (glg z3c) T.n_len z4m (z00 (qx_v (vg 0 z0V)) z02) z3Z z4l) (z3w z2g lkN (glg z3c) T.n_len z4m (z00 (qx_v (vg 1 z0U)) z02) z3Z z4l) (z0T _))))) (z0a (z0q zbe)) z1L)
   (z04 (zdL (g:=(.nm 2)) PassesOwn.never rfl (glg z6n) T.n_range (z00 (z3w z2g lkN (glg z3c) T.n_len z4m (z00 (qx_v (vg 1 z0U)) z02) z3Z z4l) z02) (ng 2 z6J.nd z4c) (z0a (z3v (z5E (z3x (z0y c__law_same (hr.mono (by omega)) z0b (z00 (z0o (qx_v (vg 0 z0V)) (qx_v (vg 2 z4c)) (λ_ _=>rfl)) (z00 (z0o (qx_v (vg 1 z0U)) (qx_v (vg 2 z4c)) (λ_ _=>rfl)) z02)) (glg z4w) z2O))) (z0a (z0q zbe)) z1L)))
   (z0a (z0q zbe)))) z1L)
   (z04 (z3v (z1t zik lk2 (qx_v (vg 1 z0U)) zeS (z0T _)) (z0a (z0q (z67 zik lk2 (qx_v (vg 0 z0V)) zeS (z0T _)))) z1L)
   (z04 (z3v (z3x (z6N (T:="str") (by decide) (glg z0j) T.n_isinstance (qx_v (vg 1 z0U)) (z4U (v :=.ty "str") (glg z4J) T.n_str zj4 rfl ziK zj0))) (z0a (z0q (zhs (z6N (T:="str") (by decide) (glg z0j) T.n_isinstance (qx_v (vg 0 z0V)) (z4U (v :=.ty "str") (glg z4J) T.n_str zj4 rfl ziK zj0)) (zhr (z67 (z7y hu) lk2 (qx_v (vg 0 z0V)) (qx_v (vg 1 z0U)) (z0T _)))))) z1L)
   (z04 (z3v (QW.pt (zcd (z5E (z3x (z6N (T:="int") (by decide) (glg z0j) T.n_isinstance (qx_v (vg 0 z0V)) (z4U (v :=.ty "int") (glg z7D) T.n_int zgK rfl zgr zgE)))) (z9Q (z1t (zgk hu) lk2 (z6N (T:="bool") (by decide) (glg z0j) T.n_isinstance (qx_v (vg 0 z0V)) (z4U (v :=.ty "bool") (glg z4g) T.n_bool zfj rfl zf5 zff)) (z6N (T:="bool") (by decide) (glg z0j) T.n_isinstance (qx_v (vg 1 z0U)) (z4U (v :=.ty "bool") (glg z4g) T.n_bool zfj rfl zf5 zff)) (z0T _))))) (z0a (z0q zbe)) z1L)
   (z0a (z0q (z67 (z7y hu) lk2 (qx_v (vg 0 z0V)) (qx_v (vg 1 z0U)) (z0T _))))))))
noncomputable abbrev z1E:Stmt:=top 25
theorem z4Q:z0p ["one","two","three","first","second"] ["one","two","three"] (z01 z1E):=⟨rfl,rfl,rfl,by decide +kernel,rfl,by decide +kernel,by decide +kernel⟩
theorem z31:Nm (z01 z1E) "one":=⟨.inl rfl,by decide,by decide⟩
theorem z6b:Nm (z01 z1E) "two":=⟨.inl rfl,by decide,by decide⟩
theorem z6a:Nm (z01 z1E) "three":=⟨.inl rfl,by decide,by decide⟩
theorem z4a:Nm (z01 z1E) "first":=⟨.inl rfl,by decide,by decide⟩
theorem z49:Nm (z01 z1E) "second":=⟨.inl rfl,by decide,by decide⟩
theorem z9U {P:Program}{w:World}{K:W.Frag}{mg:Str->Option Value}{base:Heap}{f:Addr}{fd:FuncData}(T:Txt K mg)(F:Fun K "_law_turn" "_law_turn" z1E f fd):FnOk P w K mg base (CXe P w) 1 f fd ["one","two","three"] (spP K mg z18):=by
 refine fnN F z4Q rfl rfl (λcdv A outer s H E hr =>?_);have hu:=hr.units;exact(z04 (z0m (ag 3 z4Q.nd z4a (z1g (z00 (z05 z3j lk2 (z0o (qx_v (vg 1 z6b)) z03 (λ_ _=>rfl)) (z0o (qx_v (vg 0 z31)) z03 (λ_ _=>rfl))) (z00 (z05 z3j lk2 (z0o (qx_v (vg 1 z6b)) z03 (λ_ _=>rfl)) (z0o (qx_v (vg 0 z31)) z03 (λ_ _=>rfl))) z02)))))
   (z04 (z0m (ag 4 z4Q.nd z49 (z1g (z00 (z05 z3j lk2 (z0o (qx_v (vg 2 z6a)) z03 (λ_ _=>rfl)) (z0o (qx_v (vg 0 z31)) z03 (λ_ _=>rfl))) (z00 (z05 z3j lk2 (z0o (qx_v (vg 2 z6a)) z03 (λ_ _=>rfl)) (z0o (qx_v (vg 0 z31)) z03 (λ_ _=>rfl))) z02)))))
   (z0a (z0q (z05 z3j lk2 (z05 z29 lk2 (z0o (qx_v (vg 3 z4a)) z03 (λ_ _=>rfl)) (z0o (qx_v (vg 4 z49)) z03 (λ_ _=>rfl))) (z05 z29 lk2 (z0o (qx_v (vg 3 z4a)) z03 (λ_ _=>rfl)) (z0o (qx_v (vg 4 z49)) z03 (λ_ _=>rfl))))))))
noncomputable abbrev z0z:Stmt:=top 26
theorem z20:z0p ["points","row","point"] ["points"] (z01 z0z):=⟨rfl,rfl,rfl,by decide +kernel,rfl,by decide +kernel,by decide +kernel⟩
theorem z5l:Nm (z01 z0z) "points":=⟨.inl rfl,by decide,by decide⟩
theorem z0v:Nm (z01 z0z) "row":=⟨.inl rfl,by decide,by decide⟩
theorem z1R:Nm (z01 z0z) "point":=⟨.inl rfl,by decide,by decide⟩
theorem z2T:GlS (z01 z0z) "_law_turn":=rfl
theorem z4x:GlS (z01 z0z) "len":=rfl
theorem z5I {P:Program}{w:World}{K:W.Frag}{mg:Str->Option Value}{base:Heap}{f:Addr}{fd:FuncData}(T:Txt K mg)(F:Fun K "_law_half_round" "_law_half_round" z0z f fd)(c__law_turn:Cal P w K mg base (CXe P w) 1 "_law_turn" ["one","two","three"] (spP K mg z18)):FnOk P w K mg base (CXe P w) 2 f fd ["points"] (spP K mg z0g):=by
 refine fnN F z20 rfl rfl (λcdv A outer s H E hr =>?_);have hu:=hr.units;exact(z04 (z3W (ag 1 z20.nd z0v (z2p z02)))
   (z04 (z65 (js:=[]) (g:=(.nm 2)) PassesOwn.never rfl (qi_x (qx_v (vg 0 z5l))) (ng 2 z20.nd z1R) (z04 (z57 PassesOwn.never (QW.pt (z9R (z1t (zcy hu) lk2 (z3w z2g lkN (glg z4x) T.n_len z4m (z00 (qx_v (vg 1 z0v)) z02) z3Z z4l) z03 (z0T _)) (z8h (z1t (zij hu) lk2 (z0y c__law_turn (hr.mono (by decide)) z0b (z00 (z0o (qx_v (vg 1 z0v)) (z8g z5c lk1 z03) (λ_ _=>rfl)) (z00 (z0o (qx_v (vg 1 z0v)) (z8g z5c lk1 z03) (λ_ _=>rfl)) (z00 (qx_v (vg 2 z1R)) z02))) (glg z2T) zae) z03 (z0T _))))) (z0a (zeR (vg 1 z0v))))
   (z0a (z66 (vg 1 z0v) (z00 (qx_v (vg 2 z1R)) z02)))))
   (z0a (z0q (z6i (qx_v (vg 1 z0v)) z2k (z1A (z8g z5c lk1 z03)))))))
noncomputable abbrev z10:Stmt:=top 27
theorem z64:z0p ["points","rows"] ["points"] (z01 z10):=⟨rfl,rfl,rfl,by decide +kernel,rfl,by decide +kernel,by decide +kernel⟩
theorem z8x:Nm (z01 z10) "points":=⟨.inl rfl,by decide,by decide⟩
theorem z1Q:Nm (z01 z10) "rows":=⟨.inl rfl,by decide,by decide⟩
theorem z1i:GlS (z01 z10) "_law_half_round":=rfl
theorem z7b:GlS (z01 z10) "len":=rfl
theorem z7a:GlS (z01 z10) "set":=rfl
theorem z5o:GlS (z01 z10) "sorted":=rfl
theorem z3o:GlS (z01 z10) "tuple":=rfl
theorem z9a {P:Program}{w:World}{K:W.Frag}{mg:Str->Option Value}{base:Heap}{f:Addr}{fd:FuncData}(T:Txt K mg)(F:Fun K "_law_least" "_law_least" z10 f fd)(c__law_half_round:Cal P w K mg base (CXe P w) 2 "_law_half_round" ["points"] (spP K mg z0g)):FnOk P w K mg base (CXe P w) 3 f fd ["points"] (spP K mg z12):=by
 refine fnN F z64 rfl rfl (λcdv A outer s H E hr =>?_);have hu:=hr.units;exact(z04 (z0m (ag 1 z64.nd z1Q (QF.qx (z7R hu rfl (glg z5o) T.n_sorted (glg z7a) T.n_set (z00 (qx_v (vg 0 z8x)) z02)))))
   (z04 (z3v (z1t (z7y hu) lk2 (z3w z2g lkN (glg z7b) T.n_len z4m (z00 (qx_v (vg 1 z1Q)) z02) z3Z z4l) z03 (z0T _)) (z0a (z0q (z3X z2x lkN (glg z3o) T.n_tuple z2P (z00 (qx_v (vg 1 z1Q)) z02) z2G z2N))) z1L)
   (z0a (z0q (z3X z2x lkN (glg z3o) T.n_tuple z2P (z00 (z05 z0M lk2 (z0y c__law_half_round (hr.mono (by decide)) z0b (z00 (qx_v (vg 1 z1Q)) z02) (glg z1i) z3p) (z0y c__law_half_round (hr.mono (by decide)) z0b (z00 (zhq (qx_v (vg 1 z1Q)) z2k z2k (z8g z5c lk1 z03)) z02) (glg z1i) z3p)) z02) z2G z2N)))))
noncomputable abbrev z2F:Stmt:=top 16
theorem z5D:z0p ["cell","k","prime","number"] ["cell","k"] (z01 z2F):=⟨rfl,rfl,rfl,by decide +kernel,rfl,by decide +kernel,by decide +kernel⟩
theorem za6:Nm (z01 z2F) "cell":=⟨.inl rfl,by decide,by decide⟩
theorem za5:Nm (z01 z2F) "k":=⟨.inl rfl,by decide,by decide⟩
theorem z2I:Nm (z01 z2F) "prime":=⟨.inl rfl,by decide,by decide⟩
theorem z4W:Nm (z01 z2F) "number":=⟨.inl rfl,by decide,by decide⟩
theorem zbn {P:Program}{w:World}{K:W.Frag}{mg:Str->Option Value}{base:Heap}{f:Addr}{fd:FuncData}(T:Txt K mg)(F:Fun K "_law_mix" "_law_mix" z2F f fd):FnOk P w K mg base (CXe P w) 1 f fd ["cell","k"] (spP K mg z08):=by
 refine fnN F z5D rfl rfl (λcdv A outer s H E hr =>?_);have hu:=hr.units;exact(z04 (z0m (ag 2 z5D.nd z2I z03))
   (z04 (z0m (ag 3 z5D.nd z4W (z05 z1N lk2 (z05 z29 lk2 (z05 z0M lk2 (z05 z0M lk2 (z05 z1N lk2 (qx_v (vg 0 za6)) (qx_v (vg 2 z2I))) (z05 z29 lk2 z03 (qx_v (vg 1 za5)))) z03) z03) (qx_v (vg 2 z2I)))))
   (z0a (z0q (z05 z8s lk2 (z05 z1N lk2 (z05 z29 lk2 (z05 z1N lk2 (z05 z29 lk2 (qx_v (vg 3 z4W)) (qx_v (vg 3 z4W))) (qx_v (vg 2 z2I))) z03) (qx_v (vg 2 z2I))) z03)))))
noncomputable abbrev s_turn_of:Stmt:=top 1
theorem zb9:z0p ["one","other"] ["one","other"] (z01 s_turn_of):=⟨rfl,rfl,rfl,by decide +kernel,rfl,by decide +kernel,by decide +kernel⟩
theorem z71:Nm (z01 s_turn_of) "one":=⟨.inl rfl,by decide,by decide⟩
theorem z70:Nm (z01 s_turn_of) "other":=⟨.inl rfl,by decide,by decide⟩
theorem zbk {P:Program}{w:World}{K:W.Frag}{mg:Str->Option Value}{base:Heap}{f:Addr}{fd:FuncData}(T:Txt K mg)(F:Fun K "turn_of" "turn_of" s_turn_of f fd):FnOk P w K mg base (CXe P w) 1 f fd ["one","other"] (spP K mg z2M):=by
 refine fnN F zb9 rfl rfl (λcdv A outer s H E hr =>?_);have hu:=hr.units;exact(z0a (z0q (z05 z3j lk2 (z05 z29 lk2 (z0o (qx_v (vg 0 z71)) z03 (λ_ _=>rfl)) (z0o (qx_v (vg 1 z70)) z03 (λ_ _=>rfl))) (z05 z29 lk2 (z0o (qx_v (vg 0 z71)) z03 (λ_ _=>rfl)) (z0o (qx_v (vg 1 z70)) z03 (λ_ _=>rfl))))))
noncomputable abbrev s_step_of:Stmt:=top 3
theorem zbb:z0p ["start","end"] ["start","end"] (z01 s_step_of):=⟨rfl,rfl,rfl,by decide +kernel,rfl,by decide +kernel,by decide +kernel⟩
theorem z74:Nm (z01 s_step_of) "start":=⟨.inl rfl,by decide,by decide⟩
theorem z73:Nm (z01 s_step_of) "end":=⟨.inl rfl,by decide,by decide⟩
theorem zbm {P:Program}{w:World}{K:W.Frag}{mg:Str->Option Value}{base:Heap}{f:Addr}{fd:FuncData}(T:Txt K mg)(F:Fun K "step_of" "step_of" s_step_of f fd):FnOk P w K mg base (CXe P w) 1 f fd ["start","end"] (spP K mg z2d):=by
 refine fnN F zbb rfl rfl (λcdv A outer s H E hr =>?_);have hu:=hr.units;exact(z0a (z0q (z1g (z00 (z05 z3j lk2 (z0o (qx_v (vg 1 z73)) z03 (λ_ _=>rfl)) (z0o (qx_v (vg 0 z74)) z03 (λ_ _=>rfl))) (z00 (z05 z3j lk2 (z0o (qx_v (vg 1 z73)) z03 (λ_ _=>rfl)) (z0o (qx_v (vg 0 z74)) z03 (λ_ _=>rfl))) z02)))))
noncomputable abbrev s_turn_by:Stmt:=top 4
theorem zba:z0p ["start","middle","end"] ["start","middle","end"] (z01 s_turn_by):=⟨rfl,rfl,rfl,by decide +kernel,rfl,by decide +kernel,by decide +kernel⟩
theorem za4:Nm (z01 s_turn_by) "start":=⟨.inl rfl,by decide,by decide⟩
theorem z72:Nm (z01 s_turn_by) "middle":=⟨.inl rfl,by decide,by decide⟩
theorem za3:Nm (z01 s_turn_by) "end":=⟨.inl rfl,by decide,by decide⟩
theorem z3l:GlS (z01 s_turn_by) "step_of":=rfl
theorem z5T:GlS (z01 s_turn_by) "turn_of":=rfl
theorem zbl {P:Program}{w:World}{K:W.Frag}{mg:Str->Option Value}{base:Heap}{f:Addr}{fd:FuncData}(T:Txt K mg)(F:Fun K "turn_by" "turn_by" s_turn_by f fd)(c_turn_of:Cal P w K mg base (CXe P w) 1 "turn_of" ["one","other"] (spP K mg z2M))(c_step_of:Cal P w K mg base (CXe P w) 1 "step_of" ["start","end"] (spP K mg z2d)):FnOk P w K mg base (CXe P w) 2 f fd ["start","middle","end"] (spP K mg z4j):=by
 refine fnN F zba rfl rfl (λcdv A outer s H E hr =>?_);have hu:=hr.units;exact(z0a (z0q (z0y c_turn_of (hr.mono (by decide)) z0b (z00 (z0y c_step_of (hr.mono (by decide)) z0b (z00 (qx_v (vg 0 za4)) (z00 (qx_v (vg 1 z72)) z02)) (glg z3l) z5s) (z00 (z0y c_step_of (hr.mono (by decide)) z0b (z00 (qx_v (vg 1 z72)) (z00 (qx_v (vg 2 za3)) z02)) (glg z3l) z5s) z02)) (glg z5T) z9t)))
noncomputable abbrev s_chain_of:Stmt:=top 5
theorem z4S:z0p ["spots","turn","kept","spot"] ["spots","turn"] (z01 s_chain_of):=⟨rfl,rfl,rfl,by decide +kernel,rfl,by decide +kernel,by decide +kernel⟩
theorem z9m:Nm (z01 s_chain_of) "spots":=⟨.inl rfl,by decide,by decide⟩
theorem z9l:Nm (z01 s_chain_of) "turn":=⟨.inl rfl,by decide,by decide⟩
theorem z1h:Nm (z01 s_chain_of) "kept":=⟨.inl rfl,by decide,by decide⟩
theorem z4f:Nm (z01 s_chain_of) "spot":=⟨.inl rfl,by decide,by decide⟩
theorem z7F:GlS (z01 s_chain_of) "len":=rfl
theorem z9W {P:Program}{w:World}{K:W.Frag}{mg:Str->Option Value}{base:Heap}{f:Addr}{fd:FuncData}(T:Txt K mg)(F:Fun K "chain_of" "chain_of" s_chain_of f fd)(tb:FTab P w K mg base (CXe P w) 2 zd3):FnOk P w K mg base (CXe P w) 3 f fd ["spots","turn"] (spP K mg z2A):=by
 refine fnN F z4S rfl rfl (λcdv A outer s H E hr =>?_);have hu:=hr.units;exact(z04 (z3W (ag 2 z4S.nd z1h (z2p z02)))
   (z04 (z65 (js:=[]) (g:=(.nm 3)) PassesOwn.never rfl (qi_x (qx_v (vg 0 z9m))) (ng 3 z4S.nd z4f) (z04 (z57 PassesOwn.never (QW.pt (z9R (z1t (zcy hu) lk2 (z3w z2g lkN (glg z7F) T.n_len z4m (z00 (qx_v (vg 2 z1h)) z02) z3Z z4l) z03 (z0T _)) (z8h (z1t (zij hu) lk2 (zay tb (hr.mono (by decide)) z0b (vg 1 z9l) (z00 (z0o (qx_v (vg 2 z1h)) (z8g z5c lk1 z03) (λ_ _=>rfl)) (z00 (z0o (qx_v (vg 2 z1h)) (z8g z5c lk1 z03) (λ_ _=>rfl)) (z00 (qx_v (vg 3 z4f)) z02)))) z03 (z0T _))))) (z0a (zeR (vg 2 z1h))))
   (z0a (z66 (vg 2 z1h) (z00 (qx_v (vg 3 z4f)) z02)))))
   (z0a (z0q (qx_v (vg 2 z1h))))))
noncomputable abbrev s_least_round:Stmt:=top 6
theorem z34:z0p ["rising","turn","there","back"] ["rising","turn"] (z01 s_least_round):=⟨rfl,rfl,rfl,by decide +kernel,rfl,by decide +kernel,by decide +kernel⟩
theorem z1P:Nm (z01 s_least_round) "rising":=⟨.inl rfl,by decide,by decide⟩
theorem z43:Nm (z01 s_least_round) "turn":=⟨.inl rfl,by decide,by decide⟩
theorem z42:Nm (z01 s_least_round) "there":=⟨.inl rfl,by decide,by decide⟩
theorem z41:Nm (z01 s_least_round) "back":=⟨.inl rfl,by decide,by decide⟩
theorem z1X:GlS (z01 s_least_round) "chain_of":=rfl
theorem z5W:GlS (z01 s_least_round) "len":=rfl
theorem z5n:GlS (z01 s_least_round) "list":=rfl
theorem z3R:GlS (z01 s_least_round) "reversed":=rfl
theorem z2J:GlS (z01 s_least_round) "tuple":=rfl
theorem z7v {P:Program}{w:World}{K:W.Frag}{mg:Str->Option Value}{base:Heap}{f:Addr}{fd:FuncData}(T:Txt K mg)(F:Fun K "least_round" "least_round" s_least_round f fd)(c_chain_of:Cal P w K mg base (CXe P w) 3 "chain_of" ["spots","turn"] (spP K mg z2A)):FnOk P w K mg base (CXe P w) 4 f fd ["rising","turn"] (spP K mg z1V):=by
 refine fnN F z34 rfl rfl (λcdv A outer s H E hr =>?_);have hu:=hr.units;exact(z04 (z3v (z1t (z9Y hu) lk2 (z3w z2g lkN (glg z5W) T.n_len z4m (z00 (qx_v (vg 0 z1P)) z02) z3Z z4l) z03 (z0T _)) (z0a (z0q (z3X z2x lkN (glg z2J) T.n_tuple z2P (z00 (qx_v (vg 0 z1P)) z02) z2G z2N))) z1L)
   (z04 (z0m (ag 2 z34.nd z42 (z0y c_chain_of (hr.mono (by decide)) z0b (z00 (qx_v (vg 0 z1P)) (z00 (qx_v (vg 1 z43)) z02)) (glg z1X) z7Y)))
   (z04 (z0m (ag 3 z34.nd z41 (z0y c_chain_of (hr.mono (by decide)) z0b (z00 (QF.qx (z5F rfl (glg z5n) T.n_list (glg z3R) T.n_reversed (z00 (qx_v (vg 0 z1P)) z02))) (z00 (qx_v (vg 1 z43)) z02)) (glg z1X) z7Y)))
   (z0a (z0q (z3X z2x lkN (glg z2J) T.n_tuple z2P (z00 (z05 z0M lk2 (z6i (qx_v (vg 2 z42)) z2k (z1A (z8g z5c lk1 z03))) (z6i (qx_v (vg 3 z41)) z2k (z1A (z8g z5c lk1 z03)))) z02) z2G z2N))))))
noncomputable abbrev s_least_headings:Stmt:=top 7
theorem z5C:z0p ["wind"] ["wind"] (z01 s_least_headings):=⟨rfl,rfl,rfl,by decide +kernel,rfl,by decide +kernel,by decide +kernel⟩
theorem z5k:Nm (z01 s_least_headings) "wind":=⟨.inl rfl,by decide,by decide⟩
theorem z2v:GlS (z01 s_least_headings) "least_round":=rfl
theorem z4v:GlS (z01 s_least_headings) "set":=rfl
theorem z3G:GlS (z01 s_least_headings) "sorted":=rfl
theorem z3m:GlS (z01 s_least_headings) "turn_by":=rfl
theorem z5H {P:Program}{w:World}{K:W.Frag}{mg:Str->Option Value}{base:Heap}{f:Addr}{fd:FuncData}(T:Txt K mg)(F:Fun K "least_headings" "least_headings" s_least_headings f fd)(c_turn_by:Cal P w K mg base (CXe P w) 2 "turn_by" ["start","middle","end"] (spP K mg z4j))(c_least_round:Cal P w K mg base (CXe P w) 4 "least_round" ["rising","turn"] (spP K mg z1V)):FnOk P w K mg base (CXe P w) 5 f fd ["wind"] (spP K mg z0G):=by
 refine fnN F z5C rfl rfl (λcdv A outer s H E hr =>?_);have hu:=hr.units;exact(z0a (z0q (z0y c_least_round (hr.mono (by decide)) z0b (z00 (QF.qx (z7R hu rfl (glg z3G) T.n_sorted (glg z4v) T.n_set (z00 (qx_v (vg 0 z5k)) z02))) (z00 (zcc (n:=0) rfl (glg z3m) c_turn_by zda) z02)) (glg z2v) z8C)))
noncomputable abbrev s_vector_added:Stmt:=top 2
theorem z6I:z0p ["one","other"] ["one","other"] (z01 s_vector_added):=⟨rfl,rfl,rfl,by decide +kernel,rfl,by decide +kernel,by decide +kernel⟩
theorem z3N:Nm (z01 s_vector_added) "one":=⟨.inl rfl,by decide,by decide⟩
theorem z3M:Nm (z01 s_vector_added) "other":=⟨.inl rfl,by decide,by decide⟩
theorem z6S {P:Program}{w:World}{K:W.Frag}{mg:Str->Option Value}{base:Heap}{f:Addr}{fd:FuncData}(T:Txt K mg)(F:Fun K "vector_added" "vector_added" s_vector_added f fd):FnOk P w K mg base (CXe P w) 1 f fd ["one","other"] (spP K mg z1a):=by
 refine fnN F z6I rfl rfl (λcdv A outer s H E hr =>?_);have hu:=hr.units;exact(z0a (z0q (z1g (z00 (z05 z0M lk2 (z0o (qx_v (vg 0 z3N)) z03 (λ_ _=>rfl)) (z0o (qx_v (vg 1 z3M)) z03 (λ_ _=>rfl))) (z00 (z05 z0M lk2 (z0o (qx_v (vg 0 z3N)) z03 (λ_ _=>rfl)) (z0o (qx_v (vg 1 z3M)) z03 (λ_ _=>rfl))) z02)))))
noncomputable abbrev s_goes_first:Stmt:=top 10
theorem z3t:z0p ["one","other","one_rises","other_rises"] ["one","other"] (z01 s_goes_first):=⟨rfl,rfl,rfl,by decide +kernel,rfl,by decide +kernel,by decide +kernel⟩
theorem z4I:Nm (z01 s_goes_first) "one":=⟨.inl rfl,by decide,by decide⟩
theorem z4H:Nm (z01 s_goes_first) "other":=⟨.inl rfl,by decide,by decide⟩
theorem z3a:Nm (z01 s_goes_first) "one_rises":=⟨.inl rfl,by decide,by decide⟩
theorem z4G:Nm (z01 s_goes_first) "other_rises":=⟨.inl rfl,by decide,by decide⟩
theorem z4z:GlS (z01 s_goes_first) "turn_of":=rfl
theorem z8r {P:Program}{w:World}{K:W.Frag}{mg:Str->Option Value}{base:Heap}{f:Addr}{fd:FuncData}(T:Txt K mg)(F:Fun K "goes_first" "goes_first" s_goes_first f fd)(c_turn_of:Cal P w K mg base (CXe P w) 1 "turn_of" ["one","other"] (spP K mg z2M)):FnOk P w K mg base (CXe P w) 2 f fd ["one","other"] (spP K mg z2e):=by
 refine fnN F z3t rfl rfl (λcdv A outer s H E hr =>?_);have hu:=hr.units;exact(z04 (z0m (ag 2 z3t.nd z3a (z67 (zcy hu) lk2 (qx_v (vg 0 z4I)) (z1g (z00 z03 (z00 z03 z02))) (z0T _))))
   (z04 (z0m (ag 3 z3t.nd z4G (z67 (zcy hu) lk2 (qx_v (vg 1 z4H)) (z1g (z00 z03 (z00 z03 z02))) (z0T _))))
   (z04 (z3v (z1t (zgk hu) lk2 (qx_v (vg 2 z3a)) (qx_v (vg 3 z4G)) (z0T _)) (z0a (z0q (qx_v (vg 2 z3a)))) z1L)
   (z0a (z0q (z67 (zcy hu) lk2 (z0y c_turn_of (hr.mono (by decide)) z0b (z00 (qx_v (vg 0 z4I)) (z00 (qx_v (vg 1 z4H)) z02)) (glg z4z) z9t) z03 (z0T _)))))))
noncomputable abbrev s_steps_merged:Stmt:=top 11
theorem z1f:z0p ["ones","others","steps","taken","other"] ["ones","others"] (z01 s_steps_merged):=⟨rfl,rfl,rfl,by decide +kernel,rfl,by decide +kernel,by decide +kernel⟩
theorem z1z:Nm (z01 s_steps_merged) "ones":=⟨.inl rfl,by decide,by decide⟩
theorem z6j:Nm (z01 s_steps_merged) "others":=⟨.inl rfl,by decide,by decide⟩
theorem z1y:Nm (z01 s_steps_merged) "steps":=⟨.inl rfl,by decide,by decide⟩
theorem z0F:Nm (z01 s_steps_merged) "taken":=⟨.inl rfl,by decide,by decide⟩
theorem z2l:Nm (z01 s_steps_merged) "other":=⟨.inl rfl,by decide,by decide⟩
theorem z3b:GlS (z01 s_steps_merged) "goes_first":=rfl
theorem z5m:GlS (z01 s_steps_merged) "len":=rfl
theorem z6T {P:Program}{w:World}{K:W.Frag}{mg:Str->Option Value}{base:Heap}{f:Addr}{fd:FuncData}(T:Txt K mg)(F:Fun K "steps_merged" "steps_merged" s_steps_merged f fd)(c_goes_first:Cal P w K mg base (CXe P w) 2 "goes_first" ["one","other"] (spP K mg z2e)):FnOk P w K mg base (CXe P w) 3 f fd ["ones","others"] (spP K mg z1w):=by
 refine fnN F z1f rfl rfl (λcdv A outer s H E hr =>?_);have hu:=hr.units;exact(z04 (z3W (ag 2 z1f.nd z1y (z2p z02)))
   (z04 (z0m (ag 3 z1f.nd z0F z03))
   (z04 (z65 (js:=[]) (g:=(.nm 4)) PassesOwn.never rfl (qi_x (qx_v (vg 1 z6j))) (ng 4 z1f.nd z2l) (z04 (z57 PassesOwn.never (QW.pt (z9R (z1t (z9Y hu) lk2 (qx_v (vg 3 z0F)) (z3w z2g lkN (glg z5m) T.n_len z4m (z00 (qx_v (vg 0 z1z)) z02) z3Z z4l) (z0T _)) (z8h (z3x (z0y c_goes_first (hr.mono (by decide)) z0b (z00 (z0o (qx_v (vg 0 z1z)) (qx_v (vg 3 z0F)) (λ_ _=>rfl)) (z00 (qx_v (vg 4 z2l)) z02)) (glg z3b) z9u))))) (z04 (z66 (vg 2 z1y) (z00 (z0o (qx_v (vg 0 z1z)) (qx_v (vg 3 z0F)) (λ_ _=>rfl)) z02))
   (z0a (z0m (ag 3 z1f.nd z0F (z05 z0M lk2 (qx_v (vg 3 z0F)) z03))))))
   (z0a (z66 (vg 2 z1y) (z00 (qx_v (vg 4 z2l)) z02)))))
   (z0a (z0q (z05 z0M lk2 (qx_v (vg 2 z1y)) (z6i (qx_v (vg 0 z1z)) (z1A (qx_v (vg 3 z0F))) z2k)))))))
noncomputable abbrev s_steps_round:Stmt:=top 9
theorem z4A:z0p ["corners","step_between","behind"] ["corners","step_between"] (z01 s_steps_round):=⟨rfl,rfl,rfl,by decide +kernel,rfl,by decide +kernel,by decide +kernel⟩
theorem z1O:Nm (z01 s_steps_round) "corners":=⟨.inl rfl,by decide,by decide⟩
theorem z40:Nm (z01 s_steps_round) "behind":=⟨.inl rfl,by decide,by decide⟩
theorem z5V:GlS (z01 s_steps_round) "len":=rfl
theorem z5U:GlS (z01 s_steps_round) "zip":=rfl
theorem z7u {P:Program}{w:World}{K:W.Frag}{mg:Str->Option Value}{base:Heap}{f:Addr}{fd:FuncData}(T:Txt K mg)(F:Fun K "steps_round" "steps_round" s_steps_round f fd)(tb:FTab P w K mg base (CXe P w) 2 zd3):FnOk P w K mg base (CXe P w) 3 f fd ["corners","step_between"] (spP K mg z1q):=by
 refine fnN F z4A rfl rfl (λcdv A outer s H E hr =>?_);have hu:=hr.units;exact(z04 (z3v (z1t (z7y hu) lk2 (z3w z2g lkN (glg z5V) T.n_len z4m (z00 (qx_v (vg 0 z1O)) z02) z3Z z4l) z03 (z0T _)) (z0a (z0q (QF.qx (z2p z02)))) z1L)
   (z04 (z0m (ag 2 z4A.nd z40 (z05 z0M lk2 (z6i (qx_v (vg 0 z1O)) (z1A z03) z2k) (z6i (qx_v (vg 0 z1O)) z2k (z1A z03)))))
   (z0a (z0q (QF.qx (z4T (tg:=(.tp [0,1])) (ct:=none) rfl (zdO (glg z5U) T.n_zip (z00 (qx_v (vg 0 z1O)) (z00 (qx_v (vg 2 z40)) z02))) rfl (z7m.ok (N':=["start","end","step_between"]) (xn:=["corners","step_between","behind"]) (nt:=2) (js:=[1]) (osc:=z01 s_steps_round) rfl rfl (by decide +kernel)) rfl (λC s2 H2 fp=>(zhA rfl (zaz (zfR (i:=0) (show List.Nodup (["start","end","step_between"]:List Str) from by decide) rfl rfl) (zaz (zfR (i:=1) (show List.Nodup (["start","end","step_between"]:List Str) from by decide) rfl rfl) zfQ)))) trivial (λC s2 H2 fp=>(zay tb (hr.mono (by decide)) z0b (qv 2) (z00 (qx_v (qv 0)) (z00 (qx_v (qv 1)) z02))))))))))
noncomputable abbrev s_joined:Stmt:=top 12
theorem z2E:z0p ["one","other","ones","others","heading","headings","step"] ["one","other"] (z01 s_joined):=⟨rfl,rfl,rfl,by decide +kernel,rfl,by decide +kernel,by decide +kernel⟩
theorem zbu:Nm (z01 s_joined) "one":=⟨.inl rfl,by decide,by decide⟩
theorem zbt:Nm (z01 s_joined) "other":=⟨.inl rfl,by decide,by decide⟩
theorem z5R:Nm (z01 s_joined) "ones":=⟨.inl rfl,by decide,by decide⟩
theorem z5Q:Nm (z01 s_joined) "others":=⟨.inl rfl,by decide,by decide⟩
theorem z3k:Nm (z01 s_joined) "heading":=⟨.inl rfl,by decide,by decide⟩
theorem z5P:Nm (z01 s_joined) "headings":=⟨.inl rfl,by decide,by decide⟩
theorem z7W:Nm (z01 s_joined) "step":=⟨.inl rfl,by decide,by decide⟩
theorem z16:GlS (z01 s_joined) "least_headings":=rfl
theorem z3P:GlS (z01 s_joined) "step_of":=rfl
theorem z4i:GlS (z01 s_joined) "steps_merged":=rfl
theorem z2r:GlS (z01 s_joined) "steps_round":=rfl
theorem z2c:GlS (z01 s_joined) "vector_added":=rfl
theorem zcw {P:Program}{w:World}{K:W.Frag}{mg:Str->Option Value}{base:Heap}{f:Addr}{fd:FuncData}(T:Txt K mg)(F:Fun K "joined" "joined" s_joined f fd)(c_vector_added:Cal P w K mg base (CXe P w) 1 "vector_added" ["one","other"] (spP K mg z1a))(c_step_of:Cal P w K mg base (CXe P w) 1 "step_of" ["start","end"] (spP K mg z2d))(c_least_headings:Cal P w K mg base (CXe P w) 5 "least_headings" ["wind"] (spP K mg z0G))(c_steps_round:Cal P w K mg base (CXe P w) 3 "steps_round" ["corners","step_between"] (spP K mg z1q))(c_steps_merged:Cal P w K mg base (CXe P w) 3 "steps_merged" ["ones","others"] (spP K mg z1w)):FnOk P w K mg base (CXe P w) 6 f fd ["one","other"] (spP K mg z3H):=by
 refine fnN F z2E rfl rfl (λcdv A outer s H E hr =>?_);have hu:=hr.units;exact(z04 (z0m (ag 2 z2E.nd z5R (z0y c_least_headings (hr.mono (by decide)) z0b (z00 (qx_v (vg 0 zbu)) z02) (glg z16) z2m)))
   (z04 (z0m (ag 3 z2E.nd z5Q (z0y c_least_headings (hr.mono (by decide)) z0b (z00 (qx_v (vg 1 zbt)) z02) (glg z16) z2m)))
   (z04 (z0m (ag 4 z2E.nd z3k (z0y c_vector_added (hr.mono (by decide)) z0b (z00 (z0o (qx_v (vg 2 z5R)) z03 (λ_ _=>rfl)) (z00 (z0o (qx_v (vg 3 z5Q)) z03 (λ_ _=>rfl)) z02)) (glg z2c) z4K)))
   (z04 (z3W (ag 5 z2E.nd z5P (z2p (z00 (qx_v (vg 4 z3k)) z02))))
   (z04 (z65 (js:=[]) (g:=(.nm 6)) PassesOwn.never rfl (qi_x (z0y c_steps_merged (hr.mono (by decide)) z0b (z00 (z0y c_steps_round (hr.mono (by decide)) z0b (z00 (qx_v (vg 2 z5R)) (z00 (zcc (n:=2) rfl (glg z3P) c_step_of z5s) z02)) (glg z2r) z5r) (z00 (z0y c_steps_round (hr.mono (by decide)) z0b (z00 (qx_v (vg 3 z5Q)) (z00 (zcc (n:=2) rfl (glg z3P) c_step_of z5s) z02)) (glg z2r) z5r) z02)) (glg z4i) z7H)) (ng 6 z2E.nd z7W) (z04 (z0m (ag 4 z2E.nd z3k (z0y c_vector_added (hr.mono (by decide)) z0b (z00 (qx_v (vg 4 z3k)) (z00 (qx_v (vg 6 z7W)) z02)) (glg z2c) z4K)))
   (z0a (z66 (vg 5 z5P) (z00 (qx_v (vg 4 z3k)) z02)))))
   (z0a (z0q (z0y c_least_headings (hr.mono (by decide)) z0b (z00 (qx_v (vg 5 z5P)) z02) (glg z16) z2m))))))))
noncomputable abbrev s_joined_all:Stmt:=top 13
theorem z2s:z0p ["winds","total","wind"] ["winds"] (z01 s_joined_all):=⟨rfl,rfl,rfl,by decide +kernel,rfl,by decide +kernel,by decide +kernel⟩
theorem z7C:Nm (z01 s_joined_all) "winds":=⟨.inl rfl,by decide,by decide⟩
theorem z27:Nm (z01 s_joined_all) "total":=⟨.inl rfl,by decide,by decide⟩
theorem z4F:Nm (z01 s_joined_all) "wind":=⟨.inl rfl,by decide,by decide⟩
theorem z4Y:GlS (z01 s_joined_all) "joined":=rfl
theorem z8q {P:Program}{w:World}{K:W.Frag}{mg:Str->Option Value}{base:Heap}{f:Addr}{fd:FuncData}(T:Txt K mg)(F:Fun K "joined_all" "joined_all" s_joined_all f fd)(c_joined:Cal P w K mg base (CXe P w) 6 "joined" ["one","other"] (spP K mg z3H)):FnOk P w K mg base (CXe P w) 7 f fd ["winds"] (spP K mg z0Y):=by
 refine fnN F z2s rfl rfl (λcdv A outer s H E hr =>?_);have hu:=hr.units;exact(z04 (z0m (ag 1 z2s.nd z27 (z1g (z00 (z1g (z00 z03 (z00 z03 z02))) z02))))
   (z04 (z65 (js:=[]) (g:=(.nm 2)) PassesOwn.never rfl (qi_x (qx_v (vg 0 z7C))) (ng 2 z2s.nd z4F) (z0a (z0m (ag 1 z2s.nd z27 (z0y c_joined (hr.mono (by decide)) z0b (z00 (qx_v (vg 1 z27)) (z00 (qx_v (vg 2 z4F)) z02)) (glg z4Y) zaY)))))
   (z0a (z0q (qx_v (vg 1 z27))))))
noncomputable abbrev s_law_sums:Stmt:=top 28
theorem z4R:z0p ["one","other","found","first"] ["one","other"] (z01 s_law_sums):=⟨rfl,rfl,rfl,by decide +kernel,rfl,by decide +kernel,by decide +kernel⟩
theorem z9k:Nm (z01 s_law_sums) "one":=⟨.inl rfl,by decide,by decide⟩
theorem z9j:Nm (z01 s_law_sums) "other":=⟨.inl rfl,by decide,by decide⟩
theorem z4b:Nm (z01 s_law_sums) "found":=⟨.inl rfl,by decide,by decide⟩
theorem z9i:Nm (z01 s_law_sums) "first":=⟨.inr rfl,by decide,by decide⟩
theorem z9V {P:Program}{w:World}{K:W.Frag}{mg:Str->Option Value}{base:Heap}{f:Addr}{fd:FuncData}(T:Txt K mg)(F:Fun K "_law_sums" "_law_sums" s_law_sums f fd):FnOk P w K mg base (CXe P w) 1 f fd ["one","other"] (spP K mg z19):=by
 refine fnN F z4R rfl rfl (λcdv A outer s H E hr =>?_);have hu:=hr.units;exact(z04 (z3W (ag 2 z4R.nd z4b (z2p z02)))
   (z04 (z65 (js:=[]) (g:=(.nm 3)) PassesOwn.never rfl (qi_x (qx_v (vg 0 z9k))) (ng 3 z4R.nd z9i) (z0a (zhp (vg 2 z4b) (z4T (tg:=(.nm 0)) (ct:=none) rfl (qi_x (qx_v (vg 1 z9j))) rfl (z7m.ok (N':=["second","first"]) (xn:=["one","other","found","first"]) (nt:=1) (js:=[3]) (osc:=z01 s_law_sums) rfl rfl (by decide +kernel)) rfl (λC s2 H2 fp=>(z6O (i:=0) (show List.Nodup (["second","first"]:List Str) from by decide) rfl rfl)) trivial (λC s2 H2 fp=>(z1g (z00 (z05 z0M lk2 (z0o (qx_v (qv 1)) z03 (λ_ _=>rfl)) (z0o (qx_v (qv 0)) z03 (λ_ _=>rfl))) (z00 (z05 z0M lk2 (z0o (qx_v (qv 1)) z03 (λ_ _=>rfl)) (z0o (qx_v (qv 0)) z03 (λ_ _=>rfl))) z02))))))))
   (z0a (z0q (qx_v (vg 2 z4b))))))
noncomputable abbrev z1n:Stmt:=top 15
theorem z7s:z0p ["script","k"] ["script","k"] (z01 z1n):=⟨rfl,rfl,rfl,by decide +kernel,rfl,by decide +kernel,by decide +kernel⟩
theorem z4e:Nm (z01 z1n) "script":=⟨.inl rfl,by decide,by decide⟩
theorem z4d:Nm (z01 z1n) "k":=⟨.inl rfl,by decide,by decide⟩
theorem z5X:GlS (z01 z1n) "len":=rfl
theorem z7x {P:Program}{w:World}{K:W.Frag}{mg:Str->Option Value}{base:Heap}{f:Addr}{fd:FuncData}(T:Txt K mg)(F:Fun K "_law_cell_at" "_law_cell_at" z1n f fd):FnOk P w K mg base (CXe P w) 1 f fd ["script","k"] (spP K mg z0k):=by
 refine fnN F z7s rfl rfl (λcdv A outer s H E hr =>?_);have hu:=hr.units;exact(z04 (z3v (z1t (z9Y hu) lk2 (qx_v (vg 1 z4d)) (z3w z2g lkN (glg z5X) T.n_len z4m (z00 (qx_v (vg 0 z4e)) z02) z3Z z4l) (z0T _)) (z0a (z0q (z0o (qx_v (vg 0 z4e)) (qx_v (vg 1 z4d)) (λ_ _=>rfl)))) z1L)
   (z0a (z0q z03)))
noncomputable abbrev z1F:Stmt:=top 19
theorem z55:z0p ["cell","far","wide"] ["cell","far"] (z01 z1F):=⟨rfl,rfl,rfl,by decide +kernel,rfl,by decide +kernel,by decide +kernel⟩
theorem z4E:Nm (z01 z1F) "cell":=⟨.inl rfl,by decide,by decide⟩
theorem z39:Nm (z01 z1F) "far":=⟨.inl rfl,by decide,by decide⟩
theorem z26:Nm (z01 z1F) "wide":=⟨.inl rfl,by decide,by decide⟩
theorem z8p {P:Program}{w:World}{K:W.Frag}{mg:Str->Option Value}{base:Heap}{f:Addr}{fd:FuncData}(T:Txt K mg)(F:Fun K "_law_digits" "_law_digits" z1F f fd):FnOk P w K mg base (CXe P w) 1 f fd ["cell","far"] (spP K mg z0X):=by
 refine fnN F z55 rfl rfl (λcdv A outer s H E hr =>?_);have hu:=hr.units;exact(z04 (z0m (ag 2 z55.nd z26 (z05 z0M lk2 (z05 z29 lk2 z03 (qx_v (vg 1 z39))) z03)))
   (z0a (z0q (z1g (z00 (z05 z3j lk2 (z05 z1N lk2 (qx_v (vg 0 z4E)) (qx_v (vg 2 z26))) (qx_v (vg 1 z39))) (z00 (z05 z3j lk2 (z05 z1N lk2 (z05 z8s lk2 (qx_v (vg 0 z4E)) (qx_v (vg 2 z26))) (qx_v (vg 2 z26))) (qx_v (vg 1 z39))) z02))))))
noncomputable abbrev z0d:Stmt:=top 23
theorem z0L:z0p ["cells","far","pairs","at","size","rows"] ["cells","far"] (z01 z0d):=⟨rfl,rfl,rfl,by decide +kernel,rfl,by decide +kernel,by decide +kernel⟩
theorem z0W:Nm (z01 z0d) "cells":=⟨.inl rfl,by decide,by decide⟩
theorem z1T:Nm (z01 z0d) "pairs":=⟨.inl rfl,by decide,by decide⟩
theorem z0h:Nm (z01 z0d) "at":=⟨.inl rfl,by decide,by decide⟩
theorem z1S:Nm (z01 z0d) "size":=⟨.inl rfl,by decide,by decide⟩
theorem z32:Nm (z01 z0d) "rows":=⟨.inl rfl,by decide,by decide⟩
theorem z4y:GlS (z01 z0d) "int":=rfl
theorem z2q:GlS (z01 z0d) "len":=rfl
theorem z3S:GlS (z01 z0d) "tuple":=rfl
theorem z5J {P:Program}{w:World}{K:W.Frag}{mg:Str->Option Value}{base:Heap}{f:Addr}{fd:FuncData}(T:Txt K mg)(F:Fun K "_law_free_pairs" "_law_free_pairs" z0d f fd)(c__law_digits:Cal P w K mg base (CXe P w) 1 "_law_digits" ["cell","far"] (spP K mg z0X)):FnOk P w K mg base (CXe P w) 2 f fd ["cells","far"] (spP K mg z0A):=by
 refine fnN F z0L rfl rfl (λcdv A outer s H E hr =>?_);have hu:=hr.units;exact(z04 (z3W (ag 2 z0L.nd z1T (z2p z02)))
   (z04 (z0m (ag 3 z0L.nd z0h z03))
   (z04 (z57 PassesOwn.never (z1t (z9Y hu) lk2 (qx_v (vg 3 z0h)) (z3w z2g lkN (glg z2q) T.n_len z4m (z00 (qx_v (vg 0 z0W)) z02) z3Z z4l) (z0T _)) (z04 (z0m (ag 4 z0L.nd z1S (z05 z0M lk2 z03 (z05 z1N lk2 (z0o (qx_v (vg 0 z0W)) (qx_v (vg 3 z0h)) (λ_ _=>rfl)) z03))))
   (z04 (z3W (ag 5 z0L.nd z32 (zce (z6i (qx_v (vg 0 z0W)) (z1A (z05 z0M lk2 (qx_v (vg 3 z0h)) z03)) (z1A (z05 z0M lk2 (z05 z0M lk2 (qx_v (vg 3 z0h)) z03) (qx_v (vg 4 z1S))))) (z05 zcz lk2 (QF.qx (z2p (z00 z03 z02))) (z3X zfi lkN (glg z4y) T.n_int zgK (z00 (z67 (z7y hu) lk2 (z05 z0M lk2 (qx_v (vg 3 z0h)) z03) (z3w z2g lkN (glg z2q) T.n_len z4m (z00 (qx_v (vg 0 z0W)) z02) z3Z z4l) (z0T _)) z02) zgr zgE)))))
   (z04 (z66 (vg 2 z1T) (z00 (z1g (z00 (z3X z2x lkN (glg z3S) T.n_tuple z2P (z00 (QF.qx (z4T (tg:=(.nm 0)) (ct:=none) rfl (qi_x (qx_v (vg 5 z32))) rfl (z7m.ok (N':=["cell","far"]) (xn:=["cells","far","pairs","at","size","rows"]) (nt:=1) (js:=[1]) (osc:=z01 z0d) rfl rfl (by decide +kernel)) rfl (λC s2 H2 fp=>(z6O (i:=0) (show List.Nodup (["cell","far"]:List Str) from by decide) rfl rfl)) trivial (λC s2 H2 fp=>(z0y c__law_digits (hr.mono (by decide)) z0b (z00 (qx_v (qv 0)) (z00 (qx_v (qv 1)) z02)) (by rfl) z8D)))) z02) z2G z2N) (z00 (z05 z8s lk2 (z0o (qx_v (vg 0 z0W)) (qx_v (vg 3 z0h)) (λ_ _=>rfl)) z03) z02))) z02))
   (z0a (z0m (ag 3 z0L.nd z0h (z05 z0M lk2 (z05 z0M lk2 (qx_v (vg 3 z0h)) z03) (qx_v (vg 4 z1S))))))))))
   (z0a (z0q (qx_v (vg 2 z1T)))))))
noncomputable abbrev z14:Stmt:=top 18
theorem z54:z0p ["cell","k","most","east"] ["cell","k","most"] (z01 z14):=⟨rfl,rfl,rfl,by decide +kernel,rfl,by decide +kernel,by decide +kernel⟩
theorem z4D:Nm (z01 z14) "cell":=⟨.inl rfl,by decide,by decide⟩
theorem z4C:Nm (z01 z14) "k":=⟨.inl rfl,by decide,by decide⟩
theorem z25:Nm (z01 z14) "most":=⟨.inl rfl,by decide,by decide⟩
theorem z4B:Nm (z01 z14) "east":=⟨.inl rfl,by decide,by decide⟩
theorem z2a:GlS (z01 z14) "_law_mix":=rfl
theorem z8o {P:Program}{w:World}{K:W.Frag}{mg:Str->Option Value}{base:Heap}{f:Addr}{fd:FuncData}(T:Txt K mg)(F:Fun K "_law_vector" "_law_vector" z14 f fd)(c__law_mix:Cal P w K mg base (CXe P w) 1 "_law_mix" ["cell","k"] (spP K mg z08)):FnOk P w K mg base (CXe P w) 2 f fd ["cell","k","most"] (spP K mg z0w):=by
 refine fnN F z54 rfl rfl (λcdv A outer s H E hr =>?_);have hu:=hr.units;exact(z04 (z0m (ag 3 z54.nd z4B (z05 z3j lk2 (z05 z1N lk2 (z0y c__law_mix (hr.mono (by decide)) z0b (z00 (qx_v (vg 0 z4D)) (z00 (qx_v (vg 1 z4C)) z02)) (glg z2a) z13) (z05 z0M lk2 (z05 z29 lk2 z03 (qx_v (vg 2 z25))) z03)) (qx_v (vg 2 z25)))))
   (z0a (z0q (z1g (z00 (qx_v (vg 3 z4B)) (z00 (z05 z3j lk2 (z05 z1N lk2 (z0y c__law_mix (hr.mono (by decide)) z0b (z00 (qx_v (vg 0 z4D)) (z00 (z05 z0M lk2 (qx_v (vg 1 z4C)) z03) z02)) (glg z2a) z13) (z05 z0M lk2 (z05 z29 lk2 z03 (qx_v (vg 2 z25))) z03)) (qx_v (vg 2 z25))) z02))))))
noncomputable abbrev z1D:Stmt:=top 20
theorem z8c:z0p ["number"] ["number"] (z01 z1D):=⟨rfl,rfl,rfl,by decide +kernel,rfl,by decide +kernel,by decide +kernel⟩
theorem z7B:Nm (z01 z1D) "number":=⟨.inl rfl,by decide,by decide⟩
theorem z6l:GlS (z01 z1D) "max":=rfl
theorem z6k:GlS (z01 z1D) "min":=rfl
theorem z8n {P:Program}{w:World}{K:W.Frag}{mg:Str->Option Value}{base:Heap}{f:Addr}{fd:FuncData}(T:Txt K mg)(F:Fun K "_law_within" "_law_within" z1D f fd):FnOk P w K mg base (CXe P w) 1 f fd ["number"] (spP K mg z0E):=by
 refine fnN F z8c rfl rfl (λcdv A outer s H E hr =>?_);have hu:=hr.units;exact(z0a (z0q (z3w (zgI rfl) lkN (glg z6l) T.n_max zkd (z00 (z8g z5c lk1 (z05 z5d lk2 z03 z03)) (z00 (z3w (zgH rfl) lkN (glg z6k) T.n_min zkc (z00 (z05 z5d lk2 z03 z03) (z00 (qx_v (vg 0 z7B)) z02)) zjS zk6) z02)) zjT zk7)))
noncomputable abbrev z0x:Stmt:=top 21
theorem z0Z:z0p ["cells","most","first","step","way","rows","cell","heading","turn"] ["cells","most"] (z01 z0x):=⟨rfl,rfl,rfl,by decide +kernel,rfl,by decide +kernel,by decide +kernel⟩
theorem z30:Nm (z01 z0x) "cells":=⟨.inl rfl,by decide,by decide⟩
theorem z69:Nm (z01 z0x) "most":=⟨.inl rfl,by decide,by decide⟩
theorem z2Z:Nm (z01 z0x) "first":=⟨.inl rfl,by decide,by decide⟩
theorem z48:Nm (z01 z0x) "step":=⟨.inl rfl,by decide,by decide⟩
theorem z47:Nm (z01 z0x) "way":=⟨.inl rfl,by decide,by decide⟩
theorem z46:Nm (z01 z0x) "rows":=⟨.inl rfl,by decide,by decide⟩
theorem z45:Nm (z01 z0x) "cell":=⟨.inl rfl,by decide,by decide⟩
theorem z2Y:Nm (z01 z0x) "heading":=⟨.inl rfl,by decide,by decide⟩
theorem z44:Nm (z01 z0x) "turn":=⟨.inl rfl,by decide,by decide⟩
theorem z2K:GlS (z01 z0x) "_law_mix":=rfl
theorem z1b:GlS (z01 z0x) "_law_vector":=rfl
theorem z1Y:GlS (z01 z0x) "_law_within":=rfl
theorem z6m:GlS (z01 z0x) "tuple":=rfl
theorem z9T {P:Program}{w:World}{K:W.Frag}{mg:Str->Option Value}{base:Heap}{f:Addr}{fd:FuncData}(T:Txt K mg)(F:Fun K "_law_wind" "_law_wind" z0x f fd)(c__law_mix:Cal P w K mg base (CXe P w) 1 "_law_mix" ["cell","k"] (spP K mg z08))(c__law_vector:Cal P w K mg base (CXe P w) 2 "_law_vector" ["cell","k","most"] (spP K mg z0w))(c__law_within:Cal P w K mg base (CXe P w) 1 "_law_within" ["number"] (spP K mg z0E)):FnOk P w K mg base (CXe P w) 3 f fd ["cells","most"] (spP K mg z0Q):=by
 refine fnN F z0Z rfl rfl (λcdv A outer s H E hr =>?_);have hu:=hr.units;exact(z04 (z0m (ag 2 z0Z.nd z2Z (z0y c__law_vector (hr.mono (by decide)) z0b (z00 (z0o (qx_v (vg 0 z30)) z03 (λ_ _=>rfl)) (z00 z03 (z00 (qx_v (vg 1 z69)) z02))) (glg z1b) z3I)))
   (z04 (z0m (ag 3 z0Z.nd z48 (z0y c__law_vector (hr.mono (by decide)) z0b (z00 (z0o (qx_v (vg 0 z30)) z03 (λ_ _=>rfl)) (z00 z03 (z00 z03 z02))) (glg z1b) z3I)))
   (z04 (z0m (ag 4 z0Z.nd z47 (z05 z1N lk2 (z0y c__law_mix (hr.mono (by decide)) z0b (z00 (z0o (qx_v (vg 0 z30)) z03 (λ_ _=>rfl)) (z00 z03 z02)) (glg z2K) z13) z03)))
   (z04 (z3W (ag 5 z0Z.nd z46 (z2p z02)))
   (z04 (z65 (js:=[]) (g:=(.nm 6)) PassesOwn.never rfl (qi_x (qx_v (vg 0 z30))) (ng 6 z0Z.nd z45) (z04 (z0m (ag 7 z0Z.nd z2Y (z0y c__law_vector (hr.mono (by decide)) z0b (z00 (qx_v (vg 6 z45)) (z00 z03 (z00 (qx_v (vg 1 z69)) z02))) (glg z1b) z3I)))
   (z04 (z0m (ag 8 z0Z.nd z44 (z05 z3j lk2 (z05 z1N lk2 (z0y c__law_mix (hr.mono (by decide)) z0b (z00 (qx_v (vg 6 z45)) (z00 z03 z02)) (glg z2K) z13) z03) z03)))
   (z04 (z3v (z1t (z7y hu) lk2 (qx_v (vg 4 z47)) z03 (z0T _)) (z0a (z0m (ag 7 z0Z.nd z2Y (z1g (z00 (z0y c__law_within (hr.mono (by decide)) z0b (z00 (z05 z0M lk2 (z0o (qx_v (vg 2 z2Z)) z03 (λ_ _=>rfl)) (z05 z29 lk2 (qx_v (vg 8 z44)) (z0o (qx_v (vg 3 z48)) z03 (λ_ _=>rfl)))) z02) (glg z1Y) z5t) (z00 (z0y c__law_within (hr.mono (by decide)) z0b (z00 (z05 z0M lk2 (z0o (qx_v (vg 2 z2Z)) z03 (λ_ _=>rfl)) (z05 z29 lk2 (qx_v (vg 8 z44)) (z0o (qx_v (vg 3 z48)) z03 (λ_ _=>rfl)))) z02) (glg z1Y) z5t) z02)))))) z1L)
   (z04 (z3v (z1t (z7y hu) lk2 (qx_v (vg 4 z47)) z03 (z0T _)) (z0a (z0m (ag 7 z0Z.nd z2Y (qx_v (vg 2 z2Z))))) z1L)
   (z0a (z66 (vg 5 z46) (z00 (qx_v (vg 7 z2Y)) z02))))))))
   (z0a (z0q (z3X z2x lkN (glg z6m) T.n_tuple z2P (z00 (qx_v (vg 5 z46)) z02) z2G z2N))))))))
noncomputable abbrev z1m:Stmt:=top 22
theorem z7r:z0p ["wind"] ["wind"] (z01 z1m):=⟨rfl,rfl,rfl,by decide +kernel,rfl,by decide +kernel,by decide +kernel⟩
theorem z75:Nm (z01 z1m) "wind":=⟨.inl rfl,by decide,by decide⟩
theorem z4X:GlS (z01 z1m) "tuple":=rfl
theorem z7w {P:Program}{w:World}{K:W.Frag}{mg:Str->Option Value}{base:Heap}{f:Addr}{fd:FuncData}(T:Txt K mg)(F:Fun K "_law_far_off" "_law_far_off" z1m f fd):FnOk P w K mg base (CXe P w) 1 f fd ["wind"] (spP K mg z0O):=by
 refine fnN F z7r rfl rfl (λcdv A outer s H E hr =>?_);have hu:=hr.units;exact(z0a (z0q (z3X z2x lkN (glg z4X) T.n_tuple z2P (z00 (QF.qx (z4T (tg:=(.nm 0)) (ct:=none) rfl (qi_x (qx_v (vg 0 z75))) rfl (z7m.ok (N':=["heading"]) (xn:=["wind"]) (nt:=1) (js:=[]) (osc:=z01 z1m) rfl rfl (by decide +kernel)) rfl (λC s2 H2 fp=>(z6O (i:=0) (show List.Nodup (["heading"]:List Str) from by decide) rfl rfl)) trivial (λC s2 H2 fp=>(z1g (z00 (z05 z29 lk2 (z05 z29 lk2 (z0o (qx_v (qv 0)) z03 (λ_ _=>rfl)) (z05 z5d lk2 z03 z03)) (z05 z5d lk2 z03 z03)) (z00 (z05 z29 lk2 (z05 z29 lk2 (z0o (qx_v (qv 0)) z03 (λ_ _=>rfl)) (z05 z5d lk2 z03 z03)) (z05 z5d lk2 z03 z03)) z02)))))) z02) z2G z2N)))
noncomputable abbrev z0i:Stmt:=top 24
theorem z0K:z0p ["script","head","cells","most","pairs","at","size"] ["script"] (z01 z0i):=⟨rfl,rfl,rfl,by decide +kernel,rfl,by decide +kernel,by decide +kernel⟩
theorem z3F:Nm (z01 z0i) "script":=⟨.inl rfl,by decide,by decide⟩
theorem z2u:Nm (z01 z0i) "head":=⟨.inl rfl,by decide,by decide⟩
theorem z0u:Nm (z01 z0i) "cells":=⟨.inl rfl,by decide,by decide⟩
theorem z3E:Nm (z01 z0i) "most":=⟨.inl rfl,by decide,by decide⟩
theorem z1p:Nm (z01 z0i) "pairs":=⟨.inl rfl,by decide,by decide⟩
theorem z0J:Nm (z01 z0i) "at":=⟨.inl rfl,by decide,by decide⟩
theorem z3D:Nm (z01 z0i) "size":=⟨.inl rfl,by decide,by decide⟩
theorem z3n:GlS (z01 z0i) "_law_cell_at":=rfl
theorem z2L:GlS (z01 z0i) "_law_free_pairs":=rfl
theorem z0I:GlS (z01 z0i) "_law_mix":=rfl
theorem z2b:GlS (z01 z0i) "_law_wind":=rfl
theorem z78:GlS (z01 z0i) "int":=rfl
theorem z4h:GlS (z01 z0i) "len":=rfl
theorem z99 {P:Program}{w:World}{K:W.Frag}{mg:Str->Option Value}{base:Heap}{f:Addr}{fd:FuncData}(T:Txt K mg)(F:Fun K "_law_pairs" "_law_pairs" z0i f fd)(c__law_cell_at:Cal P w K mg base (CXe P w) 1 "_law_cell_at" ["script","k"] (spP K mg z0k))(c__law_mix:Cal P w K mg base (CXe P w) 1 "_law_mix" ["cell","k"] (spP K mg z08))(c__law_wind:Cal P w K mg base (CXe P w) 3 "_law_wind" ["cells","most"] (spP K mg z0Q))(c__law_far_off:Cal P w K mg base (CXe P w) 1 "_law_far_off" ["wind"] (spP K mg z0O))(c__law_free_pairs:Cal P w K mg base (CXe P w) 2 "_law_free_pairs" ["cells","far"] (spP K mg z0A)):FnOk P w K mg base (CXe P w) 4 f fd ["script"] (spP K mg z11):=by
 refine fnN F z0K rfl rfl (λcdv A outer s H E hr =>?_);have hu:=hr.units;exact(z04 (z0m (ag 1 z0K.nd z2u (z0y c__law_cell_at (hr.mono (by decide)) z0b (z00 (qx_v (vg 0 z3F)) (z00 z03 z02)) (glg z3n) z3e)))
   (z04 (z0m (ag 2 z0K.nd z0u (z05 z0M lk2 (z6i (qx_v (vg 0 z3F)) (z1A z03) z2k) (z05 zcz lk2 (QF.qx (z2p (z00 z03 z02))) (z3X zfi lkN (glg z78) T.n_int zgK (z00 (z67 (z9Y hu) lk2 (z3w z2g lkN (glg z4h) T.n_len z4m (z00 (qx_v (vg 0 z3F)) z02) z3Z z4l) z03 (z0T _)) z02) zgr zgE)))))
   (z04 (z3v (z1t (z7y hu) lk2 (z05 z1N lk2 (qx_v (vg 1 z2u)) z03) z03 (z0T _)) (z0a (z0q (z0y c__law_free_pairs (hr.mono (by decide)) z0b (z00 (qx_v (vg 2 z0u)) (z00 (z0o (QF.qx (z2p (z00 z03 (z00 (z05 z5d lk2 z03 z03) (z00 (z05 z5d lk2 z03 z03) z02))))) (z05 z1N lk2 (z05 z8s lk2 (qx_v (vg 1 z2u)) z03) z03) (λ_ _=>rfl)) z02)) (glg z2L) z5Z))) z1L)
   (z04 (z0m (ag 3 z0K.nd z3E (z0o (QF.qx (z2p (z00 z03 (z00 z03 (z00 z03 (z00 z03 (z00 z03 (z00 (z05 z5d lk2 z03 z03) z02)))))))) (z05 z1N lk2 (z0y c__law_mix (hr.mono (by decide)) z0b (z00 (qx_v (vg 1 z2u)) (z00 z03 z02)) (glg z0I) z13) z03) (λ_ _=>rfl))))
   (z04 (z3W (ag 4 z0K.nd z1p (z2p z02)))
   (z04 (z0m (ag 5 z0K.nd z0J z03))
   (z04 (z57 PassesOwn.never (z1t (z9Y hu) lk2 (qx_v (vg 5 z0J)) (z3w z2g lkN (glg z4h) T.n_len z4m (z00 (qx_v (vg 2 z0u)) z02) z3Z z4l) (z0T _)) (z04 (z0m (ag 6 z0K.nd z3D (z05 z0M lk2 z03 (z05 z1N lk2 (z0y c__law_mix (hr.mono (by decide)) z0b (z00 (z0o (qx_v (vg 2 z0u)) (qx_v (vg 5 z0J)) (λ_ _=>rfl)) (z00 z03 z02)) (glg z0I) z13) (z0o (QF.qx (z2p (z00 z03 (z00 z03 (z00 z03 (z00 z03 z02)))))) (z05 z1N lk2 (z0y c__law_mix (hr.mono (by decide)) z0b (z00 (z0o (qx_v (vg 2 z0u)) (qx_v (vg 5 z0J)) (λ_ _=>rfl)) (z00 z03 z02)) (glg z0I) z13) z03) (λ_ _=>rfl))))))
   (z04 (z66 (vg 4 z1p) (z00 (z1g (z00 (z0y c__law_wind (hr.mono (by decide)) z0b (z00 (z6i (qx_v (vg 2 z0u)) (z1A (qx_v (vg 5 z0J))) (z1A (z05 z0M lk2 (qx_v (vg 5 z0J)) (qx_v (vg 6 z3D))))) (z00 (qx_v (vg 3 z3E)) z02)) (glg z2b) z7j) (z00 (z0o (qx_v (vg 2 z0u)) (qx_v (vg 5 z0J)) (λ_ _=>rfl)) z02))) z02))
   (z0a (z0m (ag 5 z0K.nd z0J (z05 z0M lk2 (qx_v (vg 5 z0J)) (qx_v (vg 6 z3D)))))))))
   (z04 (z3v (z1t (z7y hu) lk2 (z05 z1N lk2 (z0y c__law_mix (hr.mono (by decide)) z0b (z00 (z0o (qx_v (vg 2 z0u)) z03 (λ_ _=>rfl)) (z00 z03 z02)) (glg z0I) z13) z03) z03 (z0T _)) (z0a (z3W (ag 4 z0K.nd z1p (zce (QF.qx (z2p (z00 (z1g (z00 (z0y c__law_wind (hr.mono (by decide)) z0b (z00 (qx_v (vg 2 z0u)) (z00 (qx_v (vg 3 z3E)) z02)) (glg z2b) z7j) (z00 (z05 z0M lk2 (z0o (qx_v (vg 2 z0u)) z03 (λ_ _=>rfl)) z03) z02))) z02))) (qx_v (vg 4 z1p)))))) z1L)
   (z04 (z3v (z1t (z7y hu) lk2 (z05 z1N lk2 (z0y c__law_mix (hr.mono (by decide)) z0b (z00 (z0o (qx_v (vg 2 z0u)) z03 (λ_ _=>rfl)) (z00 z03 z02)) (glg z0I) z13) z03) z03 (z0T _)) (z0a (z3W (zfN (iy:=4) (tg:=(.nm 0)) (ct:=none) z0K.nd rfl rfl rfl (qi_x (qx_v (vg 4 z1p))) rfl (z7m.ok (N':=["pair"]) (xn:=["script","head","cells","most","pairs","at","size"]) (nt:=1) (js:=[]) (osc:=z01 z0i) rfl rfl (by decide +kernel)) rfl (λC s2 H2 fp=>(z6O (i:=0) (show List.Nodup (["pair"]:List Str) from by decide) rfl rfl)) trivial (λC s2 H2 fp=>(z1g (z00 (z0y c__law_far_off (hr.mono (by decide)) z0b (z00 (z0o (qx_v (qv 0)) z03 (λ_ _=>rfl)) z02) (by rfl) z7I) (z00 (z0o (qx_v (qv 0)) z03 (λ_ _=>rfl)) z02))))))) z1L)
   (z0a (z0q (qx_v (vg 4 z1p)))))))))))))
noncomputable abbrev z2j:Stmt:=top 29
theorem z56:z0p ["script","winds","due","wind","ranks","turned","at"] ["script"] (z01 z2j):=⟨rfl,rfl,rfl,by decide +kernel,rfl,by decide +kernel,by decide +kernel⟩
theorem za8:Nm (z01 z2j) "script":=⟨.inr rfl,by decide,by decide⟩
theorem z5O:Nm (z01 z2j) "winds":=⟨.inr rfl,by decide,by decide⟩
theorem z5N:Nm (z01 z2j) "due":=⟨.inl rfl,by decide,by decide⟩
theorem zcX:Nm (z01 z2j) "wind":=⟨.inl rfl,by decide,by decide⟩
theorem zcW:Nm (z01 z2j) "ranks":=⟨.inl rfl,by decide,by decide⟩
theorem z8y:Nm (z01 z2j) "turned":=⟨.inl rfl,by decide,by decide⟩
theorem za7:Nm (z01 z2j) "at":=⟨.inl rfl,by decide,by decide⟩
theorem z5p:GlS (z01 z2j) "_law_cell_at":=rfl
theorem z6p:GlS (z01 z2j) "_law_least":=rfl
theorem z7E:GlS (z01 z2j) "_law_mix":=rfl
theorem z6o:GlS (z01 z2j) "_law_pairs":=rfl
theorem z1U:GlS (z01 z2j) "_law_same":=rfl
theorem z7c:GlS (z01 z2j) "_law_sums":=rfl
theorem z9o:GlS (z01 z2j) "joined":=rfl
theorem z17:GlS (z01 z2j) "joined_all":=rfl
theorem z79:GlS (z01 z2j) "len":=rfl
theorem zaa:GlS (z01 z2j) "range":=rfl
theorem z9n:GlS (z01 z2j) "sorted":=rfl
theorem z77:GlS (z01 z2j) "tuple":=rfl
theorem zii {P:Program}{w:World}{K:W.Frag}{mg:Str->Option Value}{base:Heap}{f:Addr}{fd:FuncData}(T:Txt K mg)(F:Fun K "law" "law" z2j f fd)(c_joined:Cal P w K mg base (CXe P w) 6 "joined" ["one","other"] (spP K mg z3H))(c_joined_all:Cal P w K mg base (CXe P w) 7 "joined_all" ["winds"] (spP K mg z0Y))(c__law_cell_at:Cal P w K mg base (CXe P w) 1 "_law_cell_at" ["script","k"] (spP K mg z0k))(c__law_mix:Cal P w K mg base (CXe P w) 1 "_law_mix" ["cell","k"] (spP K mg z08))(c__law_same:Cal P w K mg base (CXe P w) 4 "_law_same" ["found","due"] (spP K mg z0R))(c__law_pairs:Cal P w K mg base (CXe P w) 4 "_law_pairs" ["script"] (spP K mg z11))(c__law_least:Cal P w K mg base (CXe P w) 3 "_law_least" ["points"] (spP K mg z12))(c__law_sums:Cal P w K mg base (CXe P w) 1 "_law_sums" ["one","other"] (spP K mg z19)):FnOk P w K mg base (CXe P w) 8 f fd ["script"] (spP K mg z7h):=by
 refine fnN F z56 rfl rfl (λcdv A outer s H E hr =>?_);have hu:=hr.units;exact(z04 (z0m (ag 1 z56.nd z5O (QF.qx (z4T (tg:=(.nm 0)) (ct:=none) rfl (qi_x (z6i (z0y c__law_pairs (hr.mono (by decide)) z0b (z00 (qx_v (vg 0 za8)) z02) (glg z6o) z9v) z2k (z1A z03))) rfl (z7m.ok (N':=["pair"]) (xn:=["script","winds","due","wind","ranks","turned","at"]) (nt:=1) (js:=[]) (osc:=z01 z2j) rfl rfl (by decide +kernel)) rfl (λC s2 H2 fp=>(z6O (i:=0) (show List.Nodup (["pair"]:List Str) from by decide) rfl rfl)) trivial (λC s2 H2 fp=>(z0o (qx_v (qv 0)) z03 (λ_ _=>rfl)))))))
   (z04 (z3v (z1t (z9Y hu) lk2 (z3w z2g lkN (glg z79) T.n_len z4m (z00 (qx_v (vg 0 za8)) z02) z3Z z4l) z03 (z0T _)) (z0a (z0m (ag 1 z56.nd z5O (QF.qx (z2p z02))))) z1L)
   (z04 (z0m (ag 2 z56.nd z5N (z1g (z00 (z1g (z00 z03 (z00 z03 z02))) z02))))
   (z04 (z65 (js:=[]) (g:=(.nm 3)) PassesOwn.never rfl (qi_x (qx_v (vg 1 z5O))) (ng 3 z56.nd zcX) (z0a (z0m (ag 2 z56.nd z5N (z0y c__law_least (hr.mono (by decide)) z0b (z00 (z0y c__law_sums (hr.mono (by decide)) z0b (z00 (qx_v (vg 2 z5N)) (z00 (qx_v (vg 3 zcX)) z02)) (glg z7c) zaf) z02) (glg z6p) z9w)))))
   (z04 (z0m (ag 4 z56.nd zcW (QF.qx (zjp (zdg hu) (glg z9n) T.n_sorted zeD (z00 (QF.qx (z4T (tg:=(.nm 0)) (ct:=none) rfl (zbf (glg zaa) T.n_range (z00 (z3w z2g lkN (glg z79) T.n_len z4m (z00 (qx_v (vg 1 z5O)) z02) z3Z z4l) z02)) rfl (z7m.ok (N':=["k","script"]) (xn:=["script","winds","due","wind","ranks","turned","at"]) (nt:=1) (js:=[0]) (osc:=z01 z2j) rfl rfl (by decide +kernel)) rfl (λC s2 H2 fp=>(z6O (i:=0) (show List.Nodup (["k","script"]:List Str) from by decide) rfl rfl)) trivial (λC s2 H2 fp=>(z1g (z00 (z0y c__law_mix (hr.mono (by decide)) z0b (z00 (z0y c__law_cell_at (hr.mono (by decide)) z0b (z00 (qx_v (qv 1)) (z00 z03 z02)) (by rfl) z3e) (z00 (z05 z0M lk2 z03 (qx_v (qv 0))) z02)) (by rfl) z13) (z00 (qx_v (qv 0)) z02)))))) z02) zee zex))))
   (z04 (z0m (ag 5 z56.nd z8y (z3X z2x lkN (glg z77) T.n_tuple z2P (z00 (QF.qx (z4T (tg:=(.nm 0)) (ct:=none) rfl (qi_x (qx_v (vg 4 zcW))) rfl (z7m.ok (N':=["pair","winds"]) (xn:=["script","winds","due","wind","ranks","turned","at"]) (nt:=1) (js:=[1]) (osc:=z01 z2j) rfl rfl (by decide +kernel)) rfl (λC s2 H2 fp=>(z6O (i:=0) (show List.Nodup (["pair","winds"]:List Str) from by decide) rfl rfl)) trivial (λC s2 H2 fp=>(z0o (qx_v (qv 1)) (z0o (qx_v (qv 0)) z03 (λ_ _=>rfl)) (λ_ _=>rfl))))) z02) z2G z2N)))
   (z04 (z3v (QW.pt (zcd (z5E (z3x (z0y c__law_same (hr.mono (by decide)) z0b (z00 (z0y c_joined_all (hr.mono (by decide)) z0b (z00 (z3X z2x lkN (glg z77) T.n_tuple z2P (z00 (qx_v (vg 1 z5O)) z02) z2G z2N) z02) (glg z17) z2f) (z00 (qx_v (vg 2 z5N)) z02)) (glg z1U) z2O))) (z9Q (z5E (z3x (z0y c__law_same (hr.mono (by decide)) z0b (z00 (z0y c_joined_all (hr.mono (by decide)) z0b (z00 (qx_v (vg 5 z8y)) z02) (glg z17) z2f) (z00 (qx_v (vg 2 z5N)) z02)) (glg z1U) z2O)))))) (z0a (z0q zbe)) z1L)
   (z04 (z0m (ag 6 z56.nd za7 (z05 z1N lk2 (z0y c__law_mix (hr.mono (by decide)) z0b (z00 (z0y c__law_cell_at (hr.mono (by decide)) z0b (z00 (qx_v (vg 0 za8)) (z00 z03 z02)) (glg z5p) z3e) (z00 z03 z02)) (glg z7E) z13) (z05 z0M lk2 (z3w z2g lkN (glg z79) T.n_len z4m (z00 (qx_v (vg 1 z5O)) z02) z3Z z4l) z03))))
   (z04 (z3v (z5E (z3x (z0y c__law_same (hr.mono (by decide)) z0b (z00 (z0y c_joined (hr.mono (by decide)) z0b (z00 (z0y c_joined_all (hr.mono (by decide)) z0b (z00 (z6i (qx_v (vg 5 z8y)) z2k (z1A (qx_v (vg 6 za7)))) z02) (glg z17) z2f) (z00 (z0y c_joined_all (hr.mono (by decide)) z0b (z00 (z6i (qx_v (vg 5 z8y)) (z1A (qx_v (vg 6 za7))) z2k) z02) (glg z17) z2f) z02)) (glg z9o) zaY) (z00 (qx_v (vg 2 z5N)) z02)) (glg z1U) z2O))) (z0a (z0q zbe)) z1L)
   (z0a (z0q (z0y c__law_same (hr.mono (by decide)) z0b (z00 (z0y c_joined_all (hr.mono (by decide)) z0b (z00 (z1g z02) z02) (glg z17) z2f) (z00 (z1g (z00 (z1g (z00 z03 (z00 z03 z02))) z02)) z02)) (glg z1U) z2O))))))))))))
theorem zj5 {l:PySem.W.OpenLaw}{w:World}{K:W.Frag}{h:Heap}{mg:Str->Option Value}{fa f0 f1 f2 f3 f4 f5 f6 f7 f8 f9 f10 f11 f12 f13 f14 f15 f16 f17 f18 f19 f20 f21 f22 f23 f24 f25 f26:Addr}(X:K.In h)(G:h.Ns mainGlobals mg)(hfa:mg "law"=some (.ref fa))
  (d0:Std K "_law_same" z0C f0)
  (d1:Std K "_law_turn" z1E f1)
  (d2:Std K "_law_half_round" z0z f2)
  (d3:Std K "_law_least" z10 f3)
  (d4:Std K "_law_mix" z2F f4)
  (d5:Std K "turn_of" s_turn_of f5)
  (d6:Std K "step_of" s_step_of f6)
  (d7:Std K "turn_by" s_turn_by f7)
  (d8:Std K "chain_of" s_chain_of f8)
  (d9:Std K "least_round" s_least_round f9)
  (d10:Std K "least_headings" s_least_headings f10)
  (d11:Std K "vector_added" s_vector_added f11)
  (d12:Std K "goes_first" s_goes_first f12)
  (d13:Std K "steps_merged" s_steps_merged f13)
  (d14:Std K "steps_round" s_steps_round f14)
  (d15:Std K "joined" s_joined f15)
  (d16:Std K "joined_all" s_joined_all f16)
  (d17:Std K "_law_sums" s_law_sums f17)
  (d18:Std K "_law_cell_at" z1n f18)
  (d19:Std K "_law_digits" z1F f19)
  (d20:Std K "_law_free_pairs" z0d f20)
  (d21:Std K "_law_vector" z14 f21)
  (d22:Std K "_law_within" z1D f22)
  (d23:Std K "_law_wind" z0x f23)
  (d24:Std K "_law_far_off" z1m f24)
  (d25:Std K "_law_pairs" z0i f25)
  (d26:Std K "law" z2j f26)
  (z_bool:PySem.W.nsIn K mainGlobals "bool"=some none)
  (z_int:PySem.W.nsIn K mainGlobals "int"=some none)
  (z_isinstance:PySem.W.nsIn K mainGlobals "isinstance"=some none)
  (z_len:PySem.W.nsIn K mainGlobals "len"=some none)
  (z_list:PySem.W.nsIn K mainGlobals "list"=some none)
  (z_max:PySem.W.nsIn K mainGlobals "max"=some none)
  (z_min:PySem.W.nsIn K mainGlobals "min"=some none)
  (z_range:PySem.W.nsIn K mainGlobals "range"=some none)
  (z_reversed:PySem.W.nsIn K mainGlobals "reversed"=some none)
  (z_set:PySem.W.nsIn K mainGlobals "set"=some none)
  (z_sorted:PySem.W.nsIn K mainGlobals "sorted"=some none)
  (z_str:PySem.W.nsIn K mainGlobals "str"=some none)
  (z_tuple:PySem.W.nsIn K mainGlobals "tuple"=some none)
  (z_zip:PySem.W.nsIn K mainGlobals "zip"=some none)
  (z_fnturn_among:PySem.W.nsIn K mainGlobals "turn_among"=some none)
  (z_fnstep_among:PySem.W.nsIn K mainGlobals "step_among"=some none)
  (z_fn:PySem.W.nsIn K mainGlobals ""=some none)
  : ∃fd:FuncData,(∀(s:Shared) (v:Value),BindsTo s fd ⟨[v],[]⟩ [("script",v)])/\∀base:Heap,K.In base->base.Ns mainGlobals mg->FnOk l.prog w K mg base (CXe l.prog w) 8 fa fd ["script"] (spL K):=by
 have T:Txt K mg:=⟨trivial,PySem.W.mg_none_of X G z_bool,PySem.W.mg_none_of X G z_int,PySem.W.mg_none_of X G z_isinstance,PySem.W.mg_none_of X G z_len,PySem.W.mg_none_of X G z_list,PySem.W.mg_none_of X G z_max,PySem.W.mg_none_of X G z_min,PySem.W.mg_none_of X G z_range,PySem.W.mg_none_of X G z_reversed,PySem.W.mg_none_of X G z_set,PySem.W.mg_none_of X G z_sorted,PySem.W.mg_none_of X G z_str,PySem.W.mg_none_of X G z_tuple,PySem.W.mg_none_of X G z_zip⟩
 refine zgV X G d26 hfa (λ_ _ _ _ _ _ s v =>.of_eq rfl) λbase kb nb fd F =>?_;have C_law_same:Cal l.prog w K mg base (CXe l.prog w) 0 "_law_same" ["found","due"] (spP K mg (z09 0)):=z0P X G d0 (λ_ _ _ _ _ _ us hl=>match us,hl with | [_,_],_=>rfl) λ_ _=>ziX;have C_law_same:Cal l.prog w K mg base (CXe l.prog w) 1 "_law_same" ["found","due"] (spP K mg (z09 1)):=z0P X G d0 (λ_ _ _ _ _ _ us hl=>match us,hl with | [_,_],_=>rfl) λ_ F=>z3y T F  C_law_same (by decide);have C_law_same:Cal l.prog w K mg base (CXe l.prog w) 2 "_law_same" ["found","due"] (spP K mg (z09 2)):=z0P X G d0 (λ_ _ _ _ _ _ us hl=>match us,hl with | [_,_],_=>rfl) λ_ F=>z3y T F  C_law_same (by decide);have C_law_same:Cal l.prog w K mg base (CXe l.prog w) 3 "_law_same" ["found","due"] (spP K mg (z09 3)):=z0P X G d0 (λ_ _ _ _ _ _ us hl=>match us,hl with | [_,_],_=>rfl) λ_ F=>z3y T F  C_law_same (by decide);have C_law_same:Cal l.prog w K mg base (CXe l.prog w) 4 "_law_same" ["found","due"] (spP K mg (z09 4)):=z0P X G d0 (λ_ _ _ _ _ _ us hl=>match us,hl with | [_,_],_=>rfl) λ_ F=>z3y T F  C_law_same (by decide);have C_law_turn:Cal l.prog w K mg base (CXe l.prog w) 1 "_law_turn" ["one","two","three"] (spP K mg z18):=z0P X G d1 (λ_ _ _ _ _ _ us hl=>match us,hl with | [_,_,_],_=>rfl) λ_ F=>z9U T F;have C_law_half_round:Cal l.prog w K mg base (CXe l.prog w) 2 "_law_half_round" ["points"] (spP K mg z0g):=z0P X G d2 (λ_ _ _ _ _ _ us hl=>match us,hl with | [_],_=>rfl) λ_ F=>z5I T F C_law_turn;have C_law_least:Cal l.prog w K mg base (CXe l.prog w) 3 "_law_least" ["points"] (spP K mg z12):=z0P X G d3 (λ_ _ _ _ _ _ us hl=>match us,hl with | [_],_=>rfl) λ_ F=>z9a T F C_law_half_round;have C_law_mix:Cal l.prog w K mg base (CXe l.prog w) 1 "_law_mix" ["cell","k"] (spP K mg z08):=z0P X G d4 (λ_ _ _ _ _ _ us hl=>match us,hl with | [_,_],_=>rfl) λ_ F=>zbn T F;have C_turn_of:Cal l.prog w K mg base (CXe l.prog w) 1 "turn_of" ["one","other"] (spP K mg z2M):=z0P X G d5 (λ_ _ _ _ _ _ us hl=>match us,hl with | [_,_],_=>rfl) λ_ F=>zbk T F;have C_step_of:Cal l.prog w K mg base (CXe l.prog w) 1 "step_of" ["start","end"] (spP K mg z2d):=z0P X G d6 (λ_ _ _ _ _ _ us hl=>match us,hl with | [_,_],_=>rfl) λ_ F=>zbm T F;have C_turn_by:Cal l.prog w K mg base (CXe l.prog w) 2 "turn_by" ["start","middle","end"] (spP K mg z4j):=z0P X G d7 (λ_ _ _ _ _ _ us hl=>match us,hl with | [_,_,_],_=>rfl) λ_ F=>zbl T F C_turn_of C_step_of;have FT:FTab l.prog w K mg base (CXe l.prog w) 2 zd3:=FTab.mk (PySem.W.mg_none_of X G z_fn) λn hn f e=>by
  match n,hn with
  | 0,_=>exact C_turn_by.tab (by decide) f e
  | 1,_=>rw[show z7g 1="turn_among" from rfl,PySem.W.mg_none_of X G z_fnturn_among] at e; cases e
  | 2,_=>exact C_step_of.tab (by decide) f e
  | 3,_=>rw[show z7g 3="step_among" from rfl,PySem.W.mg_none_of X G z_fnstep_among] at e; cases e
 have C_chain_of:Cal l.prog w K mg base (CXe l.prog w) 3 "chain_of" ["spots","turn"] (spP K mg z2A):=z0P X G d8 (λ_ _ _ _ _ _ us hl=>match us,hl with | [_,_],_=>rfl) λ_ F=>z9W T F FT;have C_least_round:Cal l.prog w K mg base (CXe l.prog w) 4 "least_round" ["rising","turn"] (spP K mg z1V):=z0P X G d9 (λ_ _ _ _ _ _ us hl=>match us,hl with | [_,_],_=>rfl) λ_ F=>z7v T F C_chain_of;have C_least_headings:Cal l.prog w K mg base (CXe l.prog w) 5 "least_headings" ["wind"] (spP K mg z0G):=z0P X G d10 (λ_ _ _ _ _ _ us hl=>match us,hl with | [_],_=>rfl) λ_ F=>z5H T F C_turn_by C_least_round;have C_vector_added:Cal l.prog w K mg base (CXe l.prog w) 1 "vector_added" ["one","other"] (spP K mg z1a):=z0P X G d11 (λ_ _ _ _ _ _ us hl=>match us,hl with | [_,_],_=>rfl) λ_ F=>z6S T F;have C_goes_first:Cal l.prog w K mg base (CXe l.prog w) 2 "goes_first" ["one","other"] (spP K mg z2e):=z0P X G d12 (λ_ _ _ _ _ _ us hl=>match us,hl with | [_,_],_=>rfl) λ_ F=>z8r T F C_turn_of;have C_steps_merged:Cal l.prog w K mg base (CXe l.prog w) 3 "steps_merged" ["ones","others"] (spP K mg z1w):=z0P X G d13 (λ_ _ _ _ _ _ us hl=>match us,hl with | [_,_],_=>rfl) λ_ F=>z6T T F C_goes_first;have C_steps_round:Cal l.prog w K mg base (CXe l.prog w) 3 "steps_round" ["corners","step_between"] (spP K mg z1q):=z0P X G d14 (λ_ _ _ _ _ _ us hl=>match us,hl with | [_,_],_=>rfl) λ_ F=>z7u T F FT;have C_joined:Cal l.prog w K mg base (CXe l.prog w) 6 "joined" ["one","other"] (spP K mg z3H):=z0P X G d15 (λ_ _ _ _ _ _ us hl=>match us,hl with | [_,_],_=>rfl) λ_ F=>zcw T F C_vector_added C_step_of C_least_headings C_steps_round C_steps_merged;have C_joined_all:Cal l.prog w K mg base (CXe l.prog w) 7 "joined_all" ["winds"] (spP K mg z0Y):=z0P X G d16 (λ_ _ _ _ _ _ us hl=>match us,hl with | [_],_=>rfl) λ_ F=>z8q T F C_joined;have C_law_sums:Cal l.prog w K mg base (CXe l.prog w) 1 "_law_sums" ["one","other"] (spP K mg z19):=z0P X G d17 (λ_ _ _ _ _ _ us hl=>match us,hl with | [_,_],_=>rfl) λ_ F=>z9V T F;have C_law_cell_at:Cal l.prog w K mg base (CXe l.prog w) 1 "_law_cell_at" ["script","k"] (spP K mg z0k):=z0P X G d18 (λ_ _ _ _ _ _ us hl=>match us,hl with | [_,_],_=>rfl) λ_ F=>z7x T F;have C_law_digits:Cal l.prog w K mg base (CXe l.prog w) 1 "_law_digits" ["cell","far"] (spP K mg z0X):=z0P X G d19 (λ_ _ _ _ _ _ us hl=>match us,hl with | [_,_],_=>rfl) λ_ F=>z8p T F;have C_law_free_pairs:Cal l.prog w K mg base (CXe l.prog w) 2 "_law_free_pairs" ["cells","far"] (spP K mg z0A):=z0P X G d20 (λ_ _ _ _ _ _ us hl=>match us,hl with | [_,_],_=>rfl) λ_ F=>z5J T F C_law_digits;have C_law_vector:Cal l.prog w K mg base (CXe l.prog w) 2 "_law_vector" ["cell","k","most"] (spP K mg z0w):=z0P X G d21 (λ_ _ _ _ _ _ us hl=>match us,hl with | [_,_,_],_=>rfl) λ_ F=>z8o T F C_law_mix;have C_law_within:Cal l.prog w K mg base (CXe l.prog w) 1 "_law_within" ["number"] (spP K mg z0E):=z0P X G d22 (λ_ _ _ _ _ _ us hl=>match us,hl with | [_],_=>rfl) λ_ F=>z8n T F;have C_law_wind:Cal l.prog w K mg base (CXe l.prog w) 3 "_law_wind" ["cells","most"] (spP K mg z0Q):=z0P X G d23 (λ_ _ _ _ _ _ us hl=>match us,hl with | [_,_],_=>rfl) λ_ F=>z9T T F C_law_mix C_law_vector C_law_within;have C_law_far_off:Cal l.prog w K mg base (CXe l.prog w) 1 "_law_far_off" ["wind"] (spP K mg z0O):=z0P X G d24 (λ_ _ _ _ _ _ us hl=>match us,hl with | [_],_=>rfl) λ_ F=>z7w T F;have C_law_pairs:Cal l.prog w K mg base (CXe l.prog w) 4 "_law_pairs" ["script"] (spP K mg z11):=z0P X G d25 (λ_ _ _ _ _ _ us hl=>match us,hl with | [_],_=>rfl) λ_ F=>z99 T F C_law_cell_at C_law_mix C_law_wind C_law_far_off C_law_free_pairs;exact ziM zgt (zii T F C_joined C_joined_all C_law_cell_at C_law_mix C_law_same C_law_pairs C_law_least C_law_sums)
theorem walk {l:PySem.W.OpenLaw}{q:Program}{loose:List Str}{XP:(Str->Option Value)->Heap->Prop}{YP:World->Heap->Prop}{d:DefRec}{K:Params->W.Frag}(hn:l.most=some 63)(hdf:d.params.defaults=[])
  (hY:∀(w:World) (h:Heap),YP w h->(K w.params).In h)
  (F:∀(w:World) (mg:Str->Option Value) (fa:Addr) (h:Heap),(K w.params).In h->h.Ns mainGlobals mg->mg d.name=some (.ref fa)->
   ∃fd:FuncData,(∀(s:Shared) (u:Value),BindsTo s fd ⟨[u],[]⟩ [("script",u)])/\∀base:Heap,(K w.params).In base->base.Ns mainGlobals mg->FnOk l.prog w (K w.params) mg base (CXe l.prog w) 8 fa fd ["script"] (spL (K w.params))):
  PySem.W.WalkO q loose XP YP l.row.toRowW d [] (λf vs=>PySem.call f vs):=
 L2.zfl (n:=63) (k:=8) (x:="script") (CX:=λw=>(CXe l.prog w)) (sp:=λw=>spL (K w.params)) hn (by decide) hdf ⟨rfl,by decide,by decide⟩ hY F (λ_ _ a ns hl _ hS=>⟨a,ns,rfl,hS,hl,λ_=>rfl⟩) λ_ _ _ _ _ ⟨_,_,_,_,_,_,_,_,_,z⟩=>z
end My
open PySem PySem.W PyProof.Rows
local macro_rules | `(tactic| walk_at "ks") => `(tactic| (refine' Pu.Std.mk ?a ?l ?c ?k; (case a=>k_is); (case l=>k_is); (case c=>k_is); (case k=>k_is)))
set_option maxRecDepth 100000 in
set_option maxHeartbeats 0 in
theorem PySem.Challenge.cw_closehaul_k14_whole_joined_in_any_order_holds : PySem.Challenge.rw_closehaul_k14_whole_joined_in_any_order.Holds := by
 w_on; o_law; k_head; (case hw=>w_witness2)
 k_fill
 refine My.walk (l:=PySem.Challenge.rw_closehaul_k14_whole_joined_in_any_order) rfl rfl (λw h Y=>PySem.W.kIn_of Y) ?F
 case F=>
  intro w mg fa h KX G hmg;refine' My.zj5 KX G hmg ?d0 ?d1 ?d2 ?d3 ?d4 ?d5 ?d6 ?d7 ?d8 ?d9 ?d10 ?d11 ?d12 ?d13 ?d14 ?d15 ?d16 ?d17 ?d18 ?d19 ?d20 ?d21 ?d22 ?d23 ?d24 ?d25 ?d26 ?z_bool ?z_int ?z_isinstance ?z_len ?z_list ?z_max ?z_min ?z_range ?z_reversed ?z_set ?z_sorted ?z_str ?z_tuple ?z_zip ?z_fnturn_among ?z_fnstep_among ?z_fn
  (case d0=>walk_at "ks")
  (case d1=>walk_at "ks")
  (case d2=>walk_at "ks")
  (case d3=>walk_at "ks")
  (case d4=>walk_at "ks")
  (case d5=>walk_at "ks")
  (case d6=>walk_at "ks")
  (case d7=>walk_at "ks")
  (case d8=>walk_at "ks")
  (case d9=>walk_at "ks")
  (case d10=>walk_at "ks")
  (case d11=>walk_at "ks")
  (case d12=>walk_at "ks")
  (case d13=>walk_at "ks")
  (case d14=>walk_at "ks")
  (case d15=>walk_at "ks")
  (case d16=>walk_at "ks")
  (case d17=>walk_at "ks")
  (case d18=>walk_at "ks")
  (case d19=>walk_at "ks")
  (case d20=>walk_at "ks")
  (case d21=>walk_at "ks")
  (case d22=>walk_at "ks")
  (case d23=>walk_at "ks")
  (case d24=>walk_at "ks")
  (case d25=>walk_at "ks")
  (case d26=>walk_at "ks")
  (case z_bool=>k_is)
  (case z_int=>k_is)
  (case z_isinstance=>k_is)
  (case z_len=>k_is)
  (case z_list=>k_is)
  (case z_max=>k_is)
  (case z_min=>k_is)
  (case z_range=>k_is)
  (case z_reversed=>k_is)
  (case z_set=>k_is)
  (case z_sorted=>k_is)
  (case z_str=>k_is)
  (case z_tuple=>k_is)
  (case z_zip=>k_is)
  (case z_fnturn_among=>k_is)
  (case z_fnstep_among=>k_is)
  (case z_fn=>k_is)
