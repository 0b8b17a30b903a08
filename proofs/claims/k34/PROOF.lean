import PyProof.Rows.All
import Wide.All
import OpenK.AllK
import Wide.FinOn
import Lean
import PyProof.EqAt
import PyProof.EqKinds
import PyProof.TupleCall
import PyProof.Rows.SortRuns
import KE.KRevIter
import PyProof.SetRoads
import PyProof.ListNew
import PyProof.Rows.ListMulPlace
import PyProof.ZipIter
import PyProof.Rows.ZipGen
import PyProof.Rows.SumGenD
import PySem.Challenge.RW_closehaul_k34_whole_greater_and_mirrored
set_option tactic.hygienic false
set_option compiler.extract_closed false
set_option linter.defProp false
open Lean in
local macro_rules|`(#where)=>do
 let p:=`PySem.Challenge
 let l:=["closehaul_k34_whole_greater_and_mirrored"].flatMap λx=>[p.str ("pw_"++x),p.str ("rw_"++x)]++("env_41 heap_39 heap_46 heap_480 sts_134 sts_149 sts_197 sts_281 sts_359 sts_442 sts_49 tree_133 tree_148 tree_196 tree_280 tree_358 tree_441 tree_47 tree_479 view_39".splitOn " "++(List.range 437).map λi=>s!"o_{i+43}").map (p.str ("cw_"++x++"_holds")).str
 return mkNullNode (←l.toArray.mapM λn=>`(command|theorem $(mkIdent (.str `PySem.W.Fast s!"tw{n.hash}")):ident:True:=trivial))
#where
theorem jA10(h:True:=by rfl):True:=h
def jA1:=jA10._auto_1
theorem jB10(h:True:=by decide):True:=h
def jB1:=jB10._auto_1
theorem jC10(h:True:=by intro _;rfl):True:=h
def jC1:=jC10._auto_1
theorem jD10(h:True:=by first | exact .inl rfl | exact .inr rfl | assumption):True:=h
def jD1:=jD10._auto_1
noncomputable section
section
set_option hygiene false
abbrev WvP:=PySem.Value->PySem.Shared->Prop
abbrev WmP:=PySem.Str->Option PySem.Value
set_option hygiene true
def wc:=@PySem.wpAny_bind
def wd:=@List.length_map
def we:=@List.mem_map
def wf:=@PySem.Heap.get?_push_of_some
def wg:=@List.mem_singleton
def wj:=@PySem.wpAny_pure
def wm:=@List.mem_cons
def wn:=@List.mem_cons_of_mem
def wo:=@List.getElem?_eq_getElem
def wp:=@PySem.Heap.get?_push_size
def wq:=@List.getElem?_eq_some_iff
def wt:=@Nat.le_refl
def wu:=@PySem.Heap.lt_size
def wv:=@List.mem_cons_self
def ww:=@List.mem_of_getElem?
def wz:=@List.not_mem_nil
def wA:=@List.map_append
def wB:=@List.mem_append
def wC:=@Int.le_of_lt
def wD:=@List.length_append
def wE:=@Int.mul_le_mul_of_nonneg_right
def wF:=@List.getElem?_set_ne
def wG:=@List.size_toArray
def wH:=@Int.mul_le_mul_of_nonneg_left
def wI:=@List.map_cons
def wJ:=@Nat.ne_of_lt
def wK:=@List.getElem?_map
def wL:=@Nat.lt_of_lt_of_le
def wM:=@Int.mul_eq_zero
def wN:=@List.getElem?_append_left
def wO:=@Nat.le_trans
def wP:=@List.map_map
def wQ:=@List.getElem?_append_right
def wR:=@List.getElem?_set_self
def wS:=@Int.mul_nonneg
def wT:=@Bool.false_ne_true
def wU:=@List.length_cons
def wV:=@Nat.mod_eq_of_lt
def wW:=@Nat.lt_or_ge
def wX:=@decide_eq_false
def wY:=@Option.some.inj
def wZ:=@List.pairwise_map
def w5:=@Int.mul_pos
def w6:=@List.length_pos_iff
def w9:=@Int.eq_of_mul_eq_mul_right
def vd:=@List.pairwise_cons
def ve:=@List.mem_append_right
def vf:=@List.nodup_cons
def vg:=@PySem.wpAny_newObj_type
def vh:=@List.length_take
def vi:=@List.mem_iff_getElem
def vj:=@Int.mul_nonpos_of_nonneg_of_nonpos
def vk:=@List.append_nil
def vp:=@Bool.false_eq_true
def vz:=@decide_eq_true
def vA:=@Int.mul_comm
def vB:=@PySem.Heap.get?_update_other
def vC:=@List.sum_cons
def vD:=@List.mem_append_left
def vE:=@List.mem_of_mem_take
def vF:=@Int.mul_nonpos_of_nonpos_of_nonneg
def vG:=@Nat.zero_le
def vH:=@PySem.wpAny_mono
def vI:=@Bool.and_eq_true
def vJ:=@PySem.Heap.get?_update_self
def vK:=@or_false
def vL:=@Int.natAbs_mul
def vN:=@List.pairwise_iff_getElem
def vO:=@Classical.byContradiction
def vP:=@List.lookup_cons
def vQ:=@Ne.symm
def vR:=@PyProof.Rows.slot_tuple_getitem
def vS:=@List.append_assoc
def vT:=@PySem.wpAny_setState_of
def vU:=@Int.mul_le_mul_of_nonpos_right
def vV:=@Nat.lt_irrefl
def vW:=@Array.length_toList
def vX:=@PySem.wpAny_callSpecial?_slot
def vY:=@PySem.W.kia_one
def vZ:=@List.length_nil
def v3:=@Int.mul_nonneg_of_nonpos_of_nonpos
def v4:=@List.mem_range
def v5:=@PySem.Heap.size_push
def v6:=@PySem.wpAny_seqItems
def v7:=@Int.le_of_mul_le_mul_left
def v8:=@PySem.wpAny_holding
def v9:=@List.filterMap_cons
def ua:=@Int.natAbs_dvd_natAbs
def ub:=@PySem.wpAny_call_entry
def uc:=@Prod.ext
def ud:=@Nat.lt_succ_of_lt
def ue:=@of_decide_eq_true
def uf:=@List.length_range
def ug:=@List.getD_eq_getElem?_getD
def uh:=@List.pairwise_append
def ui:=@PySem.Around.under_plainId
def uj:=@Int.lt_or_le
def uk:=@List.take_of_length_le
def ul:=@PySem.mem_of_lookup
def uo:=@List.length_replicate
def uq:=@Array.getElem?_toList
def ur:=@Nat.lt_trichotomy
def uv:=@Nat.add_mod_right
def uw:=@PySem.wpAny_field
def ux:=@PySem.Obj.data_mapFields
def uy:=@Nat.le_of_lt
def uz:=@Option.map_eq_some_iff
def uA:=@List.reverse_cons
def uB:=@PySem.Heap.SameBut.update
def uC:=@Array.getElem?_eq_getElem
def uD:=@List.map_nil
def uE:=@Int.zero_mul
def uF:=@List.getElem?_eq_none
def uG:=@PySem.codeAny_builtin
def uH:=@Int.add_zero
def uI:=@Int.mul_ediv_cancel_left
def uJ:=@Int.lt_or_eq_of_le
def uK:=@Nat.lt_succ_self
def uL:=@PySem.F.plainAttrs_list
def uM:=@List.length_eq_zero_iff
def uN:=@PySem.plainId_quiet
def uO:=@List.getElem?_cons_succ
def uP:=@List.of_mem_zip
def uQ:=@Int.le_refl
def uR:=@Array.getD_eq_getD_getElem?
def uS:=@List.length_zip
def uT:=@List.map_congr_left
def uU:=@PySem.Calls.callWith_builtin
def uV:=@PySem.F.slot_tuple_iterator_next
def uW:=@PySem.F.plain_max_loop
def uX:=@List.mem_filterMap
def uY:=@PySem.wpAny_Call_Name_kw
def uZ:=@List.length_singleton
def u3:=@Int.mul_assoc
def u4:=@PySem.wpAny_pyIter_tuple
def u5:=@List.take_append_drop
def u6:=@PySem.wpAny_setField_rec
def u7:=@Nat.eq_of_mul_eq_mul_left
def u8:=@List.drop_eq_getElem_cons
def u9:=@List.pairwise_of_forall_mem_list
def ja:=@if_false
def jb:=@Int.mul_ediv_cancel'
def jc:=@PySem.wpAny_passesOwn
def jd:=@PySem.wpAny_loadPart'
def je:=@Nat.mod_lt
def jf:=@List.takeWhile_append_dropWhile
def jg:=@List.find?_cons
def jh:=@Nat.gcd_comm
def ji:=@List.getElem?_replicate
def jk:=@Nat.dvd_trans
def jl:=@List.getLast?_cons_cons
def jm:=@PyProof.Rows.F.plain_set_update_loop
def jn:=@List.getElem?_cons_zero
def jo:=@PySem.wpAny_forIn_list
def jp:=@List.length_drop
def jq:=@Int.gcd_dvd_left
def jr:=@List.getElem_zip
def jt:=@List.append_eq_nil_iff
def ju:=@List.zip_cons_cons
def jv:=@Int.emod_lt_of_pos
def jw:=@Nat.ne_of_gt
def jx:=@PyProof.Rows.callWith_type1
def jy:=@Nat.not_lt_zero
def jz:=@PySem.F.called_set
def jA:=@List.Perm.append_left
def jB:=@PySem.wpAny_updateSeq
def jC:=@Int.mul_lt_mul_of_pos_right
def jD:=@List.sum_nil
def jE:=@Int.gcd_dvd_right
def jF:=@PySem.Heap.get?_push_ne
def jG:=@Int.le_of_mul_le_mul_right
def jH:=@Nat.pow_le_pow_right
def jI:=@List.append_eq_append_iff
def jJ:=@List.take_succ
def jK:=@List.getElem_mem
def jL:=@List.perm_middle
def jM:=@PySem.wpAny_askSetting
def jN:=@if_true
def jO:=@PySem.wpAny_letGo
def jP:=@List.map_eq_nil_iff
def jQ:=@List.getElem_of_mem
def jR:=@List.getElem?_range
def jS:=@PySem.wpAny_typeOf
def jT:=@getElem?_pos
def jU:=@Int.le_trans
def jV:=@List.mem_filter
def jW:=@Bool.eq_iff_iff
def jX:=@Int.natAbs_natCast
def jY:=@Int.dvd_trans
def jZ:=@PySem.W.KasT.kasWp_bind
def j0:=@Nat.min_le_left
def j1:=@Int.emod_nonneg
def j2:=@List.sum_append
def j3:=@PySem.W.mg_none_of
def j4:=@Nat.dvd_gcd
def j5:=@Nat.not_lt
def j6:=@PySem.wpAny_setField
def j7:=@PySem.codeAny_mono
set_option autoImplicit true
set_option relaxedAutoImplicit true
set_option linter.all false
inductive Ee1 {a:Type}(P:a->Prop):Prop
 | mk (x0:a) (_:P x0):Ee1 P
inductive Ee2 {a b:Type}(P:a->b->Prop):Prop
 | mk (x0:a) (x1:b) (_:P x0 x1):Ee2 P
inductive Ee3 {a b c:Type}(P:a->b->c->Prop):Prop
 | mk (x0:a) (x1:b) (x2:c) (_:P x0 x1 x2):Ee3 P
inductive Ee4 {a b c d:Type}(P:a->b->c->d->Prop):Prop
 | mk (x0:a) (x1:b) (x2:c) (x3:d) (_:P x0 x1 x2 x3):Ee4 P
inductive Ee5 {a b c d e:Type}(P:a->b->c->d->e->Prop):Prop
 | mk (x0:a) (x1:b) (x2:c) (x3:d) (x4:e) (_:P x0 x1 x2 x3 x4):Ee5 P
inductive Ee6 {a b c d e f:Type}(P:a->b->c->d->e->f->Prop):Prop
 | mk (x0:a) (x1:b) (x2:c) (x3:d) (x4:e) (x5:f) (_:P x0 x1 x2 x3 x4 x5):Ee6 P
inductive Ee7 {a b c d e f g:Type}(P:a->b->c->d->e->f->g->Prop):Prop
 | mk (x0:a) (x1:b) (x2:c) (x3:d) (x4:e) (x5:f) (x6:g) (_:P x0 x1 x2 x3 x4 x5 x6):Ee7 P
inductive Ee9 {a b c d e f g h i:Type}(P:a->b->c->d->e->f->g->h->i->Prop):Prop
 | mk (x0:a) (x1:b) (x2:c) (x3:d) (x4:e) (x5:f) (x6:g) (x7:h) (x8:i) (_:P x0 x1 x2 x3 x4 x5 x6 x7 x8):Ee9 P
structure Aa2 (a b:Prop):Prop where
 (x0:a) (x1:b)
structure Aa3 (a b c:Prop):Prop where
 (x0:a) (x1:b) (x2:c)
structure Aa4 (a b c d:Prop):Prop where
 (x0:a) (x1:b) (x2:c) (x3:d)
structure Aa5 (a b c d e:Prop):Prop where
 (x0:a) (x1:b) (x2:c) (x3:d) (x4:e)
structure Aa6 (a b c d e f:Prop):Prop where
 (x0:a) (x1:b) (x2:c) (x3:d) (x4:e) (x5:f)
structure Aa8 (a b c d e f g h:Prop):Prop where
 (x0:a) (x1:b) (x2:c) (x3:d) (x4:e) (x5:f) (x6:g) (x7:h)
set_option Elab.async false
set_option maxRecDepth 100000
namespace L2
open PySem PySem.Spec PyProof.Rows
abbrev Key:=Sum Int Str
def z8H:Key->Value->Bool
 | .inl k,v=>Value.isInt k v
 | .inr x,v=>Value.isStrOf x v
def keyH (w:World):Key->Int
 | .inl k=>hashInt k
 | .inr x=>hashStr w x
def z0L:∀{k:Key}{v:Value},z8H k v=true->(∃i t,k=Sum.inl i/\v=Value.int i t)\/(∃x t,k=Sum.inr x/\v=Value.str x t)
 | .inl i,v,h=>by
  obtain⟨t,e⟩:=Value.isInt_shape (k:=i) (v:=v) h;exact .inl ⟨i,t,rfl,e⟩
 | .inr x,v,h=>by
  obtain⟨t,e⟩:=Value.isStrOf_shape (x:=x) (v:=v) h;exact .inr ⟨x,t,rfl,e⟩
def zc3 (i:Int)(t:Tok):z8H (.inl i) (.int i t)=true:=by simp[z8H,Value.isInt]
def zc2 (x:Str)(t:Tok):z8H (.inr x) (.str x t)=true:=by simp[z8H,Value.isStrOf]
def zki (a b:Int):decide ((Sum.inl a:Key)=Sum.inl b)=(a == b):=by
 by_cases e:a=b
 .subst e;simp
 .have h:¬ (Sum.inl a:Key)=Sum.inl b:=λq=>e (Sum.inl.inj q);rw[wX h];exact(beq_eq_false_iff_ne.mpr e).symm
def zkf (a b:Str):decide ((Sum.inr a:Key)=Sum.inr b)=decide (a=b):=by
 by_cases e:a=b
 .subst e;simp
 .have h:¬ (Sum.inr a:Key)=Sum.inr b:=λq=>e (Sum.inr.inj q);rw[wX h,wX e]
def zkh (a:Int)(b:Str):decide ((Sum.inl a:Key)=Sum.inr b)=false:=wX (λq=>nomatch q)
def zkg (a:Str)(b:Int):decide ((Sum.inr a:Key)=Sum.inl b)=false:=wX (λq=>nomatch q)
def z15 (prog:Program)(w:World):PySem.KeyKind prog w Key where
 is:=z8H
 hash:=keyH w
 inj:=λv a b l g=>by
  rcases z0L l with ⟨i,t,rfl,rfl⟩ | ⟨x,t,rfl,rfl⟩
  .rcases z0L g with ⟨j,u,rfl,e⟩ | ⟨y,u,rfl,e⟩
   .injection e with d _;rw[d]
   .exact nomatch e
  .rcases z0L g with ⟨j,u,rfl,e⟩ | ⟨y,u,rfl,e⟩
   .exact nomatch e
   .injection e with d _;rw[d]
 byValue:=λk v h=>by
  rcases z0L h with ⟨i,t,rfl,rfl⟩ | ⟨x,t,rfl,rfl⟩ <;> rfl
 pyHash:=λf h=>by
  rcases z0L f with ⟨i,t,rfl,rfl⟩ | ⟨x,t,rfl,rfl⟩
  .exact wpAny_pyHash_int h
  .exact wpAny_pyHash_str h
 eqBool:=λm f h=>by
  rcases z0L m with ⟨i,t,rfl,rfl⟩ | ⟨x,t,rfl,rfl⟩
  .rcases z0L f with ⟨j,u,rfl,rfl⟩ | ⟨y,u,rfl,rfl⟩
   .rw[zki] at h;exact wpAny_eqBool_int h
   .rw[zkh] at h;exact SeqAt.EqAt.int_str i t y u _ _ _ _ h
  .rcases z0L f with ⟨j,u,rfl,rfl⟩ | ⟨y,u,rfl,rfl⟩
   .rw[zkg] at h;exact SeqAt.EqAt.str_int x t j u _ _ _ _ h
   .rw[zkf] at h;exact wpAny_eqBool_str h
 «strs»:=λk x t v h=>by
  rcases z0L h with ⟨i,u,rfl,e⟩ | ⟨y,u,rfl,e⟩
  .exact nomatch e
  .injection e with d _
   subst d
   cases v <;> rfl
def zak (prog:Program)(w:World)(k:Key)(v:Value):(z15 prog w).is k v=z8H k v:=rfl
def z8C (prog:Program)(w:World)(i:Int)(t:Tok):(z15 prog w).is (.inl i) (.int i t)=true:=zc3 i t
def z8B (prog:Program)(w:World)(x:Str)(t:Tok):(z15 prog w).is (.inr x) (.str x t)=true:=zc2 x t
inductive V where
 | non | bl (b:Bool) | int (i:Int) | str (x:Str) | byt (b:Array UInt8) | flt (b:UInt64) | ref (a:Addr) | ty (n:String)
 deriving DecidableEq
def RelV:V->Value->Prop
 | .non,u=>u=Value.none
 | .bl b,u=>u=Value.bool b
 | .int i,u=>∃t,u=Value.int i t
 | .str x,u=>∃t,u=Value.str x t
 | .byt b,u=>∃t,u=Value.bytes b t
 | .flt b,u=>∃t,u=Value.float b t
 | .ref a,u=>u=Value.ref a
 | .ty n,u=>u=Value.type n
abbrev Vals:List V->List Value->Prop:=Paired RelV
theorem Vals.length {xs:List V}{us:List Value}(r:Vals xs us):xs.length=us.length:=Paired.length r
theorem Vals.get:∀{xs:List V}{us:List Value}{i:Nat}{x:V},Vals xs us->xs[i]? = some x->∃u,us[i]? = some u/\RelV x u
 | _,_,_,_,.nil,e=>by simp at e
 | _,_,0,_,.cons r _,e=>by simp at e;subst e;exact⟨_,rfl,r⟩
 | _,_,i+1,x,.cons _ t,e=>by
  obtain⟨u,a,b⟩:=Vals.get (i:=i) (x:=x) t (by simpa using e);exact⟨u,by simpa using a,b⟩
theorem Vals.set {x:V}{u:Value}(r:RelV x u):∀{xs:List V}{us:List Value}(i:Nat),Vals xs us->Vals (xs.set i x) (us.set i u)
 | _,_,_,.nil =>.nil
 | _,_,0,.cons _ t =>.cons r t
 | _,_,i+1,.cons q t =>.cons q (Vals.set r i t)
theorem Vals.append:∀{xs ys:List V}{us ws:List Value},Vals xs us->Vals ys ws->Vals (xs++ys) (us++ws)
 | _,_,_,_,.nil,s=>s
 | _,_,_,_,.cons r t,s =>.cons r (Vals.append t s)
theorem Vals.take:∀{xs:List V}{us:List Value}(n:Nat),Vals xs us->Vals (xs.take n) (us.take n)
 | _,_,0,_ =>.nil
 | _,_,_+1,.nil =>.nil
 | _,_,n+1,.cons r t =>.cons r (Vals.take n t)
theorem Vals.drop:∀{xs:List V}{us:List Value}(n:Nat),Vals xs us->Vals (xs.drop n) (us.drop n)
 | _,_,0,r=>r
 | _,_,_+1,.nil =>.nil
 | _,_,n+1,.cons _ t=>Vals.drop n t
def RelO:Option V->Option Value->Prop
 | some v,some u=>RelV v u
 | none,none=>True
 | _,_=>False
def KV {κ:Type}:List (κ × V)->List (κ × Value)->Prop:=Paired λ(p:κ × V) (q:κ × Value)=>p.1=q.1/\RelV p.2 q.2
noncomputable def kV:Key->V
 | .inl i =>.int i
 | .inr x =>.str x
inductive HO where
 | lst (xs:List V)
 | tup (xs:List V)
 | dK (kvs:List (Key × V)) | dT (kvs:List (List Key × V))
 | set (S:Int->Bool) (n:Nat)
 | ins (C dx:Addr) (fs:List (Str × V))
 | own (x:Addr)
 | xd (fs:List (Str × V))
 | met (f x:Addr)
 | rng (lo hi:Int)
 | frz (o:Obj) (u:HO)
 | tbl (ps:Array Value)
 | ext (φ:Heap->Prop)
abbrev Hp:=Addr->Option HO
def upd (H:Hp)(a:Addr)(o:HO):Hp:=λb=>if b=a then some o else H b
def z0c {H:Hp}{a:Addr}{o:HO}:upd H a o a=some o:=by unfold upd;rw[if_pos rfl]
def z08 {H:Hp}{a b:Addr}{o:HO}(h:b≠a):upd H a o b=H b:=by unfold upd;rw[if_neg h]
def zm6 {H:Hp}{a b:Addr}{o u:HO}(h:H a=some o)(h':H b=some u)(d:o≠u):a≠b:=by
 intro e;subst e;rw[h] at h';exact d (wY h')
def z0E {H:Hp}{a b:Addr}{o:HO}(h:H a=some o)(h':H b=none):a≠b:=by
 intro e;subst e;rw[h] at h';cases h'
def NoD (h:Heap)(a:Addr):Prop:=∃o,h.get? a=some o/\o.dict=none
def zmy (H:Hp)(h:Heap)(a:Addr)(ps:Array Value):Prop:=h.get? a=some { cls :=.none,data :=.fields #[] }\/
 ∃(l c:Value) (q:Str) (t:Tok) (b:Addr) (o:Obj) (vs:Array Value) (u:Tok),ps[0]? = some l/\ps[1]? = some c/\ps[2]? = some (.str q t)/\h.get? a=some { cls :=.none,data :=.fields #[l,c,.ref b] }/\H b=some (.frz o (.own b))/\o.data = .fields vs/\vs[1]? = some (.str q u)
section
variable (P:Program)(w:World)
def z1m (H:Hp)(h:Heap)(a:Addr):HO->Prop
 | .lst e=>e.length<=sizeLine/\∃(b:List Value) (n:Nat),Vals e b/\h.get? a=some { cls :=.type "list",data :=.seq b.toArray n }
 | .tup e=>e.length<=sizeLine/\∃b:List Value,Vals e b/\IsTup h a b.toArray/\NoD h a
 | .dK d=>d.length<=sizeLine/\(a == sysModules)=false/\∃vs,KV d vs/\h.DictOf (z15 P w) a vs
 | .dT d=>d.length<=sizeLine/\(a == sysModules)=false/\∃e:List (List Key × Addr × Value),
   Paired (λ(p:List Key × V) (q:List Key × Addr × Value)=>p.1=q.1/\H q.2.1=some (.tup (p.1.map kV))/\RelV p.2 q.2.2) d e/\
   ∃o l s,h.get? a=some o/\o.ExactDict/\o.data = .dict l s/\l.toList=e.map (entryOfKey (tupleKind (z15 P w)))/\(e.map (·.1)).Nodup
 | .set S n=>h.SetOf (intKind P w) a S n
 | .ins C i fs=>H i=some (.own a)/\fs.length<=1000/\i≠a/\h.get? a=some (W.instObj C i)/\
   ∃g,h.Ns1 i g/\(∀f,RelO (fs.lookup f) (g f))/\PySem.Within g (fs.map (·.1))
 | .own _=>∃o,h.get? a=some o
 | .xd fs=>∃g,h.Ns1 a g/\∀f,RelO (fs.lookup f) (g f)
 | .rng z y=>∃t u v,h.get? a=some { cls :=.type "range",data :=.fields #[.int z t,.int y u,.int 1 v] }
 | .frz o u=>h.get? a=some o/\z1m H h a u
 | .tbl ps=>zmy H h a ps
 | .met f x=>h.get? a=some (W.methodObj (.ref f) (.ref x))
 | .ext j=>j h/\(∃o,h.get? a=some o)/\∀m r:Heap,j m->(∀o,m.get? a=some o->r.get? a=some o)->j r
def HOk (H:Hp)(h:Heap):Prop:=∀a o,H a=some o->z1m P w H h a o
end
section
variable {P:Program}{w:World}{H H':Hp}{h h':Heap}{a:Addr}{o:HO}
theorem z1m.lt (x:z1m P w H h a o):a<h.objs.size:=by
 cases o with
 | lst d=>obtain⟨_,_,_,_,e⟩:=x;exact wu e
 | tup d=>obtain⟨_,_,_,p,_⟩:=x;exact p.lt
 | dK b=>obtain⟨_,_,_,_,o,_,_,e,_⟩:=x;exact wu e
 | dT b=>obtain⟨_,_,_,_,o,_,_,e,_⟩:=x;exact wu e
 | set S n=>obtain⟨o,_,_,_,e,_⟩:=x;exact wu e
 | ins C g fs=>obtain⟨_,_,_,e,_⟩:=x;exact wu e
 | own y=>obtain⟨_,e⟩:=x;exact wu e
 | xd fs=>obtain⟨_,⟨_,_,_,e,_⟩,_⟩:=x;exact wu e
 | rng j i=>obtain⟨_,_,_,e⟩:=x;exact wu e
 | frz l u=>obtain⟨e,_⟩:=x;exact wu e
 | tbl ps=>rcases x with e | ⟨_,_,_,_,_,_,_,_,_,_,_,e,_⟩ <;> exact wu e
 | met f y=>exact wu (show h.get? a=some _ from x)
 | ext m=>obtain⟨_,⟨_,e⟩,_⟩:=x;exact wu e
theorem Paired.mapP {d e:Type}{F G:d->e->Prop}:∀{l₁:List d} {l₂:List e},Paired F l₁ l₂->(∀a b,F a b->G a b)->Paired G l₁ l₂
 | _,_,.nil,_ =>.nil
 | _,_,.cons r t,f =>.cons (f _ _ r) (Paired.mapP t f)
def z1m.stay (x:z1m P w H h a o)(k:∀b u,(b=a\/H b=some (.own a))->h.get? b=some u->h'.get? b=some u)
  (Q:∀b,H b=some (.own a)->H' b=some (.own a)) (R:∀b xs,H b=some (.tup xs)->H' b=some (.tup xs)) (O:∀b o c,H b=some (.frz o (.own c))->H' b=some (.frz o (.own c)):=by first | exact λ_ _ _ q=>q | exact λc _ _ q=>by rw[z08 (z0E q (by assumption))];exact q):z1m P w H' h' a o:=by
 induction o with
 | lst xs=>obtain⟨z,m,n,r,e⟩:=x;exact⟨z,m,n,r,k _ _ (.inl rfl) e⟩
 | tup xs=>obtain⟨z,m,r,⟨g,e,c⟩,s,N,J⟩:=x;exact⟨z,m,r,⟨g,k _ _ (.inl rfl) e,c⟩,s,k _ _ (.inl rfl) N,J⟩
 | dK E=>obtain⟨z,y,vs,r,g,j,i,e,c⟩:=x;exact⟨z,y,vs,r,g,j,i,k _ _ (.inl rfl) e,c⟩
 | dT E=>
  obtain⟨z,y,xs,r,g,j,i,e,c⟩:=x;exact⟨z,y,xs,Paired.mapP r λp q z=>⟨z.1,R _ _ z.2.1,z.2.2⟩,g,j,i,k _ _ (.inl rfl) e,c⟩
 | set S n=>obtain⟨g,j,i,t,e,c⟩:=x;exact⟨g,j,i,t,k _ _ (.inl rfl) e,c⟩
 | ins C U fs=>
  obtain⟨d,z,ne,e,F,⟨s,j,i,A,c⟩,r⟩:=x;exact⟨Q _ d,z,ne,k _ _ (.inl rfl) e,F,⟨s,j,i,k _ _ (.inr d) A,c⟩,r⟩
 | own y=>obtain⟨g,e⟩:=x;exact⟨g,k _ _ (.inl rfl) e⟩
 | xd fs=>obtain⟨F,⟨s,j,i,e,c⟩,r⟩:=x;exact⟨F,⟨s,j,i,k _ _ (.inl rfl) e,c⟩,r⟩
 | rng Y X=>obtain⟨t,u,v,e⟩:=x;exact⟨t,u,v,k _ _ (.inl rfl) e⟩
 | frz g u T=>obtain⟨e,q⟩:=x;exact⟨k _ _ (.inl rfl) e,T q⟩
 | tbl ps=>
  rcases x with e | ⟨l,c,q,t,I,g,vs,u,K,A,L,e,M,r⟩
  .exact .inl (k a _ (.inl rfl) e)
  .exact .inr ⟨l,c,q,t,I,g,vs,u,K,A,L,k a _ (.inl rfl) e,O _ _ _ M,r⟩
 | met f y=>
  have e:h.get? a=some (W.methodObj (.ref f) (.ref y)):=x;show h'.get? a=some (W.methodObj (.ref f) (.ref y));exact k a _ (.inl rfl) e
 | ext Z=>obtain⟨p,⟨o,e⟩,G⟩:=x;exact⟨G _ _ p λo q=>k _ _ (.inl rfl) q,⟨o,k _ _ (.inl rfl) e⟩,G⟩
theorem HOk.lt (x:HOk P w H h)(e:H a=some o):a<h.objs.size:=(x a o e).lt
def HOk.fresh (x:HOk P w H h)(e:h.objs.size<=a):H a=none:=by
 cases q:H a with
 | none=>rfl
 | some u=>exact absurd (wL (x.lt q) e) (vV _)
def HOk.kept (x:HOk P w H h)(k:∀b u,h.get? b=some u->h'.get? b=some u):HOk P w H h':=λa o e=>
 (x a o e).stay (λb u _ q=>k b u q) (λ_ q=>q) λ_ _ q=>q
def HOk.laid (x:HOk P w H h)(k:∀b u,h.get? b=some u->h'.get? b=some u)(g:h.objs.size<=a)(new:z1m P w (upd H a o) h' a o):HOk P w (upd H a o) h':=λb u e=>by
 have f:=x.fresh g
 by_cases d:b=a
 .subst d;rw[z0c] at e;cases e;exact new
 .rw[z08 d] at e;exact(x b u e).stay (λc v _ q=>k c v q) (λc q=>by rw[z08 (z0E q f)];exact q) λc i q=>by rw[z08 (z0E q f)];exact q
end
def Rd (H:Hp)(a:Addr)(u:HO):Prop:=H a=some u\/∃o,H a=some (.frz o u)
def Rd.ok {P:Program}{w:World}{H:Hp}{h:Heap}{a:Addr}{u:HO}(r:Rd H a u)(x:HOk P w H h):z1m P w H h a u:=by
 rcases r with r | ⟨o,r⟩
 .exact x a u r
 .obtain⟨_,q⟩:=x a _ r;exact q
def Mut:Option HO->Prop
 | some (.lst _)=>True
 | some (.dK _)=>True
 | some (.dT _)=>True
 | some (.set _ _)=>True
 | some (.ins _ _ _)=>True
 | some (.ext _)=>True
 | _=>False
section
variable {P:Program}{w:World}{H:Hp}{h h':Heap}{x e:Addr}{o':HO}
def HOk.write (ok:HOk P w H h)(f:Mut (H x))(n:e=x\/H e=some (.own x))(k:∀b u,b≠e->h.get? b=some u->h'.get? b=some u)(m:∃u,h'.get? e=some u)
  (new:z1m P w (upd H x o') h' x o'):HOk P w (upd H x o') h':=λb u q=>by
 have d:∀c y,H c=some (.own y)->c≠x:=λc y r z=>by subst z;rw[r] at f;exact f
 have g:∀c l,H c=some (.tup l)->c≠x:=λc l r z=>by subst z;rw[r] at f;exact f
 by_cases i:b=x
 .subst i;rw[z0c] at q;cases q;exact new
 .rw[z08 i] at q
  by_cases a:b=e
  .have p:H b=some (.own x):=by
    rcases n with z | z
    .exact absurd (a.trans z) i
    .rw[a];exact z
   rw[q] at p;cases p;obtain⟨v,s⟩:=m;exact⟨v,by rw[a];exact s⟩
  .refine(ok b u q).stay (λc v j r=>k c v ?_ r) (λc r=>by rw[z08 (d c b r)];exact r) (λc l r=>by rw[z08 (g c l r)];exact r) λc o u r=>by rw[z08 (λz=>by subst z;rw[r] at f;exact f)];exact r
   rcases j with rfl | j
   .exact a
   .rintro rfl
    rcases n with z | z
    .exact d c b j z
    .rw[j] at z;cases z;exact i rfl
end
structure Un (fs ex:List Addr)(H H':Hp)(h h':Heap):Prop where
 keep:∀b o,h.get? b=some o->H b=none->b ∉ fs->b ∉ ex->h'.get? b=some o
 slot:∀b o,h.get? b=some o->H b=none->b∈fs->b ∉ ex->∃sl,h'.get? b=some { o with slots:=sl }
 free:∀b o,h.get? b=some o->H b=none->b ∉ ex->H' b=none
 there:∀b o,h.get? b=some o->b ∉ ex->∃o',h'.get? b=some o'
 tups:∀b xs,H b=some (.tup xs)->H' b=some (.tup xs)
 frzs:∀b o u,H b=some (.frz o u)->H' b=some (.frz o u)
 tbls:∀b ps,H b=some (.tbl ps)->∃more,H' b=some (.tbl (ps++more))
section
variable {fs fs' ex ex':List Addr}{H H1 H2:Hp}{h h1 h2 h':Heap}{a x e:Addr}{o:HO}
def Un.any (u:Un fs ex H H1 h h1){b:Addr}{a:Obj}(q:h.get? b=some a)(n:H b=none)(e:b ∉ ex):∃sl,h1.get? b=some { a with slots:=sl }:=by
 by_cases d:b∈fs
 .exact u.slot b a q n d e
 .exact⟨a.slots,u.keep b a q n d e⟩
def Un.kept (k:∀b u,h.get? b=some u->h'.get? b=some u):Un fs ex H H h h':=
 ⟨λb a q _ _ _=>k b a q,λb a q _ _ _=>⟨a.slots,k b a q⟩,λ_ _ _ n _=>n,λb a q _=>⟨a,k b a q⟩,λ_ _ q=>q,λ_ _ _ q=>q,λ_ ps q=>⟨#[],by rw[q];simp⟩⟩
def Un.refl:Un fs ex H H h h:=Un.kept λ_ _ q=>q
def Un.laid (k:∀b u,h.get? b=some u->h'.get? b=some u)(e:h.objs.size<=a)(d:H a=none):Un fs ex H (upd H a o) h h' where
 keep:=λb u q _ _ _=>k b u q
 slot:=λb u q _ _ _=>⟨u.slots,k b u q⟩
 free:=λb u q n _=>by rw[z08 (wJ (wL (wu q) e))];exact n
 there:=λb u q _=>⟨u,k b u q⟩
 tups:=λb f q=>by rw[z08 (z0E q d)];exact q
 frzs:=λb u f q=>by rw[z08 (z0E q d)];exact q
 tbls:=λb ps q=>⟨#[],by rw[z08 (z0E q d),q];simp⟩
def Un.write (d:Mut (H x))(l:e=x\/H e=some (.own x))(k:∀b u,b≠e->h.get? b=some u->h'.get? b=some u)(f:∃u,h'.get? e=some u):Un fs ex H (upd H x o) h h':=by
 have j:∀b,H b=none->b≠x:=λb n z=>by subst z;rw[n] at d;exact d
 have i:∀b,H b=none->b≠e:=λb n z=>by
  subst z
  rcases l with r | r
  .exact j b n r
  .rw[n] at r;cases r
 have g:∀b u,H b=some u->¬ Mut (some u)->b≠x:=λb u q m z=>by subst z;rw[q] at d;exact m d
 refine⟨λb u q n _ _=>k b u (i b n) q,λb u q n _ _=>⟨u.slots,k b u (i b n) q⟩,λb u q n _=>by rw[z08 (j b n)];exact n,λb u q _ =>?_,
  λb p q=>by rw[z08 (g b _ q λz=>z)];exact q,λb u p q=>by rw[z08 (g b _ q λz=>z)];exact q,λb ps q=>⟨#[],by rw[z08 (g b _ q λz=>z),q];simp⟩⟩
 by_cases a:b=e
 .subst a;exact f
 .exact⟨u,k b u a q⟩
end
noncomputable def trk (h:Heap)(H:Hp):List Addr:=(List.range h.objs.size).filter λa=>(H a).isSome
def hidT (h:Heap)(H:Hp):Heap:=W.hideAll h (trk h H)
def zc8 (h:Heap)(H:Hp):(hidT h H).objs.size=h.objs.size:=W.hideAll_size _ _
def zec (e:h.get? b=some o)(n:H b=none):(hidT h H).get? b=some o:=
 W.hideAll_get _ e λa=>by
  have q:(H b).isSome=true:=(jV.mp a).2;rw[n] at q;simp at q
def zgR (e:(hidT h H).get? b=some o):h.get? b=some o/\H b=none:=by
 have a:h.get? b=some o:=W.of_hideAll (trk h H) e;refine⟨a,?_⟩
 cases q:H b with
 | none=>rfl
 | some x=>
  have d:b∈trk h H:=jV.mpr ⟨v4.mpr (wu a),by simp[q]⟩;have z:(hidT h H).get? b=none:=W.hideAll_none (trk h H) d;rw[z] at e;cases e
def BmAt (mg:WmP)(h:Heap):Prop:=∃b a,mg "__builtins__"=some (.ref b)/\b≠builtinsNs/\h.get? b=some a/\a.cls = .type "module"/\a.dict=some builtinsNs/\a.data = .plain
noncomputable def zke (d:FuncData):Option Pos:=match d.body with
 | .stmts b=>(match b.getLast? with
  | some (.Return (some (.Call _ _ [⟨_,.Lambda _ _ _ a,_⟩] _)) _)=>some a
  | _=>none)
 | _=>none
noncomputable def z9Q (K:W.Frag)(c:Addr):Option Addr:=match K.lookup c with
 | some ⟨.type "code",_,.fields vs,_⟩=>(match (vs[11]? : Option Value) with | some (.ref P)=>if (K.lookup P).isNone then some P else none | _=>none)
 | _=>none
noncomputable def tsOf (K:W.Frag):List (Addr × Nat × Nat × Str):=K.filterMap λp=>match p.2.data with
 | .func b=>(match zke b,b.code with
  | some a,.ref c=>(z9Q K c).map λP=>(P,a.line,a.col,b.qualname++".<locals>."++"<lambda>")
  | _,_=>none)
 | _=>none
noncomputable def encT (t:Nat × Nat × Str):Array Value := #[rawInt t.1,rawInt t.2.1,.str t.2.2 0]
def Tbs (K:W.Frag)(H:Hp):Prop:=∀P t,(tsOf K).lookup P=some t->∃more,H P=some (.tbl (encT t++more))
structure Mod (K:W.Frag)(mg:WmP)(base:Heap):Prop where
 kin:K.In base
 glob:base.Ns mainGlobals mg
 blt:∃mb,base.Ns builtinsNs mb/\∀x:Str,x≠"__name__"->mb x=bootBuiltins x
 nolimit:base.NoLimit
 bm:BmAt mg base
structure Cx where
 prog:Program
 w:World
 K:W.Frag
 mg:Str->Option Value
 base:Heap
 A:Around
 N:List Str
 s₀:Shared
 H₀:Hp
 env:Env
 outer:List Env
 stack:List Env
 ex:List Addr
 fn:Str->Bool
 calm:Bool
 pn:List (Addr × Obj)
 xe:Value->Shared->Prop
abbrev sE (e:Expr)(l:List Expr)(X:Cx):Prop:=starEach (e::l) X.env=(false,eval e X.env)::starEach l X.env
abbrev aG (p:Pos)(l:List Expr)(X:Cx):Prop:=((backTo p (starEach l X.env)).all (λx=>!x.1) && (backToKw p (keywordEach [] X.env)).all (λx=>x.1.isSome) && decide (l.length+([]:List Keyword).length+(if ([]:List Keyword).isEmpty then 0 else 1)<30))=true
abbrev bT (p:Pos)(l:List Expr)(X:Cx):Prop:=(backTo p (starEach l X.env)).any (·.1)=false
abbrev dB (x:Str):Prop:=(x == ("__debug__":Str))=false
abbrev aL (a c:Pos):Prop:=(a.endLine == c.line)=true
abbrev fI (i:Expr)(X:Cx):Prop:=∀x,foldedSetIterable i X.env x=pure x
abbrev aB (o:Expr)(n:Str)(X:Cx):Prop:=attributeBase o n X.env (eval o X.env)=eval o X.env
def frs (l:List Env):List Addr:=l.filterMap (·.frame)
abbrev Cx.fs (X:Cx):List Addr:=frs X.outer
def Vis (sc:Scope)(x:Str):Prop:=sc.names.lookup x=some .local\/sc.names.lookup x=some .cell\/sc.names.lookup x=some .free
def Loc (sc:Scope)(x:Str):Prop:=sc.names.lookup x=some .local\/sc.names.lookup x=some .cell
def Look (env:Env)(h:Heap)(m:WmP)(x:Str)(u:Value):Prop:=
 (env.kindOf x=some .local/\m x=some u)\/((env.kindOf x=some .cell\/env.kindOf x=some .free)/\∃c,env.cells.lookup x=some c/\h.IsCell c (some u))
structure Cx.Ok (X:Cx):Prop where
 mod:Mod X.K X.mg X.base
 kind:X.env.scope.kind = .function
 glob:X.env.globals=mainGlobals
 blt:X.env.builtins=builtinsNs
 above:X.s₀.heap.objs.size<=X.env.locals
 inj:∀x y c,X.env.cells.lookup x=some c->X.env.cells.lookup y=some c->x=y
 has:∀x,(X.env.kindOf x=some .cell\/X.env.kindOf x=some .free)->∃c,X.env.cells.lookup x=some c
 cab:∀x c,X.fn x=true->X.env.cells.lookup x=some c->X.s₀.heap.objs.size<=c
 hd:X.calm=true->X.A.handled=none
 frames:X.A.frames=some X.stack
 stk:X.stack=X.outer\/(X.stack=X.env::X.outer/\X.env.frame=some X.env.locals)
 exf:∀b∈X.ex,b≠X.env.locals/\∀x c,X.env.cells.lookup x=some c->c≠b
 bs:∀b o,X.base.get? b=some o->X.s₀.heap.get? b=some o/\X.H₀ b=none
 bsz:X.base.objs.size<=X.s₀.heap.objs.size
 noex:∀b o,X.base.get? b=some o->b ∉ X.ex
 exfs:∀b∈X.ex,b ∉ X.fs
 funs:X.s₀.heap.FunFrames X.base X.outer
 frf:∀b∈X.fs,X.H₀ b=none
 tbs:Tbs X.K X.H₀
structure Inv (X:Cx)(pins:List (Addr × Obj))(σ:List (Option V))(H:Hp)(s:Shared):Prop where
 ok:X.Ok
 os:s.os=X.s₀.os
 bare:AllBare s.gens
 base:Un X.fs X.ex X.H₀ H X.s₀.heap s.heap
 loc:∃m,s.heap.Ns X.env.locals m/\∀(i:Nat) (x:Str) (v:V),X.N[i]? = some x->σ[i]? = some (some v)->Vis X.env.scope x->∃u,RelV v u/\Look X.env s.heap m x u
 cell:∀x c,X.env.cells.lookup x=some c->∃v,s.heap.IsCell c v
 free:H X.env.locals=none
 freeC:∀x c,X.env.cells.lookup x=some c->H c=none
 pin:∀p∈X.pn++pins,s.heap.get? p.1=some p.2/\H p.1=none/\p.1≠X.env.locals/\p.1 ∉ X.fs/\∀v,p.2.data ≠ .cell v
 hok:HOk X.prog X.w H s.heap
 len:σ.length=X.N.length
section
variable {X:Cx}{pins:List (Addr × Obj)}{σ:List (Option V)}{H H':Hp}{s:Shared}{h':Heap}
def Cx.Ok.nofr (ok:X.Ok)(e:X.base.get? b=some o):b ∉ X.fs:=λa=>by
 have:=(ok.funs.mem a).1;rw[e] at this;cases this
theorem Inv.bs (I:Inv X pins σ H s):∀b o,X.base.get? b=some o->s.heap.get? b=some o/\H b=none:=λb o e=>
 ⟨I.base.keep b o (I.ok.bs b o e).1 (I.ok.bs b o e).2 (I.ok.nofr e) (I.ok.noex b o e),I.base.free b o (I.ok.bs b o e).1 (I.ok.bs b o e).2 (I.ok.noex b o e)⟩
def Inv.bk (I:Inv X pins σ H s):∀b o,X.base.get? b=some o->s.heap.get? b=some o:=λb o e=>(I.bs b o e).1
theorem Inv.mod (I:Inv X pins σ H s):Mod X.K X.mg X.base:=I.ok.mod
def Inv.kIn (I:Inv X pins σ H s):X.K.In s.heap:=I.ok.mod.kin.keeps I.bk
theorem Inv.lt (I:Inv X pins σ H s):X.env.locals<s.heap.objs.size:=let ⟨_,a,_⟩:=I.loc;a.lt
def Inv.sz (I:Inv X pins σ H s):X.s₀.heap.objs.size<=s.heap.objs.size:=wO I.ok.above (uy I.lt)
def Inv.nofs (I:Inv X pins σ H s)(h:s.heap.objs.size<=a):a ∉ X.fs:=λb=>by
 obtain⟨_,o,d,_⟩:=I.ok.funs.mem b;exact absurd (wL (wu d) (wO I.sz h)) (vV _)
def Inv.cne (I:Inv X pins σ H s):∀x c,X.env.cells.lookup x=some c->c≠X.env.locals:=λx c e z=>by
 obtain⟨v,o,f,d⟩:=I.cell x c e;obtain⟨m,⟨i,h,g,b,a,_⟩,_⟩:=I.loc;rw[z,b] at f;cases f;rw[a] at d;cases d
theorem Inv.funs (I:Inv X pins σ H s):s.heap.FunFrames X.base X.outer:=by
 have all:∀(l:List Env),(∀b∈frs l,b∈X.fs)->X.s₀.heap.FunFrames X.base l->s.heap.FunFrames X.base l:=by
  intro l
  induction l with
  | nil=>intro _ _;trivial
  | cons h r t=>
   intro g m;obtain⟨j,⟨L,o,f,n,p,i⟩,q⟩:=m;have a:L∈X.fs:=g L (by unfold frs;rw[v9,f];exact wv);obtain⟨sl,e⟩:=I.base.slot L o p (I.ok.frf L a) a λz=>I.ok.exfs L z a;exact⟨j,⟨L,_,f,n,e,i⟩,t (λb d=>g b (by unfold frs;rw[v9,f];exact wn _ d)) q⟩
 exact all X.outer (λ_ d=>d) I.ok.funs
theorem Inv.stack (I:Inv X pins σ H s):s.heap.FunFrames X.base X.stack:=by
 rcases I.ok.stk with e | ⟨e,a⟩
 .rw[e];exact I.funs
 .rw[e];obtain⟨m,b,_⟩:=I.loc;refine .cons (by rw[I.ok.kind];decide) a b ?_ I.funs;exact Heap.get?_none_of_le (wO I.ok.bsz I.ok.above)
def Inv.stkSub (I:Inv X pins σ H s):∀b∈frs X.stack,b∈X.env.locals::X.fs:=λb a=>by
 rcases I.ok.stk with e | ⟨e,d⟩
 .rw[e] at a;exact wn _ a
 .rw[e] at a;unfold frs at a;rw[v9,d] at a;exact a
def Inv.stkFree (I:Inv X pins σ H s):∀b∈frs X.stack,H b=none:=λb a=>by
 rcases wm.mp (I.stkSub b a) with e | a
 .rw[e];exact I.free
 .obtain⟨_,o,d,_⟩:=I.ok.funs.mem a;exact I.base.free b o d (I.ok.frf b a) λz=>I.ok.exfs b z a
theorem Inv.tbs (I:Inv X pins σ H s):Tbs X.K H:=λP t e=>by
 obtain⟨d,a⟩:=I.ok.tbs P t e;obtain⟨f,b⟩:=I.base.tbls P _ a;exact⟨d++f,by rw[b,Array.append_assoc]⟩
def Inv.step {g':Array GenState}{t':Nat}{d':Drawn}{ch:List Addr}(I:Inv X pins σ H s)
  (g:∀b∈ch,(b∈X.ex\/X.s₀.heap.objs.size<=b)/\b≠X.env.locals/\(∀x c,X.env.cells.lookup x=some c->c≠b)/\∀p∈X.pn++pins,p.1≠b)
  (keep:∀b o,b≠X.env.locals->b ∉ X.fs->b ∉ ch->s.heap.get? b=some o->H b=none->h'.get? b=some o)
  (y:∀b o,b≠X.env.locals->b∈X.fs->b ∉ ch->s.heap.get? b=some o->H b=none->∃sl,h'.get? b=some { o with slots:=sl }) (free:∀b o,b ∉ ch->s.heap.get? b=some o->H b=none->H' b=none)
  (there:∀b o,b ∉ ch->s.heap.get? b=some o->∃J,h'.get? b=some J)
  (tups:∀b xs,H b=some (.tup xs)->H' b=some (.tup xs)) (F:∀b o u,H b=some (.frz o u)->H' b=some (.frz o u)) (K:∀b ps,H b=some (.tbl ps)->∃more,H' b=some (.tbl (ps++more)))
  (ns:∀m,s.heap.Ns X.env.locals m->h'.Ns X.env.locals m) (M:HOk X.prog X.w H' h') (T:AllBare g'):
  Inv X pins σ H' { s with heap:=h',gens:=g',drawn:=d',toks:=t' }:=by
 have G:∀b o,X.s₀.heap.get? b=some o->b≠X.env.locals:=λb o e=>wJ (wL (wu e) I.ok.above);have t:∀b o,X.s₀.heap.get? b=some o->b ∉ X.ex->b ∉ ch:=λb o e a A=>by
  rcases(g b A).1 with z | z
  .exact a z
  .exact absurd (wL (wu e) z) (vV _)
 have f:∀x c,X.env.cells.lookup x=some c->∀v,s.heap.IsCell c v->h'.IsCell c v:=by
  rintro x c e v ⟨o,C,L⟩;have h:c ∉ ch:=λz=>(g c z).2.2.1 x c e rfl
  by_cases O:c∈X.fs
  .obtain⟨sl,q⟩:=y c o (I.cne x c e) O h C (I.freeC x c e);exact⟨_,q,L⟩
  .exact⟨o,keep c o (I.cne x c e) O h C (I.freeC x c e),L⟩
 refine⟨I.ok,I.os,T,⟨λb o e n A a =>?_,λb o e n A a =>?_,λb o e n a =>?_,λb o e a =>?_,λb xs e=>tups b xs (I.base.tups b xs e),λb o xs e=>F b o xs (I.base.frzs b o xs e),λb ps e =>?_⟩,?_,λx c e =>?_,?_,λx c e =>?_,λp Q =>?_,M,I.len⟩
 .exact keep b o (G b o e) A (t b o e a) (I.base.keep b o e n A a) (I.base.free b o e n a)
 .obtain⟨sl,j⟩:=I.base.slot b o e n A a;obtain⟨N,E⟩:=y b _ (G b o e) A (t b o e a) j (I.base.free b o e n a);exact⟨N,E⟩
 .obtain⟨J,j⟩:=I.base.there b o e a;exact free b J (t b o e a) j (I.base.free b o e n a)
 .obtain⟨J,j⟩:=I.base.there b o e a;exact there b J (t b o e a) j
 .obtain⟨Y,j⟩:=I.base.tbls b ps e;obtain⟨Z,E⟩:=K b _ j;exact⟨Y++Z,by rw[E,Array.append_assoc]⟩
 .obtain⟨m,W,U⟩:=I.loc;refine⟨m,ns m W,λi x v j E S =>?_⟩;obtain⟨u,r,l⟩:=U i x v j E S;refine⟨u,r,?_⟩
  rcases l with l | ⟨k,c,e,z⟩
  .exact .inl l
  .exact .inr ⟨k,c,e,f x c e _ z⟩
 .obtain⟨v,z⟩:=I.cell x c e;exact⟨v,f x c e v z⟩
 .obtain⟨m,⟨o,_,_,C,_⟩,_⟩:=I.loc;exact free _ o (λz=>(g _ z).2.1 rfl) C I.free
 .obtain⟨v,o,C,L⟩:=I.cell x c e;exact free c o (λz=>(g c z).2.2.1 x c e rfl) C (I.freeC x c e)
 .obtain⟨e,n,ne,R,d⟩:=I.pin p Q;have h:p.1 ∉ ch:=λz=>(g p.1 z).2.2.2 p Q rfl;exact⟨keep p.1 p.2 ne R h e n,free p.1 p.2 h e n,ne,R,d⟩
def Inv.un {t':Nat}(I:Inv X pins σ H s)(u:Un X.fs [] H H' s.heap h')(h:HOk X.prog X.w H' h'):Inv X pins σ H' { s with heap:=h',toks:=t' }:=by
 obtain⟨m,⟨o,t,q,i,r⟩,_⟩:=id I.loc;obtain⟨sl,j⟩:=u.any i I.free (by simp);exact I.step (g':=s.gens) (d':=s.drawn) (ch:=[]) (λ_ z=>nomatch z) (λb o _ g _ e n=>u.keep b o e n g (by simp)) (λb o _ g _ e n=>u.slot b o e n g (by simp)) (λb o _ e n=>u.free b o e n (by simp)) (λb o _ e=>u.there b o e (by simp)) u.tups u.frzs u.tbls (λx l=>by
  obtain⟨y,f,d,a,p⟩:=l;rw[i] at a;cases a;exact⟨_,f,d,j,p⟩) h I.bare
def Inv.call {t':Nat}(I:Inv X pins σ H s)(u:Un (frs X.stack) ch H H' s.heap h')(j:HOk X.prog X.w H' h')(t:AllBare g')
  (d:∀b∈ch,(b∈X.ex\/X.s₀.heap.objs.size<=b)/\b≠X.env.locals/\(∀x c,X.env.cells.lookup x=some c->c≠b)/\∀p∈X.pn++pins,p.1≠b):
  Inv X pins σ H' { s with heap:=h',gens:=g',drawn:=d',toks:=t' }:=by
 obtain⟨m,⟨o,E,C,l,r⟩,_⟩:=id I.loc;obtain⟨sl,i⟩:=u.any l I.free λz=>(d _ z).2.1 rfl;exact I.step (ch:=ch) d (λb o i q a e n=>u.keep b o e n (λz=>(wm.mp (I.stkSub b z)).elim i q) a) (λb o _ _ a e n=>u.any e n a) (λb o a e n=>u.free b o e n a) (λb o a e=>u.there b o e a) u.tups u.frzs u.tbls (λF y=>by
  obtain⟨G,h,g,f,A⟩:=y;rw[l] at f;cases f;exact⟨_,h,g,i,A⟩) j t
def Inv.turned {t':Nat}(I:Inv X pins σ H s)(k:∀b o,b≠it->s.heap.get? b=some o->h'.get? b=some o)(y:H it=none)(f:it≠X.env.locals)
  (i:it∈X.ex\/X.s₀.heap.objs.size<=it) (j:∀x c,X.env.cells.lookup x=some c->c≠it) (l:∀p∈X.pn++pins,p.1≠it):Inv X pins σ H { s with heap:=h',toks:=t' }:=by
 have d:∀b u,H b=some u->b≠it:=λb u e z=>by rw[z,y] at e;cases e
 refine I.step (g':=s.gens) (d':=s.drawn) (ch:=[it]) (λb t =>?_) (λb o _ _ a e _=>k b o (λz=>a (by simp[z])) e) (λb o _ _ a e _=>⟨o.slots,k b o (λz=>a (by simp[z])) e⟩) (λ_ _ _ _ n=>n)
  (λb o a e=>⟨o,k b o (λz=>a (by simp[z])) e⟩) (λ_ _ e=>e) (λ_ _ _ e=>e) (λb ps e=>⟨#[],by rw[e];simp⟩) (λm w =>?_) (λb u e =>?_) I.bare
 .have e:b=it:=by simpa using t
  subst e;exact⟨i,f,j,l⟩
 .obtain⟨o,h,g,A,r⟩:=w;exact⟨o,h,g,k _ o (vQ f) A,r⟩
 .refine(I.hok b u e).stay (λc v a q=>k c v ?_ q) (λ_ q=>q) λ_ _ q=>q
  rcases a with z | z
  .rw[z];exact d b u e
  .exact d c _ z
def Inv.tok (I:Inv X pins σ H s)(t:Nat):Inv X pins σ H { s with toks:=t }:=I.un (h':=s.heap) (t':=t) Un.refl I.hok
theorem Inv.kept (I:Inv X pins σ H s)(k:∀b u,s.heap.get? b=some u->h'.get? b=some u):Inv X pins σ H { s with heap:=h',toks:=t' }:=I.un (Un.kept k) (I.hok.kept k)
theorem Inv.laid {a:Addr}{o:HO}{t':Nat}(I:Inv X pins σ H s)(k:∀b u,s.heap.get? b=some u->h'.get? b=some u)(d:s.heap.objs.size<=a)(new:z1m X.prog X.w (upd H a o) h' a o):
  Inv X pins σ (upd H a o) { s with heap:=h',toks:=t' }:=I.un (Un.laid k d (I.hok.fresh d)) (I.hok.laid k d new)
theorem Inv.write (I:Inv X pins σ H s)(f:Mut (H x))(d:e=x\/H e=some (.own x))(k:∀b u,b≠e->s.heap.get? b=some u->h'.get? b=some u)(a:∃u,h'.get? e=some u)
  (new:z1m X.prog X.w (upd H x o) h' x o):Inv X pins σ (upd H x o) { s with heap:=h',toks:=t' }:=I.un (Un.write f d k a) (I.hok.write f d k a new)
def Inv.pins_of (I:Inv X pins σ H s)(h:∀p∈pins',s.heap.get? p.1=some p.2/\H p.1=none/\p.1≠X.env.locals/\p.1 ∉ X.fs/\∀v,p.2.data ≠ .cell v):Inv X pins' σ H s:=
 ⟨I.ok,I.os,I.bare,I.base,I.loc,I.cell,I.free,I.freeC,λp a=>(wB.mp a).elim (λz=>I.pin p (vD _ z)) (h p),I.hok,I.len⟩
def z9m {N:List Str}(f:N.Nodup){i j:Nat}{x:Str}(a:N[i]? = some x)(b:N[j]? = some x):i=j:=by
 obtain⟨g,d⟩:=wq.mp a;obtain⟨h,e⟩:=wq.mp b;exact(List.getElem_inj f).mp (d.trans e.symm)
def z76 {E:WvP}{i:Nat}{x:Str}{v:V}{Q:Unit->Shared->Prop}(I:Inv X pins σ H s)(hN:X.N.Nodup)(W:X.N[i]? = some x)(C:Loc X.env.scope x)(r:RelV v u)
  (h:∀s',Inv X pins (σ.set i (some v)) H s'->(∃a,Heap.SameBut a s.heap s'.heap/\(a=X.env.locals\/X.env.cells.lookup x=some a))->Q () s') (hf:autoParam (X.fn x=true\/X.env.scope.names.lookup x=some .local) jD1):wpAny M A (storeName X.env x u) Q E s:=by
 obtain⟨m,hn,hl⟩:=id I.loc;have U:(X.env.scope.kind == .class || (X.env.scope.kind == .module && X.env.locals != X.env.globals))=false:=by rw[I.ok.kind];rfl
 have J:i < σ.length:=by rw[I.len];exact(wq.mp W).1
 have cne:=I.cne;have l:∀{a:Addr}{h':Heap},(∃o,s.heap.get? a=some o/\H a=none)->Heap.SameBut a s.heap h'->HOk X.prog X.w H h':=λ{a h'} ha f b ob e=>by
  obtain⟨_,_,F⟩:=ha;refine(I.hok b ob e).stay (λc w' t q=>(f.2 c ?_).trans q) (λ_ q=>q) λ_ _ q=>q;rintro rfl
  rcases t with rfl | t
  .rw[F] at e;cases e
  .rw[F] at t;cases t
 rcases C with K | K
 .refine wpAny_storeName_local K hn (λh' a0 f =>?_) U;obtain⟨oL,_,_,a1,_⟩:=id hn;refine h _ ⟨I.ok,I.os,I.bare,⟨λb o e n L C =>?_,λb o e n L C =>?_,I.base.free,λb o e C =>?_,I.base.tups,I.base.frzs,I.base.tbls⟩,⟨_,a0,λj y v' g G e3 =>?_⟩,λy c e =>?_,I.free,I.freeC,λp hp =>?_,l ⟨oL,a1,I.free⟩ f,by simpa using I.len⟩ ⟨_,f,.inl rfl⟩
  .exact(f.2 b (wJ (wL (wu e) I.ok.above))).trans (I.base.keep b o e n L C)
  .obtain⟨sl,g⟩:=I.base.slot b o e n L C;exact⟨sl,(f.2 b (wJ (wL (wu e) I.ok.above))).trans g⟩
  .obtain⟨o',g⟩:=I.base.there b o e C;exact⟨o',(f.2 b (wJ (wL (wu e) I.ok.above))).trans g⟩
  .by_cases R:j=i
   .subst R;rw[W] at g;cases g;rw[wR J] at G
    cases G
    exact⟨u,r,.inl ⟨K,by simp⟩⟩
   .rw[wF (vQ R)] at G;obtain⟨u',r',q⟩:=hl j y v' g G e3;refine⟨u',r',?_⟩
    rcases q with ⟨k,e⟩ | ⟨k,c,e,z⟩
    .refine .inl ⟨k,?_⟩;have:y≠x:=λe=>R (z9m hN g (e ▸ W));simp[this,e]
    .exact .inr ⟨k,c,e,z.sameBut f (cne y c e)⟩
  .obtain⟨w',z⟩:=I.cell y c e;exact⟨w',z.sameBut f (cne y c e)⟩
  .obtain⟨e,n,ne,nf,d⟩:=I.pin p hp;exact⟨(f.2 p.1 ne).trans e,n,ne,nf,d⟩
 .have O:X.fn x=true:=by
   rcases hf with z | z
   .exact z
   .rw[z] at K;cases K
  obtain⟨c,t⟩:=I.ok.has x (.inl K);obtain⟨w',z⟩:=I.cell x c t;refine wpAny_storeName_cell I.ok.kind K t z (λh' S f =>?_);obtain⟨oc,Y,Z⟩:=id z;refine h { s with heap:=h' } ⟨I.ok,I.os,I.bare,⟨λb o e n L C =>?_,λb o e n L C =>?_,I.base.free,λb o e C =>?_,I.base.tups,I.base.frzs,I.base.tbls⟩,⟨m,hn.sameBut f (vQ (cne x c t)),λj y v' g G e3 =>?_⟩,λy c' e =>?_,I.free,I.freeC,λp hp =>?_,l ⟨oc,Y,I.freeC x c t⟩ f,by simpa using I.len⟩ ⟨c,f,.inr t⟩
  .exact(f.2 b (wJ (wL (wu e) (I.ok.cab x c O t)))).trans (I.base.keep b o e n L C)
  .obtain⟨sl,g⟩:=I.base.slot b o e n L C;exact⟨sl,(f.2 b (wJ (wL (wu e) (I.ok.cab x c O t)))).trans g⟩
  .obtain⟨o',g⟩:=I.base.there b o e C;exact⟨o',(f.2 b (wJ (wL (wu e) (I.ok.cab x c O t)))).trans g⟩
  .by_cases R:j=i
   .subst R;rw[W] at g;cases g;rw[wR J] at G
    cases G
    exact⟨u,r,.inr ⟨.inl K,c,t,S⟩⟩
   .rw[wF (vQ R)] at G;obtain⟨u',r',q⟩:=hl j y v' g G e3;refine⟨u',r',?_⟩
    rcases q with q | ⟨k,c',e,z'⟩
    .exact .inl q
    .refine .inr ⟨k,c',e,z'.sameBut f ?_⟩;rintro rfl;exact R (z9m hN g (I.ok.inj _ _ _ e t ▸ W))
  .by_cases T:c'=c
   .subst T;exact⟨_,S⟩
   .obtain⟨w2,z2⟩:=I.cell y c' e;exact⟨w2,z2.sameBut f T⟩
  .obtain⟨e,n,ne,nf,d⟩:=I.pin p hp;refine⟨(f.2 p.1 ?_).trans e,n,ne,nf,d⟩;intro q;rw[q,Y] at e;have q':oc=p.2:=wY e;exact d w' (by rw[<- q'];exact Z)
def z6j {v:V}(I:Inv X pins σ H s)(b:X.N.Nodup)(e:X.N[i]? = some x)(f:Loc X.env.scope x)(r:RelV v u)
  (h:∀s',Inv X pins (σ.set i (some v)) H s'->Q () s') (d:autoParam (X.fn x=true\/X.env.scope.names.lookup x=some .local) jD1):wpAny M A (storeName X.env x u) Q E s:=
 z76 I b e f r (λs' a _=>h s' a) d
def Inv.call' (I:Inv X pins σ H s)(g:s'.os=s.os)(u:Un (frs X.stack) ch H H' s.heap s'.heap)(d:HOk X.prog X.w H' s'.heap)(f:AllBare s'.gens)
  (a:∀b∈ch,(b∈X.ex\/X.s₀.heap.objs.size<=b)/\b≠X.env.locals/\(∀x c,X.env.cells.lookup x=some c->c≠b)/\∀p∈X.pn++pins,p.1≠b):Inv X pins σ H' s':=by
 obtain⟨i,g',d',t',h⟩:=s';have e:h=s.os:=g;subst e;exact I.call (g':=g') (t':=t') (d':=d') u d f a
end
abbrev XK:=Value->Option Addr->Hp->Prop
abbrev St:=List (Option V)
abbrev VK:=V->Hp->Prop
abbrev TE:=St->Hp->VK->Prop
abbrev TT:=St->Hp->(Bool->Hp->Prop)->Prop
abbrev TA:=St->Hp->(List V->Hp->Prop)->Prop
structure Ends where
 nx:St->Hp->Prop
 rt:VK
 bk:St->Hp->Prop:=λ_ _=>False
 ct:St->Hp->Prop:=λ_ _=>False
abbrev TS:=Ends->St->Hp->Prop
def EP (X:Cx)(a:List (Addr × Obj))(d:St)(Q:VK)(u:Value)(s':Shared):Prop:=∃v b,Inv X a d b s'/\RelV v u/\Q v b
def TP (X:Cx)(a:List (Addr × Obj))(e:St)(Q:Bool->Hp->Prop)(b:Bool)(s':Shared):Prop:=∃d,Inv X a e d s'/\Q b d
def AP (X:Cx)(a:List (Addr × Obj))(d:St)(Q:List V->Hp->Prop)(us:List Value)(s':Shared):Prop:=∃vs b,Inv X a d b s'/\Vals vs us/\Q vs b
def SP (X:Cx)(b:List (Addr × Obj))(D:Ends)(f:Flow)(s':Shared):Prop:=
 match f with
 | .next=>∃a d,Inv X b a d s'/\D.nx a d
 | .brk=>∃a d,Inv X b a d s'/\D.bk a d
 | .cont=>∃a d,Inv X b a d s'/\D.ct a d
 | .ret u=>∃v a d,Inv X b a d s'/\RelV v u/\D.rt v d
def PE (X:Cx)(e:Expr)(t:TE):Prop:=
 ∀(a:List (Addr × Obj)) (s:Shared) (b:St) (H:Hp) (Q:VK),Inv X a b H s->t b H Q->wpAny (model X.prog X.w) X.A (eval e X.env) (EP X a b Q) X.xe s
def PT (X:Cx)(e:Expr)(t:TT):Prop:=
 ∀(a:List (Addr × Obj)) (s:Shared) (b:St) (H:Hp) (Q:Bool->Hp->Prop),Inv X a b H s->t b H Q->wpAny (model X.prog X.w) X.A (isTrue e X.env (eval e X.env)) (TP X a b Q) X.xe s
def PW (X:Cx)(e:Expr)(t:TT):Prop:=
 ∀(b:Sem Value) (a:List (Addr × Obj)) (s:Shared) (d:St) (H:Hp) (Q:Bool->Hp->Prop),Inv X a d H s->t d H Q->wpAny (model X.prog X.w) X.A (isTrue e X.env b) (TP X a d Q) X.xe s
def PW.pt {X:Cx}{e:Expr}{t:TT}(h:PW X e t):PT X e t:=h _
def PA (X:Cx)(es:List Expr)(t:TA):Prop:=
 ∀(b:Pos) (a:List (Addr × Obj)) (s:Shared) (d:St) (H:Hp) (Q:List V->Hp->Prop),Inv X a d H s->t d H Q->wpAny (model X.prog X.w) X.A (spliced (backTo b (starEach es X.env))) (AP X a d Q) X.xe s
def PS (X:Cx)(st:Stmt)(t:TS):Prop:=
 ∀(a:List (Addr × Obj)) (s:Shared) (b:St) (H:Hp) (D:Ends),Inv X a b H s->t D b H->wpAny (model X.prog X.w) X.A (exec st X.env) (SP X a D) X.xe s
def PSs (X:Cx)(st:List Stmt)(t:TS):Prop:=
 ∀(a:List (Addr × Obj)) (s:Shared) (b:St) (H:Hp) (D:Ends),Inv X a b H s->t D b H->wpAny (model X.prog X.w) X.A (execs st X.env) (SP X a D) X.xe s
def thn {b:Type}{t:Sem b}{Q Q':b->Shared->Prop}{M:Model}{A:Around}{E:WvP}{s:Shared}(h:wpAny M A t Q E s)(d:∀a s,Q a s->Q' a s):wpAny M A t Q' E s:=vH h d λ_ _ x=>x
section
variable {X:Cx}
def tVar (i:Nat):TE:=λa H Q=>∃v,a[i]? = some (some v)/\Q v H
def tC (v:V):TE:=λ_ H Q=>Q v H
def zf8 {j:Pos}(o:X.N[i]? = some x)(w:Vis X.env.scope x)(g:autoParam (dB x) jB1)(f:autoParam ((x == ("__classdict__":Str))=false) jB1):PE X (.Name x j) (tVar i):=by
 intro d s y H Q I h;obtain⟨v,e,h⟩:=h;obtain⟨m,t,p⟩:=I.loc;obtain⟨u,r,l⟩:=p i x v o e w;have fin:EP X d y Q u s:=⟨v,H,I,r,h⟩
 rcases l with ⟨b,q⟩ | ⟨b,c,n,a⟩
 .exact wpAny_Name (wpAny_loadName_local I.ok.kind b t q fin) g
 .rcases b with b | b
  .exact wpAny_Name (wpAny_loadName_cell I.ok.kind b n a fin) g
  .exact wpAny_Name (wpAny_loadName_free I.ok.kind b n a fin f) g
def zjk {i j a}:PE X (.Constant (.int i) j a) (tC (.int i)):=λ_ _ _ H _ I h=>wpAny_Constant_int ⟨.int i,H,I.tok _,⟨_,rfl⟩,h⟩
def zlG {b j a}:PE X (.Constant (.bool b) j a) (tC (.bl b)):=λ_ _ _ H _ I h=>Constant_bool ⟨.bl b,H,I,rfl,h⟩
def zjh {j a}:PE X (.Constant .none j a) (tC .non):=λ_ _ _ H _ I h=>Constant_none ⟨.non,H,I,rfl,h⟩
def zjg {x j a}:PE X (.Constant (.str x) j a) (tC (.str x)):=λ_ _ _ H _ I h=>Calls.Constant_str ⟨.str x,H,I.tok _,⟨_,rfl⟩,h⟩
def Gl (X:Cx)(x:Str):Prop:=X.env.kindOf x=some .globalImplicit
def z8F {a:Pos}(I:Inv X pins σ H s)(d:Gl X x)(e:X.mg x=some u)(h:Q u s)
  (b:autoParam (dB x) jB1):wpAny (model X.prog X.w) X.A (eval (.Name x a) X.env) Q E s:=
 Calls.Name_function_global I.ok.kind d (Calls.loadGlobal_global (by rw[I.ok.glob];exact I.mod.glob.keeps I.bk) e h) b
def z7G {a:Pos}(I:Inv X pins σ H s)(f:Gl X x)(g:X.mg x=none)(j:bootBuiltins x=some u)(h:Q u s)
  (i:autoParam (x≠"__name__") jB1) (e:autoParam (dB x) jB1):wpAny (model X.prog X.w) X.A (eval (.Name x a) X.env) Q E s:=by
 obtain⟨l,b,d⟩:=I.mod.blt;exact Calls.Name_function_global I.ok.kind f (Calls.loadGlobal_builtin (by rw[I.ok.glob];exact I.mod.glob.keeps I.bk) g (by rw[I.ok.blt];exact b.keeps I.bk) ((d x i).trans j) h) e
def zbw {v:V}{a:Pos}(d:Gl X x)(e:X.mg x=some u)(r:RelV v u)(b:autoParam (dB x) jB1):PE X (.Name x a) (tC v):=
 λ_ _ _ H _ I h=>z8F I d e ⟨v,H,I,r,h⟩ b
def zgI {v:V}{a:Pos}(d:Gl X x)(e:X.mg x=none)(g:bootBuiltins x=some u)(r:RelV v u)(f:autoParam (x≠"__name__") jB1)(b:autoParam (dB x) jB1):PE X (.Name x a) (tC v):=
 λ_ _ _ H _ I h=>z7G I d e g ⟨v,H,I,r,h⟩ f b
variable {a b:Expr}{ta tb:TE}{pos:Pos}
def tB (t:TE):TT:=λb H Q=>t b H λx a=>∃c,x = .bl c/\Q c a
def zj3 {t:TE}(h:PE X e t)(i:autoParam (∀a,isTrue e X.env a=(do let v <- a;standAt e.pos;holding [v] (truthy v))) jC1):PT X e (tB t):=by
 intro b s n H Q I j;refine isTrue_plain (thn (h b s n H _ I j) λv o m =>?_) (i _);obtain⟨x,f,g,r1,l⟩:=m;obtain⟨d,rfl,q⟩:=l
 cases r1
 exact wpAny_truthy_bool ⟨f,g,q⟩
variable {tA tB':TT}{rest:List Expr}
def tAnd (t u:TT):TT:=λb H Q=>t b H λc a=>if c=true then u b a Q else Q false a
def tOr (t u:TT):TT:=λb H Q=>t b H λc a=>if c=true then Q true a else u b a Q
def tNot (t:TT):TT:=λb H Q=>t b H λc a=>Q (!c) a
def zgs (d:PT X a tA):PW X (.BoolOp .And [a] pos) tA:=by
 intro wh b s f H Q I h;refine isTrue_and (thn (d b s f H Q I h) λc g e =>?_)
 cases c with
 | true=>exact isTrue_and_nil e
 | false=>exact e
def zj1 (d:PT X a tA):PW X (.BoolOp .Or [a] pos) tA:=by
 intro wh b s f H Q I h;refine isTrue_or (thn (d b s f H Q I h) λc g e =>?_)
 cases c with
 | false=>exact isTrue_or_nil e
 | true=>exact e
def zj2 (j:PT X a tA)(l:PW X (.BoolOp .And (b::rest) pos) tB'):PW X (.BoolOp .And (a::b::rest) pos) (tAnd tA tB'):=by
 intro wh d s i H Q I h;refine isTrue_and (thn (j d s i H _ I h) λc m n =>?_);obtain⟨e,f,g⟩:=n
 cases c with
 | true=>exact l wh d m i e Q f g
 | false=>exact⟨e,f,g⟩
def zlz (j:PT X a tA)(l:PW X (.BoolOp .Or (b::rest) pos) tB'):PW X (.BoolOp .Or (a::b::rest) pos) (tOr tA tB'):=by
 intro wh d s i H Q I h;refine isTrue_or (thn (j d s i H _ I h) λc m n =>?_);obtain⟨e,f,g⟩:=n
 cases c with
 | true=>exact⟨e,f,g⟩
 | false=>exact l wh d m i e Q f g
def zj4 (e:PT X a tA):PT X (.UnaryOp .Not a pos) (tNot tA):=by
 intro b s f H Q I h;exact isTrue_not (e b s f H (λc d=>Q (!c) d) I h)
end
def SqL (K:W.Frag)(H:Hp)(a:Addr)(xs:List V):Prop:=
 Rd H a (.lst xs)\/
  ∃(o:Obj) (b:Array Value) (n:Nat),K.lookup a=some o/\o.cls = .type "list"/\o.dict=none/\o.data = .seq b n/\b.size<=sizeLine/\Vals xs b.toList
def SqT (K:W.Frag)(H:Hp)(a:Addr)(xs:List V):Prop:=
 Rd H a (.tup xs)\/
  ∃(o:Obj) (b:Array Value) (n:Nat),K.lookup a=some o/\o.cls = .type "tuple"/\o.data = .seq b n/\b.size<=sizeLine/\Vals xs b.toList/\o.dict=none
noncomputable def absV:Value->Option V
 | .none=>some .non
 | .bool b=>some (.bl b)
 | .int i _=>some (.int i)
 | .str x _=>some (.str x)
 | .bytes b _=>some (.byt b)
 | .float b _=>some (.flt b)
 | .ref a=>some (.ref a)
 | .type n=>some (.ty n)
 | _=>none
def RelV.abs (r:RelV x u):absV u=some x:=by
 cases x with
 | non=>cases r;rfl
 | bl _=>cases r;rfl
 | int _=>obtain⟨t,rfl⟩:=r;rfl
 | str _=>obtain⟨t,rfl⟩:=r;rfl
 | byt _=>obtain⟨t,rfl⟩:=r;rfl
 | flt _=>obtain⟨t,rfl⟩:=r;rfl
 | ref _=>cases r;rfl
 | ty _=>cases r;rfl
def RelV.inj {x y:V}{u:Value}(r:RelV x u)(q:RelV y u):x=y:=wY (r.abs.symm.trans q.abs)
theorem Vals.inj:∀{xs ys:List V}{us:List Value},Vals xs us->Vals ys us->xs=ys
 | _,_,_,.nil,.nil=>rfl
 | _,_,_,.cons r t,.cons a b=>by rw[r.inj a,Vals.inj t b]
section
variable {X:Cx}{pins:List (Addr × Obj)}{σ:St}{H:Hp}{s:Shared}{a:Addr}{xs ys:List V}
def SqL.of {K:W.Frag}(h:H a=some (.lst xs)):SqL K H a xs :=.inl (.inl h)
def SqT.of {K:W.Frag}(h:H a=some (.tup xs)):SqT K H a xs :=.inl (.inl h)
def Inv.list (I:Inv X pins σ H s)(h:SqL X.K H a xs):∃b:List Value,Vals xs b/\PlainL s.heap a b.toArray/\xs.length<=sizeLine:=by
 rcases h with h | ⟨o,b,n,g,d,f,i,j,r⟩
 .obtain⟨z,b,n,r,e⟩:=h.ok I.hok;exact⟨b,r,⟨_,n,e,rfl,rfl,rfl⟩,z⟩
 .refine⟨b.toList,r,⟨o,n,I.kIn a o g,d,f,by simpa using i⟩,?_⟩;have e:=r.length;simp only[vW] at e;lia
def Inv.tuple (I:Inv X pins σ H s)(h:SqT X.K H a xs):∃b:List Value,Vals xs b/\IsTup s.heap a b.toArray/\xs.length<=sizeLine:=by
 rcases h with h | ⟨o,b,n,f,d,g,i,r,_⟩
 .obtain⟨z,b,r,p,_⟩:=h.ok I.hok;exact⟨b,r,p,z⟩
 .refine⟨b.toList,r,⟨o,I.kIn a o f,d,n,by simpa using g⟩,?_⟩;have e:=r.length;simp only[vW] at e;lia
def Inv.tupNoD (I:Inv X pins σ H s)(h:SqT X.K H a xs):NoD s.heap a:=by
 rcases h with h | ⟨o,e,n,d,f,g,i,r,b⟩
 .exact(h.ok I.hok).2.choose_spec.2.2
 .exact⟨o,I.kIn a o d,b⟩
def Inv.list_inj (I:Inv X pins σ H s)(h:SqL X.K H a xs)(h':SqL X.K H a ys):xs=ys:=by
 obtain⟨b,r,⟨o,n,e,_,_,d⟩,_⟩:=I.list h;obtain⟨its',j,⟨m,l,g,_,_,f⟩,_⟩:=I.list h';rw[e] at g;cases g;rw[d] at f
 injection f with i _
 have:b=its':=by simpa using congrArg Array.toList i
 subst this;exact r.inj j
def Inv.tuple_inj (I:Inv X pins σ H s)(h:SqT X.K H a xs)(h':SqT X.K H a ys):xs=ys:=by
 obtain⟨b,r,⟨o,e,_,n,d⟩,_⟩:=I.tuple h;obtain⟨its',j,⟨m,g,_,l,f⟩,_⟩:=I.tuple h';rw[e] at g;cases g;rw[d] at f
 injection f with i _
 have:b=its':=by simpa using congrArg Array.toList i
 subst this;exact r.inj j
end
noncomputable abbrev Cx.wish (X:Cx)(E:WvP):Cx:={ X with xe:=E }
abbrev Cx.nox (X:Cx):Cx:=X.wish λ_ _=>False
theorem Cx.Ok.wish {X:Cx}(ok:X.Ok)(E:WvP):(X.wish E).Ok:=
 ⟨ok.mod,ok.kind,ok.glob,ok.blt,ok.above,ok.inj,ok.has,ok.cab,ok.hd,ok.frames,ok.stk,ok.exf,ok.bs,ok.bsz,ok.noex,ok.exfs,ok.funs,ok.frf,ok.tbs⟩
def Cx.Ok.unwish {X:Cx}{E:WvP}(ok:(X.wish E).Ok):X.Ok:=
 ⟨ok.mod,ok.kind,ok.glob,ok.blt,ok.above,ok.inj,ok.has,ok.cab,ok.hd,ok.frames,ok.stk,ok.exf,ok.bs,ok.bsz,ok.noex,ok.exfs,ok.funs,ok.frf,ok.tbs⟩
section
variable {X:Cx}{pins:List (Addr × Obj)}{σ:St}{H:Hp}{s:Shared}{E:WvP}
theorem Inv.wish (I:Inv X pins σ H s)(E:WvP):Inv (X.wish E) pins σ H s:=⟨I.ok.wish E,I.os,I.bare,I.base,I.loc,I.cell,I.free,I.freeC,I.pin,I.hok,I.len⟩
theorem Inv.unwish (I:Inv (X.wish E) pins σ H s):Inv X pins σ H s:=⟨I.ok.unwish,I.os,I.bare,I.base,I.loc,I.cell,I.free,I.freeC,I.pin,I.hok,I.len⟩
theorem SP.unwish {D:Ends}{f:Flow}{s':Shared}(h:SP (X.wish E) pins D f s'):SP X pins D f s':=by
 cases f with
 | next=>obtain⟨a,b,I,q⟩:=h;exact⟨a,b,I.unwish,q⟩
 | brk=>obtain⟨a,b,I,q⟩:=h;exact⟨a,b,I.unwish,q⟩
 | cont=>obtain⟨a,b,I,q⟩:=h;exact⟨a,b,I.unwish,q⟩
 | ret u=>obtain⟨v,a,b,I,r,q⟩:=h;exact⟨v,a,b,I.unwish,r,q⟩
theorem PSs.nox {st:List Stmt}{t:TS}(h:PSs X.nox st t):PSs X st t:=λa s d H D I b=>
 vH (h a s d H D (I.wish _) b) (λ_ _ q=>q.unwish) λ_ _ z=>False.elim z
end
section
variable {X:Cx}{st:Stmt}{rest:List Stmt}{t u:TS}{e:Expr}{te:TE}{pos:Pos}
def zhS:TS:=λD a H=>D.nx a H
def tSeq (t u:TS):TS:=λD a H=>t { D with nx:=u D } a H
def zgx:PSs X [] zhS:=λ_ _ a H _ I h=>wpAny_execs_nil ⟨a,H,I,h⟩
def zdD (g:PS X st t)(i:PSs X rest u):PSs X (st::rest) (tSeq t u):=by
 intro a s l H D I h;refine wpAny_execs_cons (thn (g a s l H { D with nx:=u D } I h) λf j q =>?_)
 cases f with
 | next=>
  obtain⟨b,d,e,q⟩:=q;exact i a j b d D e q
 | ret v=>exact q
 | brk=>exact q
 | cont=>exact q
def zgw (b:PS X st t):PSs X [st] t:=by
 intro a s d H D I h;refine wpAny_execs_cons (thn (b a s d H D I h) λf e q =>?_)
 cases f with
 | next=>exact wpAny_execs_nil q
 | ret v=>exact q
 | brk=>exact q
 | cont=>exact q
def Inv.quiet {a:List (Addr × Obj)}{b:St}{H:Hp}{s:Shared}(I:Inv X a b H s):interactive X.env=false:=by simp[interactive,I.ok.kind]
def zhT (d:TE):TS:=λD a H=>d a H λ_ b=>D.nx a b
def zgy (g:PE X e te)(i:autoParam (swapsWith e none pos.line X.env=pure false) jA1):PS X (.Expr e pos) (zhT te):=by
 intro a s b H D I h;exact wpAny_Expr_any (thn (g a s b H _ I h) λv l ⟨x,d,f,r1,j⟩=>⟨b,d,f,j⟩) I.quiet i
def tRet (a:TE):TS:=λD b H=>a b H D.rt
def zj7 (g:PE X e te):PS X (.Return (some e) pos) (tRet te):=by
 intro a s b H D I h;exact wpAny_Return_some (thn (g a s b H _ I h) λv j ⟨x,d,f,r1,i⟩=>⟨x,b,d,f,r1,i⟩)
def tIfS (c:TT)(t u:TS):TS:=λD a H=>c a H λb d=>if b=true then t D a d else u D a d
def zlA {c:Expr}(o:PT X c tc)(m:PSs X a t)(n:PSs X b u):PS X (.If c a b pos) (tIfS tc t u):=by
 intro e s f H D I h;refine wpAny_If (thn (o e s f H _ I h) λd l p =>?_);obtain⟨g,i,j⟩:=p
 cases d with
 | true=>exact m e l f g D i j
 | false=>exact n e l f g D i j
def zeO:TS:=λ_ _ _=>False
def zdF:PS X st zeO:=λ_ _ _ _ _ _ h=>h.elim
end
abbrev TG:=V->St->Hp->(St->Hp->Prop)->Prop
abbrev TGs:=List V->St->Hp->(St->Hp->Prop)->Prop
def PG (X:Cx)(a:Expr)(t:TG):Prop:=
 ∀(b:List (Addr × Obj)) (s:Shared) (f:St) (H:Hp) (v:V) (u:Value) (Q:St->Hp->Prop),Inv X b f H s->RelV v u->t v f H Q->
  wpAny (model X.prog X.w) X.A (assign a X.env u) (λ_ g=>∃d e,Inv X b d e g/\Q d e) X.xe s
def PGs (X:Cx)(ts:List Expr)(t:TGs):Prop:=
 ∀(a:List (Addr × Obj)) (s:Shared) (f:St) (H:Hp) (vs:List V) (e:List Value) (Q:St->Hp->Prop),Inv X a f H s->Vals vs e->t vs f H Q->
  wpAny (model X.prog X.w) X.A (assignInOrder ((assignEach ts X.env).map (·.2)) e) (λ_ g=>∃b d,Inv X a b d g/\Q b d) X.xe s
abbrev TSet:=V->V->V->Hp->(Hp->Prop)->Prop
def PSet (X:Cx)(t:TSet):Prop:=
 ∀(a:List (Addr × Obj)) (s:Shared) (f:St) (H:Hp) (o i v:V) (e d u:Value) (Q:Hp->Prop),Inv X a f H s->RelV o e->RelV i d->RelV v u->t o i v H Q->
  wpAny (model X.prog X.w) X.A (setItem e d u) (λ_ g=>∃b,Inv X a f b g/\Q b) X.xe s
section
variable {X:Cx}{pos:Pos}
def z2S (i:Nat):TG:=λv a H Q=>Q (a.set i (some v)) H
def zbv (d:X.N.Nodup)(f:X.N[i]? = some x)(g:Loc X.env.scope x)(e:autoParam (X.fn x=true\/X.env.scope.names.lookup x=some .local) jD1):PG X (.Name x pos) (z2S i):=by
 intro a s l H v u Q I r h;exact wpAny_assign_Name (z6j I d f g r (λj b=>⟨_,H,b,h⟩) e)
def gNil:TGs:=λvs a H Q=>vs=[]/\Q a H
def zeh (t:TG)(u:TGs):TGs:=λvs d H Q=>∃v r,vs=v::r/\t v d H λa b=>u r a b Q
def zgF:PGs X [] gNil:=by
 intro a s b H vs d Q I r h;obtain⟨e,h⟩:=h;subst e
 cases r
 exact assignInOrder_nil ⟨b,H,I,h⟩
def zdH {t:TG}(i:PG X e t)(j:PGs X es u)
  (l:autoParam ((assignEach (e::es) X.env).map (·.2)=assign e X.env::(assignEach es X.env).map (·.2)) jA1):PGs X (e::es) (zeh t u):=by
 intro a s q H vs w Q I r h;obtain⟨v,x,g,h⟩:=h;subst g
 cases r with
 | cons r n=>
  rw[l];refine assignInOrder_cons (thn (i a s q H _ _ _ I r h) λ_ o p =>?_);obtain⟨b,d,f,m⟩:=p;exact j a o b d _ _ Q f n m
def gTup (K:W.Frag)(n:Nat)(t:TGs):TG:=λv d H Q=>∃a b,v = .ref a/\SqT K H a b/\b.length=n/\t b d H Q
def zjd {k:Nat}{t:TGs}(q:X.calm=true)(h:PGs X es t)
  (x:autoParam ((assignEach es X.env).length=n) jA1) (f:autoParam ((assignEach es X.env).findIdx? (·.1)=none) jA1):PG X (.Tuple es k pos) (gTup X.K n t):=by
 intro d s j H v u Q I r g;obtain⟨a,E,m,y,w,g⟩:=g;subst m
 cases r
 obtain⟨C,i,z,F⟩:=I.tuple y;refine assign_Tuple_tuple (I.ok.hd q) z (by simp[x, <- w,i.length]) f λp A =>?_;have l:Inv X d j H { s with heap:=p }:=I.kept (t':=s.toks) λb o e=>A b o (wJ (wu e)) e;exact h d _ j H E _ Q l (by simpa using i) g
def gSub (f ti:TE)(t:TSet):TG:=λv a H Q=>f a H λo b=>ti a b λi d=>t o i v d λe=>Q a e
def zje {g ti:TE}{t:TSet}(A:PE X o g)(z:PE X i ti)(C:PSet X t)
  (w:autoParam (∀v,assign (.Subscript o i pos) X.env v=(do
   let b <- holding [v] (eval o X.env)
   let d <- holding [v,b] (eval i X.env)
   standAt pos
   holding [v,b,d] (setItem b d v)
   release [v,b,d] [])) jC1):PG X (.Subscript o i pos) (gSub g ti t):=by
 intro a s f H v u Q I r h;rw[w];refine wc (v8 (thn (A a s f H _ I h) λb J e =>?_));obtain⟨x,j,n,r1,E⟩:=e;refine wc (v8 (thn (z a J f j _ n E) λd K e =>?_));obtain⟨y,l,p,r2,F⟩:=e;refine wc (wpAny_standAt (wc (v8 (thn (C a K f l x y v b d u _ p r1 r2 r F) λ_ L e =>?_))));obtain⟨m,q,G⟩:=e;exact wpAny_release ⟨f,m,q,G⟩
def tAsg (d:TE)(g:TG):TS:=λD a H=>d a H λx b=>g x a b D.nx
def zja (j:PE X e te)(l:PG X tg g)(m:autoParam (swapsWithSole [tg] e pos.line X.env=pure false) jA1)(n:autoParam (swappedStores [tg] e X.env=pure none) jA1)
  (i:autoParam ((assignEach [tg] X.env).map (·.2)=[assign tg X.env]) jA1):PS X (.Assign [tg] e pos) (tAsg te g):=by
 intro a s b H D I h;refine wpAny_Assign_stores (thn (j a s b H _ I h) λv p r =>?_) m n;obtain⟨x,d,f,r1,o⟩:=r;rw[i];exact thn (l a p b d x v _ f r1 o) λ_ t q=>q
def zj6 {i:Nat}{x:Str}(g:X.N.Nodup)(m:X.N[i]? = some x)(o:Loc X.env.scope x)(j:PE X e te)(n:autoParam (swapsWith e (some (.Name x pos')) pos.line X.env=pure false) jA1)(l:autoParam (X.fn x=true\/X.env.scope.names.lookup x=some .local) jD1):
  PS X (.Assign [.Name x pos'] e pos) (tAsg te (z2S i)):=by
 intro a s r H D I h;refine wpAny_Assign_Name (thn (j a s r H _ I h) λv t q =>?_) n;obtain⟨y,b,d,r1,p⟩:=q;exact z6j d g m o r1 (λu f=>⟨_,b,f,p⟩) l
def zeN (c:TT)(h:TS):TS:=λD a H=>∃W:Nat->St->Hp->Prop,(∃m,W m a H)/\∀m a H,W m a H->
 c a H λb f=>if b=true then ∃N:St->Hp->Prop,(∀d e,N d e->∃g,g<m/\W g d e)/\h { D with nx:=N,ct:=N,bk:=D.nx } a f else D.nx a f
def zdE {c:Expr}(C:PassesOwn (model X.prog X.w) X.A X.env X.xe)(G:PT X c tc)(F:PSs X body tb):PS X (.While c body [] pos) (zeN tc tb):=by
 intro a s S H D I h;obtain⟨W,⟨J,O⟩,turn⟩:=h;refine wpAny_While (codeAny_whileLoop (λn K=>∃i t,Inv X a i t K/\W n i t) ?_ J ⟨S,H,I,O⟩);rintro n L ⟨e,u,E,Q⟩;refine jc C (thn (G a L e u _ E (turn n e u Q)) λb M R =>?_);obtain⟨x,y,j⟩:=R
 cases b with
 | true=>
  obtain⟨N,z,j⟩:=j;rw[if_pos rfl];refine jc C (thn (F a M e x _ y j) λf T l =>?_)
  cases f with
  | next=>
   obtain⟨d,g,m,q⟩:=l;obtain⟨p,o,r⟩:=z d g q;exact⟨p,o,d,g,m,r⟩
  | cont=>
   obtain⟨d,g,m,q⟩:=l;obtain⟨p,o,r⟩:=z d g q;exact⟨p,o,d,g,m,r⟩
  | brk=>exact l
  | ret v=>exact l
 | false=>
  rw[if_neg wT];exact wpAny_execs_nil ⟨e,x,y,j⟩
end
structure It where
 go:Nat->Hp->Prop
 yld:Nat->Hp->V->Hp->Prop
 stop:Nat->Hp->Prop
def FpOk (X:Cx)(a:List (Addr × Obj))(H:Hp)(b:Addr):Prop:=
 H b=none/\b≠X.env.locals/\b ∉ X.fs/\(b∈X.ex\/X.s₀.heap.objs.size<=b)/\(∀x c,X.env.cells.lookup x=some c->c≠b)/\∀p∈X.pn++a,p.1≠b
def Inv.fpOk (I:Inv X pins σ H s)(a:s.heap.objs.size<=b)(d:H' b=none):FpOk X pins H' b:=by
 refine⟨d,jw (wL I.lt a),I.nofs a,.inr (wO I.sz a),λx c e z =>?_,λp f z =>?_⟩
 .obtain⟨v,q⟩:=I.cell x c e;exact absurd (wL q.lt (by rw[z];exact a)) (vV _)
 .exact absurd (wL (wu (I.pin p f).1) (by rw[z];exact a)) (vV _)
structure Turn (P:Program)(w:World)(K:W.Frag)(tg:Expr)(J:It)(fp:List Addr)(it:Addr)(tn:Nat->Heap->Prop):Prop where
 mem:it∈fp
 obj:∀i h,tn i h->∀b∈fp,∃o,h.get? b=some o/\∀v,o.data ≠ .cell v
 keep:∀i h h',tn i h->(∀b∈fp,∀o,h.get? b=some o->h'.get? b=some o)->tn i h'
 item:∀(X:Cx),X.prog=P->X.w=w->X.K=K->X.calm=true->∀(i:Nat) (pins:List (Addr × Obj)) (s:Shared) (σ:St) (H:Hp) (E:WvP),Inv X pins σ H s->(∀b∈fp,FpOk X pins H b)->tn i s.heap->J.go i H->
  wpAny (model P w) X.A (pyNext (.ref it)) (λr s1=>∃u,r=some u/\
   wpAny (model P w) X.A (letOwnedTupleGo tg (.ref it) u) (λ_ s2=>∃x H',Inv X pins σ H' s2/\RelV x u/\J.yld i H x H'/\tn (i+1) s2.heap/\∀b∈fp,H' b=none) E s1) E s
 done:∀(X:Cx),X.prog=P->X.w=w->X.K=K->X.calm=true->∀(i:Nat) (pins:List (Addr × Obj)) (s:Shared) (σ:St) (H:Hp) (E:WvP),Inv X pins σ H s->(∀b∈fp,FpOk X pins H b)->tn i s.heap->J.stop i H->
  wpAny (model P w) X.A (pyNext (.ref it)) (λr s1=>r=none/\Inv X pins σ H s1) E s
 self:∀(A:Around) (i:Nat) (s:Shared) (Q:WvP) (E:WvP),tn i s.heap->Q (.ref it) s->wpAny (model P w) A (pyIter (.ref it)) Q E s
abbrev TI:=St->Hp->(It->Hp->Prop)->Prop
def PIE (X:Cx)(a:List (Addr × Obj))(l:St)(j:Expr)(R:It->Hp->Prop)(e:Value)(h:Shared):Prop:=
 ∃(g:Addr) (f:List Addr) (i:Nat->Heap->Prop) (J:It) (d:Hp),e = .ref g/\Inv X a l d h/\Turn X.prog X.w X.K j J f g i/\i 0 h.heap/\(∀b∈f,FpOk X a d b)/\R J d
def PI (X:Cx)(f b:Expr)(g:TI):Prop:=
 ∀(a:List (Addr × Obj)) (s:Shared) (d:St) (H:Hp) (R:It->Hp->Prop),Inv X a d H s->g d H R->
  wpAny (model X.prog X.w) X.A (eval b X.env) (λv e=>wpAny (model X.prog X.w) X.A (pyIter v) (PIE X a d f R) X.xe e) X.xe s
def zed {vs:Array Value}(f:s.heap.get? it=some o)(b:o.cls = .type n)(d:o.data = .fields vs)
  (e:["enumerate","zip","dict_itemiterator","dict_reverseitemiterator","odict_iterator","itertools.zip_longest","itertools.pairwise"].contains n=false) (a:Q () s):wpAny M A (letOwnedTupleGo tg (.ref it) u) Q E s:=by
 unfold letOwnedTupleGo
 cases tg <;> first
  | exact wj a
  | (cases u <;> first
    | exact wj a
    | (refine wc (wpAny_load f ?_)
       rw[b,d];show wpAny M A (if (["enumerate","zip","dict_itemiterator","dict_reverseitemiterator","odict_iterator","itertools.zip_longest","itertools.pairwise"].contains n && vs[0]? == some (rawInt _))=true then _ else _) Q E s;rw[if_neg (by intro h;rw[e,Bool.false_and] at h;cases h)];exact wj a))
def Itl (K:W.Frag)(a:Addr):It:=
 ⟨λi H=>∃b x,SqL K H a b/\b[i]? = some x,λi H x d=>d=H/\∀b,SqL K H a b->b[i]? = some x,λi H=>∃b,SqL K H a b/\b.length<=i⟩
def Itt (K:W.Frag)(a:Addr):It:=
 ⟨λi H=>∃b x,SqT K H a b/\b[i]? = some x,λi H x d=>d=H/\∀b,SqT K H a b->b[i]? = some x,λi H=>∃b,SqT K H a b/\b.length<=i⟩
def Itr (b:Int)(n:Nat):It:=⟨λi _=>i<n,λi H x a=>a=H/\x = .int (b+i),λi _=>n<=i⟩
def zaJ {P:Program}{w:World}{K:W.Frag}{tg:Expr}(a it:Addr):Turn P w K tg (Itl K a) [it] it (λi h=>h.IsListIter it a i) where
 mem:=by simp
 obj:=λi h f b j=>by
  have e:b=it:=by simpa using j
  subst e;obtain⟨o,e,c,d⟩:=f;exact⟨o,e,λv z=>by rw[d] at z;cases z⟩
 keep:=λi h m f k=>f.at λo e=>k it (by simp) o e
 item:=by
  intro X G L F Q i g s R H E I n f J;subst G L F;obtain⟨xs,x,q,M⟩:=J;obtain⟨N,O,p,hz⟩:=I.list q;obtain⟨u,Y,ru⟩:=O.get M;obtain⟨r,t,U,y,A,C⟩:=n it (by simp);refine wpAny_pyNext_list_item f p.isList (x:=u) (by simpa using Y) λm l sb =>?_;have S:Inv X g R H { s with heap:=m }:=I.turned (t':=s.toks) (λb o j e=>(sb.2 b j).trans e) r t y A C;obtain⟨o,e,c,d⟩:=id l;exact⟨u,rfl,zed (s:={ s with heap:=m }) e c d (by decide) ⟨x,H,S,ru,⟨rfl,λys Z=>by rw[I.list_inj Z q];exact M⟩,l,λb j=>(n b j).1⟩⟩
 done:=by
  intro X G L F Q i g s R H E I n f J;subst G L F;obtain⟨xs,q,M⟩:=J;obtain⟨N,O,p,hz⟩:=I.list q;obtain⟨r,t,U,y,A,C⟩:=n it (by simp);have hl:=O.length;exact wpAny_pyNext_list_end (I.ok.hd Q) f p.isList (by simp;lia) λm T=>⟨rfl,I.turned (t':=s.toks) (λb o j e=>T b o j e) r t y A C⟩
 self:=λ_ _ _ _ _ f h=>wpAny_pyIter_listiter f h
def z9M {P:Program}{w:World}{K:W.Frag}{tg:Expr}(a it:Addr):Turn P w K tg (Itt K a) [it] it (λi h=>h.IsTupleIter it a i) where
 mem:=by simp
 obj:=λi h f b j=>by
  have e:b=it:=by simpa using j
  subst e;obtain⟨o,e,c,d⟩:=f;exact⟨o,e,λv z=>by rw[d] at z;cases z⟩
 keep:=λi h n f k=>f.at λo e=>k it (by simp) o e
 item:=by
  intro X J M G Q i g s R H E I q f L;subst J M G;obtain⟨xs,x,r,N⟩:=L;obtain⟨l,O,p,hz⟩:=I.tuple r;obtain⟨u,Y,ru⟩:=O.get N;obtain⟨t,y,U,A,C,F⟩:=q it (by simp);refine wpAny_pyNext_tuple_item f (show s.heap.IsTuple a l.toArray from p) (x:=u) (by simpa using Y) λn m sb =>?_;have S:Inv X g R H { s with heap:=n }:=I.turned (t':=s.toks) (λb o j e=>(sb.2 b j).trans e) t y A C F;obtain⟨o,e,c,d⟩:=id m;exact⟨u,rfl,zed (s:={ s with heap:=n }) e c d (by decide) ⟨x,H,S,ru,⟨rfl,λys Z=>by rw[I.tuple_inj Z r];exact N⟩,m,λb j=>(q b j).1⟩⟩
 done:=by
  intro X J M G Q i g s R H E I q f L;subst J M G;obtain⟨xs,r,N⟩:=L;obtain⟨l,O,p,hz⟩:=I.tuple r;obtain⟨t,y,U,A,C,F⟩:=q it (by simp);have hl:=O.length;exact wpAny_pyNext_tuple_end (I.ok.hd Q) f (show s.heap.IsTuple a l.toArray from p) (by simp;lia) λn T=>⟨rfl,I.turned (t':=s.toks) (λb o j e=>T b o j e) t y A C F⟩
 self:=λ_ _ _ _ _ f h=>wpAny_pyIter_tupleiter f h
def z9N {P:Program}{w:World}{K:W.Frag}{S:Expr}(it:Addr)(m:Int)(n:Nat):Turn P w K S (Itr m n) [it] it (λi h=>IsRangeIter h it (m+(i:Nat)*1) ((n:Int) - (i:Nat)) 1) where
 mem:=by simp
 obj:=λi h a b f=>by
  have e:b=it:=by simpa using f
  subst e;exact⟨_,a,λv z=>by
   have T:Data.fields _=Data.cell v:=z
   cases T⟩
 keep:=λi h j a k=>k it (by simp) _ a
 item:=by
  intro X A G y C i d s L H E I l a F;subst A G y;obtain⟨p,q,O,r,u,x⟩:=l it (by simp);have W:=Walks.range (prog:=X.prog) (w:=X.w) (I.ok.hd C) it m 1 n;refine W.item i s _ _ F a λv j J Q g R =>?_;obtain⟨t,rfl⟩:=Q;have M:Inv X d L H { s with heap:=j,toks:=J }:=I.turned (λb o f e=>R b o (by simpa using f) e) p q r u x;refine⟨_,rfl,zed (s:={ s with heap:=j,toks:=J }) (n:="range_iterator") g rfl rfl (by decide) ⟨.int (m+i),H,M,⟨t,?_⟩,⟨rfl,rfl⟩,g,λb f=>(l b f).1⟩⟩;rw[Int.mul_one]
 done:=by
  intro X A G y C i d s L H E I l a F;subst A G y;obtain⟨p,q,O,r,u,x⟩:=l it (by simp);exact wpAny_pyNext_range_end (I.ok.hd C) a (by have:n<=i:=F;lia) λj N=>⟨rfl,I.turned (t':=s.toks) (λb o f e=>N b o f e) p q r u x⟩
 self:=λ_ _ _ _ _ a h=>wpAny_pyIter_rangeiter a h
section
variable {X:Cx}{tg:Expr}
def zdf {lo a:Int}{t u v:Tok}(I:Inv X pins σ H s)(h : -(2 ^ 62)<=lo)(i:lo<2 ^ 62)(j : -(2 ^ 62)<=a)(l:a<2 ^ 62)
  (q:R (Itr lo (a - lo).toNat) H):wpAny (model X.prog X.w) X.A (pyIter (.ref s.heap.objs.size)) (PIE X pins σ tg R) E { s with heap:=s.heap.push { cls :=.type "range",data :=.fields #[.int lo t,.int a u,.int 1 v] },toks:=tk }:=by
 refine wpAny_pyIter_range (IsRange.new ..) (small_one h i j l) ?_;have d:Inv X pins σ H { s with heap:=s.heap.push { cls :=.type "range",data :=.fields #[.int lo t,.int a u,.int 1 v] },toks:=tk }:=I.kept λb o e=>wf _ e;refine⟨(s.heap.push { cls :=.type "range",data :=.fields #[.int lo t,.int a u,.int 1 v] }).objs.size,[(s.heap.push { cls :=.type "range",data :=.fields #[.int lo t,.int a u,.int 1 v] }).objs.size],_,_,H,rfl,
  d.kept (t':=tk) λb o e=>wf _ e,z9N _ lo (a - lo).toNat,?_,λb m =>?_,q⟩
 .have f:lo+((0:Nat):Int)*1=lo:=by simp
  have g:(((a - lo).toNat:Nat):Int) - ((0:Nat):Int)=Builtin.Range.rangeSize lo a 1:=by rw[rangeSize_one];split <;> lia
  show IsRangeIter _ _ (lo+((0:Nat):Int)*1) ((((a - lo).toNat:Nat):Int) - ((0:Nat):Int)) 1;rw[f,g];exact wp _ rfl
 .have e:b=(s.heap.push { cls :=.type "range",data :=.fields #[.int lo t,.int a u,.int 1 v] }).objs.size:=by simpa using m
  subst e;exact d.fpOk (wt _) (d.hok.fresh (wt _))
def zkp (b:TA):TI:=λd H R=>b d H λvs a=>∃j:Int,vs=[.int j] /\ -(2 ^ 62)<=j/\j<2 ^ 62/\R (Itr 0 j.toNat) a
def zbu {p d:Pos}(l:Gl X "range")(m:X.mg "range"=none)(i:PA X [a] ta)(n:autoParam (starEach [a] X.env=[(false,eval a X.env)]) jA1):PI X tg (.Call (.Name "range" p) [a] [] d) (zkp ta):=by
 intro b s x H R I h;refine Call_ (z7G I l m boot_range (jx (thn (i d b s x H _ I h) λA z w =>?_) n rfl));obtain⟨vs,y,g,r1,f⟩:=w;obtain⟨j,e,f,o,q⟩:=f;subst e
 cases r1 with
 | cons r u=>
  cases u
  obtain⟨t,rfl⟩:=r;exact call_range_1 (zdf g (by lia) (by lia) f o (by simpa using q))
def tFor (n:TI)(g:TG)(l:TS):TS:=λD a H=>n a H λJ h=>∃W:Nat->Nat->St->Hp->Prop,(∃m,W 0 m a h)/\∀i m a H,W i m a H->
 (J.stop i H/\D.nx a H)\/(J.go i H/\∃N:St->Hp->Prop,(∀d b,N d b->∃f,f<m/\W (i+1) f d b)/\∀x b,J.yld i H x b->g x a b λe j=>l { D with nx:=N,ct:=N,bk:=D.nx } e j)
def z7n (a:List Addr)(h:Heap):List (Addr × Obj):=a.filterMap λb=>(h.get? b).map λo=>(b,o)
def z3s (a:b∈fp)(e:h.get? b=some o):(b,o)∈z7n fp h:=uX.mpr ⟨b,a,by rw[e];rfl⟩
def zbG (f:p∈z7n fp h):p.1∈fp/\h.get? p.1=some p.2:=by
 obtain⟨b,d,e⟩:=uX.mp f
 cases q:h.get? b with
 | none=>rw[q] at e;cases e
 | some o=>
  rw[q] at e;have a:(b,o)=p:=wY e;subst a;exact⟨d,q⟩
def Inv.pinned (I:Inv X pins σ H s)(j:∀b∈fp,FpOk X pins H b)(l:∀b∈fp,∃o,s.heap.get? b=some o/\∀v,o.data ≠ .cell v):Inv X (pins++z7n fp s.heap) σ H s:=
 I.pins_of λp m=>(wB.mp m).elim (λz=>I.pin p (ve _ z)) λz=>by
  obtain⟨f,e⟩:=zbG z;obtain⟨g,h,i,_⟩:=j p.1 f;obtain⟨o,a,d⟩:=l p.1 f;rw[e] at a;cases a;exact⟨e,g,h,i,d⟩
def Inv.unpinned {a pl:List (Addr × Obj)}(I:Inv X (a++pl) σ H s):Inv X a σ H s:=I.pins_of λp b=>I.pin p (ve _ (vD _ b))
def zj9 {Y:Pos}(L:PassesOwn (model X.prog X.w) X.A X.env X.xe)(hc:X.calm=true)(hi:PI X tg iter wi)(hg:PG X tg g)(t:PSs X body tb)
  (hs:autoParam (fI iter X) jC1):PS X (.For tg iter body [] Y) (tFor wi g tb):=by
 intro a s σ H D I h;refine wpAny_For (thn (hi a s σ H _ I h) λv s1 h1=>thn h1 λa2 s2 h2 =>?_) hs;obtain⟨it,G,tn,J,H2,e,I2,T,a0,f2,W,⟨m0,w0⟩,turn⟩:=h2;subst e;have y:∀{H':Hp},(∀b∈G,H' b=none)->∀b∈G,FpOk X a H' b:=λhn b t=>⟨hn b t,(f2 b t).2⟩
 refine codeAny_forLoop_any (λn s'=>∃i z H',Inv X a z H' s'/\tn i s'.heap/\(∀b∈G,H' b=none)/\W i n z H') ?_ m0 ⟨0,σ,H2,I2,a0,λb t=>(f2 b t).1,w0⟩;rintro n s3 ⟨i,C,Q,I3,O,K,w3⟩
 rcases turn i n C Q w3 with ⟨stop,qn⟩ | ⟨go,N,hN,step⟩
 .refine jc L (thn (T.done X rfl rfl rfl hc i a s3 C Q X.xe I3 (y K) O stop) λr s4 ⟨U,I4⟩ =>?_);subst U;exact wpAny_execs_nil ⟨C,Q,I4,qn⟩
 .refine jc L (thn (T.item X rfl rfl rfl hc i a s3 C Q X.xe I3 (y K) O go) λr s4 ⟨u,U,h4⟩ =>?_);subst U;refine jc L (thn h4 λ_ s5 z9 =>?_);obtain⟨x,H5,I5,r5,y5,F,S⟩:=z9;have R:=I5.pinned (y S) (T.obj _ _ F);refine jc L (thn (hg _ s5 C H5 x u _ R r5 (step x H5 y5)) λ_ s6 z9 =>?_);obtain⟨a1,H6,I6,q6⟩:=z9;refine jc L (thn (t _ s6 a1 H6 _ I6 q6) λf Z E =>?_);have q:∀{j:St}{l:Hp},Inv X (a++z7n G s5.heap) j l Z->N j l->∃m,m<n/\∃i z H',Inv X a z H' Z/\tn i Z.heap/\(∀b∈G,H' b=none)/\W i m z H':=λ{j l} p M=>by
   obtain⟨m',hm,w7⟩:=hN j l M;refine⟨m',hm,i+1,j,l,p.unpinned,T.keep _ _ _ F λb t o e=>(p.pin (b,o) (ve _ (ve _ (z3s t e)))).1,λb t =>?_,w7⟩;obtain⟨o,e,d⟩:=T.obj _ _ F b t;exact(p.pin (b,o) (ve _ (ve _ (z3s t e)))).2.1
  cases f with
  | next=>obtain⟨j,l,p,M⟩:=E;exact q p M
  | cont=>obtain⟨j,l,p,M⟩:=E;exact q p M
  | brk=>obtain⟨j,l,p,E⟩:=E;exact⟨j,l,p.unpinned,E⟩
  | ret v=>obtain⟨x7,j,l,p,r7,E⟩:=E;exact⟨x7,j,l,p.unpinned,r7,E⟩
end
abbrev R2:=V->V->Hp->VK->Prop
def OpR (X:Cx)(f:Value->Value->Sem Value)(r:R2):Prop:=
 ∀(a:List (Addr × Obj)) (s:Shared) (b:St) (H:Hp) (x y:V) (v u:Value) (Q:VK),Inv X a b H s->RelV x v->RelV y u->r x y H Q->
  wpAny (model X.prog X.w) X.A (f v u) (EP X a b Q) X.xe s
def UnR (X:Cx)(f:Value->Sem Value)(r:V->Hp->VK->Prop):Prop:=
 ∀(a:List (Addr × Obj)) (s:Shared) (b:St) (H:Hp) (x:V) (v:Value) (Q:VK),Inv X a b H s->RelV x v->r x H Q->
  wpAny (model X.prog X.w) X.A (f v) (EP X a b Q) X.xe s
def z0A (X:Cx)(f:Value)(r:List V->Hp->VK->Prop):Prop:=
 ∀(a:List (Addr × Obj)) (s:Shared) (e:St) (H:Hp) (d:List V) (b:List Value) (Q:VK),Inv X a e H s->Vals d b->r d H Q->
  wpAny (model X.prog X.w) X.A (call f b) (EP X a e Q) X.xe s
def tOp (r:R2)(e f:TE):TE:=λa H Q=>e a H λx b=>f a b λy d=>r x y d Q
def tUn (r:V->Hp->VK->Prop)(b:TE):TE:=λd H Q=>b d H λx a=>r x a Q
def rI (C:Int->Int->Prop)(g:Int->Int->V):R2:=λx y H Q=>∃i j,x = .int i/\y = .int j/\C i j/\Q (g i j) H
def rI0 (g:Int->Int->V):R2:=λx y H Q=>∃i j,x = .int i/\y = .int j/\Q (g i j) H
def rU (g:Int->V):V->Hp->VK->Prop:=λx H Q=>∃i,x = .int i/\Q (g i) H
section
variable {X:Cx}{a b c:Expr}{ta tb tc:TE}{pos:Pos}
def binT (q:PE X a ta)(r:PE X b tb){d:List (Addr × Obj)}{s:Shared}{g:St}{H:Hp}{R:V->V->Hp->Prop}(I:Inv X d g H s)
  (h:ta g H λx m=>tb g m λy e=>R x y e) {Q:WvP}{f:Value->Value->Sem Value}
  (t:∀v u l x y e,Inv X d g e l->RelV x v->RelV y u->R x y e->wpAny (model X.prog X.w) X.A (f v u) Q X.xe l):
  wpAny (model X.prog X.w) X.A (eval a X.env) (λv i=>wpAny (model X.prog X.w) X.A (eval b X.env) (λu j=>wpAny (model X.prog X.w) X.A (f v u) Q X.xe j) X.xe i) X.xe s:=by
 refine thn (q d s g H _ I h) λv E n =>?_;obtain⟨x,m,o,r1,z⟩:=n;refine thn (r d E g m _ o z) λu l n =>?_;obtain⟨y,e,p,r2,C⟩:=n;exact t v u l x y e p r1 r2 C
def zlC {op:Operator}(j:OpR X (binaryOp op) r)(g:PE X a ta)(i:PE X b tb):PE X (.BinOp a op b pos) (tOp r ta tb):=by
 intro d s o H Q I h;exact wpAny_BinOp (binT g i I h λv u n x y e f l m q=>j d n o e x y v u Q f l m q)
def zlB {op:UnaryOp}(i:UnR X (unaryOp op) r)(g:PE X a ta):PE X (.UnaryOp op a pos) (tUn r ta):=by
 intro b s d H Q I h;exact UnaryOp_ (thn (g b s d H _ I h) λv l ⟨x,e,f,r1,j⟩=>i b l d e x v Q f r1 j)
def opI {f:Value->Value->Sem Value}{C:Int->Int->Prop}{g:Int->Int->Int}
  (a:∀(i j:Int) (t u:Tok) (s:Shared) (Q:WvP) (E:WvP),C i j->Q (.int (g i j) s.toks) { s with toks:=s.toks+1 }->wpAny (model X.prog X.w) X.A (f (.int i t) (.int j u)) Q E s):
  OpR X f (rI C λi j =>.int (g i j)):=by
 intro b s n H x y v u Q I e l h;obtain⟨i,j,rfl,rfl,d,q⟩:=h;obtain⟨t,rfl⟩:=e;obtain⟨m,rfl⟩:=l;exact a i j t m s _ _ d ⟨.int (g i j),H,I.tok _,⟨_,rfl⟩,q⟩
def opI0 {f:Value->Value->Sem Value}{g:Int->Int->Int}
  (a:∀(i j:Int) (t u:Tok) (s:Shared) (Q:WvP) (E:WvP),Q (.int (g i j) s.toks) { s with toks:=s.toks+1 }->wpAny (model X.prog X.w) X.A (f (.int i t) (.int j u)) Q E s):
  OpR X f (rI0 λi j =>.int (g i j)):=by
 intro b s m H x y v u Q I d e h;obtain⟨i,j,rfl,rfl,q⟩:=h;obtain⟨t,rfl⟩:=d;obtain⟨l,rfl⟩:=e;exact a i j t l s _ _ ⟨.int (g i j),H,I.tok _,⟨_,rfl⟩,q⟩
def opB0 {f:Value->Value->Sem Value}{g:Int->Int->Bool}
  (a:∀(i j:Int) (t u:Tok) (s:Shared) (Q:WvP) (E:WvP),Q (.bool (g i j)) s->wpAny (model X.prog X.w) X.A (f (.int i t) (.int j u)) Q E s):
  OpR X f (rI0 λi j =>.bl (g i j)):=by
 intro b s m H x y v u Q I d e h;obtain⟨i,j,rfl,rfl,q⟩:=h;obtain⟨t,rfl⟩:=d;obtain⟨l,rfl⟩:=e;exact a i j t l s _ _ ⟨.bl (g i j),H,I,rfl,q⟩
def CPow (i j:Int):Prop:=0<=j/\j<=1000000/\i.natAbs<2 ^ 64
def zjD:OpR X (binaryOp .Add) (rI0 λi j =>.int (i+j)):=opI0 λ_ _ _ _ _ _ _ q=>add_int q
def zjw:OpR X (binaryOp .Sub) (rI0 λi j =>.int (i - j)):=opI0 λ_ _ _ _ _ _ _ q=>sub_int q
def zgO:OpR X (binaryOp .Mod) (rI (λ_ j=>j≠0) λi j =>.int (i.fmod j)):=opI λ_ _ _ _ _ _ _ a q=>mod_int' a q
def zjx:OpR X (binaryOp .Pow) (rI CPow λi j =>.int (i ^ j.toNat)):=opI λ_ _ _ _ _ _ _ a q=>pow_int_small a.1 a.2.1 a.2.2 q
def unI {f:Value->Sem Value}{g:Int->Int}
  (a:∀(i:Int) (t:Tok) (s:Shared) (Q:WvP) (E:WvP),Q (.int (g i) s.toks) { s with toks:=s.toks+1 }->wpAny (model X.prog X.w) X.A (f (.int i t)) Q E s):
  UnR X f (rU λi =>.int (g i)):=by
 intro b s e H x v Q I d h;obtain⟨i,rfl,q⟩:=h;obtain⟨t,rfl⟩:=d;exact a i t s _ _ ⟨.int (g i),H,I.tok _,⟨_,rfl⟩,q⟩
def zhI:UnR X (unaryOp .USub) (rU λi =>.int (-i)):=unI λ_ _ _ _ _ q=>neg_int q
end
noncomputable def scal:V->V->Bool
 | .non,.non=>true | .non,.int _=>true | .int _,.non=>true | .non,.bl _=>true | .bl _,.non=>true | .non,.str _=>true | .str _,.non=>true
 | .int _,.int _=>true | .bl _,.bl _=>true | .str _,.str _=>true | .byt _,.byt _=>true
 | .int _,.str _=>true | .str _,.int _=>true | .bl _,.str _=>true | .str _,.bl _=>true
 | _,_=>false
def rEq:R2:=λx y H Q=>scal x y=true/\Q (.bl (decide (x=y))) H
def rNe:R2:=λx y H Q=>scal x y=true/\Q (.bl (!decide (x=y))) H
def zcp:decide (V.int i=V.int j)=(i == j):=by
 rw[jW];simp
def zfw:decide (V.bl i=V.bl j)=(i == j):=by
 rw[jW];simp
def zco:decide (V.str i=V.str j)=(i == j):=by
 rw[jW];simp
def zcq:decide (V.byt i=V.byt j)=(i.toList == j.toList):=by
 rw[jW]
 cases i
 cases j
 simp
section
variable {X:Cx}{a b c:Expr}{ta tb tc:TE}{pos:Pos}
def z0x {k a:Bool}(I:Inv X pins σ H s)(q:Q (.bl k) H)(e:k=a):EP X pins σ Q (.bool a) s:=by
 subst e;exact⟨.bl k,H,I,rfl,q⟩
def zlL:OpR X (compareOp .Eq) rEq:=by
 intro f s g H x y v u Q I e a h;obtain⟨d,q⟩:=h
 cases x with
 | non=>
  cases e
  cases y with
  | non=>cases a;exact PySem.EqNone.eq_none_none (z0x I q (by simp))
  | bl j=>cases a;exact PySem.EqNone.eq_none_bool (z0x I q (by simp))
  | int j=>obtain⟨b,rfl⟩:=a;exact PySem.EqNone.eq_none_int (z0x I q (by simp))
  | str j=>obtain⟨b,rfl⟩:=a;exact PySem.EqNone.eq_none_str (z0x I q (by simp))
  | _=>exact absurd (show false=true from d) wT
 | bl i=>
  cases e
  cases y with
  | non=>cases a;exact PySem.EqNone.eq_bool_none (z0x I q (by simp))
  | bl j=>cases a;exact eq_bool (z0x I q zfw)
  | str j=>obtain⟨b,rfl⟩:=a;exact PySem.EqMixed.eq_bool_str (z0x I q (by simp))
  | _=>exact absurd (show false=true from d) wT
 | int i=>
  obtain⟨t,rfl⟩:=e
  cases y with
  | non=>cases a;exact PySem.EqNone.eq_int_none (z0x I q (by simp))
  | int j=>obtain⟨b,rfl⟩:=a;exact eq_int (z0x I q zcp)
  | str j=>obtain⟨b,rfl⟩:=a;exact PySem.EqMixed.eq_int_str (z0x I q (by simp))
  | _=>exact absurd (show false=true from d) wT
 | str i=>
  obtain⟨t,rfl⟩:=e
  cases y with
  | non=>cases a;exact PySem.EqNone.eq_str_none (z0x I q (by simp))
  | bl j=>cases a;exact PySem.EqMixed.eq_str_bool (z0x I q (by simp))
  | int j=>obtain⟨b,rfl⟩:=a;exact PySem.EqMixed.eq_str_int (z0x I q (by simp))
  | str j=>obtain⟨b,rfl⟩:=a;exact eq_str (z0x I q zco)
  | _=>exact absurd (show false=true from d) wT
 | byt i=>
  obtain⟨t,rfl⟩:=e
  cases y with
  | byt j=>obtain⟨b,rfl⟩:=a;exact W.eq_bytes (z0x I q zcq)
  | _=>exact absurd (show false=true from d) wT
 | _=>cases y <;> exact absurd (show false=true from d) wT
def zlH:OpR X (compareOp .NotEq) rNe:=by
 intro f s g H x y v u Q I e a h;obtain⟨d,q⟩:=h
 cases x with
 | non=>
  cases e
  cases y with
  | non=>cases a;exact PySem.EqNone.ne_none_none (z0x I q (by simp))
  | bl j=>cases a;exact PySem.EqNone.ne_none_bool (z0x I q (by simp))
  | int j=>obtain⟨b,rfl⟩:=a;exact PySem.EqNone.ne_none_int (z0x I q (by simp))
  | str j=>obtain⟨b,rfl⟩:=a;exact PySem.EqNone.ne_none_str (z0x I q (by simp))
  | _=>exact absurd (show false=true from d) wT
 | bl i=>
  cases e
  cases y with
  | non=>cases a;exact PySem.EqNone.ne_bool_none (z0x I q (by simp))
  | bl j=>cases a;exact ne_bool (z0x I q (congrArg not zfw))
  | str j=>obtain⟨b,rfl⟩:=a;exact PySem.EqMixed.ne_bool_str (z0x I q (by simp))
  | _=>exact absurd (show false=true from d) wT
 | int i=>
  obtain⟨t,rfl⟩:=e
  cases y with
  | non=>cases a;exact PySem.EqNone.ne_int_none (z0x I q (by simp))
  | int j=>obtain⟨b,rfl⟩:=a;exact ne_int (z0x I q (congrArg not zcp))
  | str j=>obtain⟨b,rfl⟩:=a;exact PySem.EqMixed.ne_int_str (z0x I q (by simp))
  | _=>exact absurd (show false=true from d) wT
 | str i=>
  obtain⟨t,rfl⟩:=e
  cases y with
  | non=>cases a;exact PySem.EqNone.ne_str_none (z0x I q (by simp))
  | bl j=>cases a;exact PySem.EqMixed.ne_str_bool (z0x I q (by simp))
  | int j=>obtain⟨b,rfl⟩:=a;exact PySem.EqMixed.ne_str_int (z0x I q (by simp))
  | str j=>obtain⟨b,rfl⟩:=a;exact ne_str (z0x I q (congrArg not zco))
  | _=>exact absurd (show false=true from d) wT
 | byt i=>
  obtain⟨t,rfl⟩:=e
  cases y with
  | byt j=>obtain⟨b,rfl⟩:=a;exact W.ne_bytes (z0x I q (congrArg not zcq))
  | _=>exact absurd (show false=true from d) wT
 | _=>cases y <;> exact absurd (show false=true from d) wT
def zlI:OpR X (compareOp .Lt) (rI0 λi j =>.bl (decide (i<j))):=opB0 λ_ _ _ _ _ _ _ q=>lt_int q
def zlJ:OpR X (compareOp .LtE) (rI0 λi j =>.bl (decide (i<=j))):=opB0 λ_ _ _ _ _ _ _ q=>le_int q
def zlK:OpR X (compareOp .Gt) (rI0 λi j =>.bl (decide (j<i))):=opB0 λ_ _ _ _ _ _ _ q=>gt_int q
def zjA:OpR X (compareOp .Is) (λx y H Q=>y = .non/\Q (.bl (decide (x = .non))) H):=by
 intro a s e H x y v u Q I b d h;obtain⟨rfl,q⟩:=h
 cases d
 refine is_none_gen (z0x I q ?_)
 cases x <;> first
  | (cases b;rfl)
  | (obtain⟨t,rfl⟩:=b;rfl)
def zgM:OpR X (compareOp .IsNot) (λx y H Q=>y = .non/\Q (.bl (!decide (x = .non))) H):=by
 intro a s e H x y v u Q I b d h;obtain⟨rfl,q⟩:=h
 cases d
 refine isnot_none_gen (z0x I q ?_)
 cases x <;> first
  | (cases b;rfl)
  | (obtain⟨t,rfl⟩:=b;rfl)
def zjZ (b:Expr){op:CmpOp}(h:autoParam (op ≠ .In) jB1)(e:autoParam (op ≠ .NotIn) jB1):behindInMarks op b=false:=by
 have a:(op == CmpOp.In)=false:=by cases op <;> first | rfl | exact absurd rfl h
 have d:(op == CmpOp.NotIn)=false:=by cases op <;> first | rfl | exact absurd rfl e
 cases b <;> simp[behindInMarks,a,d]
def zgG {op:CmpOp}(l:OpR X (compareOp op) r)(g:PE X a ta)(i:PE X b tb)(j:behindInMarks op b=false):PE X (.Compare a [op] [b] pos) (tOp r ta tb):=by
 intro d s p H Q I h;exact wpAny_Compare1 (binT g i I h λv u o x y e f m n q=>l d o p e x y v u Q f m n q) j
def zfP (t:TE):TT:=λb H Q=>t b H λx a=>∃k,x = .bl k/\Q k a
def zgv {op:CmpOp}(t:OpR X (compareOp op) r)(o:PE X a ta)(p:PE X b tb)(q:behindInMarks op b=false):PT X (.Compare a [op] [b] pos) (zfP (tOp r ta tb)):=by
 intro d s f H Q I h;refine wpAny_isTrue_Compare1 (thn (o d s f H _ I h) λv F ⟨x,g,l,r1,w⟩=>thn (p d F f g _ l w) λu G ⟨y,i,m,r2,A⟩=>
  thn (t d G f i x y v u _ m r1 r2 A) λc J ⟨z,j,n,E,k,e,C⟩ =>?_) q
 subst e
 cases E
 exact wpAny_truthy_bool ⟨j,n,C⟩
def z5k:(sizeLine:Nat)<2 ^ 63:=by rw[sizeLine_eq];decide
def zab:OpR X (binaryOp .Add) (λx y H Q=>∃i j,x = .str i/\y = .str j/\i.length+j.length<=sizeLine/\Q (.str (i++j)) H):=by
 intro a s l H x y v u Q I d e h;obtain⟨i,j,rfl,rfl,b,q⟩:=h;obtain⟨t,rfl⟩:=d;obtain⟨f,rfl⟩:=e;exact add_str (λf g=>⟨.str (i++j),H,I.tok _,⟨_,rfl⟩,q⟩) b
def z30 {x:V}{us:List Value}(r:Vals [x] us):∃u,us=[u]/\RelV x u:=by
 cases r with
 | cons r1 r2=>cases r2;exact⟨_,rfl,r1⟩
def zhH (r:Vals [x,y] us):∃u w',us=[u,w']/\RelV x u/\RelV y w':=by
 cases r with
 | cons r1 r2=>
  cases r2 with
  | cons a b=>cases b;exact⟨_,_,rfl,r1,a⟩
def zeB:z0A X (.builtin "abs") (λxs H Q=>∃i,xs=[.int i]/\Q (.int (if i<0 then -i else i)) H):=by
 intro a s e H xs d Q I r h;obtain⟨i,rfl,q⟩:=h;obtain⟨u,rfl,t,rfl⟩:=z30 r;exact call_abs_int λu b=>⟨.int (if i<0 then -i else i),H,I.tok _,⟨_,rfl⟩,q⟩
def zcB (d:X.calm=true):z0A X (.builtin "min") (λxs H Q=>∃i j,xs=[.int i,.int j]/\Q (.int (if j<i then j else i)) H):=by
 intro b s n H xs l Q I r h;obtain⟨i,j,rfl,q⟩:=h;obtain⟨u,m,rfl,⟨t,rfl⟩,⟨f,rfl⟩⟩:=zhH r;refine min_two_ints (I.ok.hd d) λe g k=>⟨_,H,I.kept k,?_,q⟩
 by_cases a:j<i
 .rw[if_pos a,if_pos a];exact⟨_,rfl⟩
 .rw[if_neg a,if_neg a];exact⟨_,rfl⟩
def zcF:z0A X (.type "int") (λxs H Q=>(∃i,xs=[.int i]/\Q (.int i) H)\/∃k,xs=[.bl k]/\Q (.int (if k then 1 else 0)) H):=by
 intro a s d H xs b Q I r h
 rcases h with ⟨i,rfl,q⟩ | ⟨k,rfl,q⟩
 .obtain⟨u,rfl,t,rfl⟩:=z30 r;exact call_int_int ⟨.int i,H,I,⟨_,rfl⟩,q⟩
 .obtain⟨u,rfl,r1⟩:=z30 r
  cases r1
  exact call_int_bool ⟨.int (if k then 1 else 0),H,I.tok _,⟨_,rfl⟩,q⟩
end
structure ObjM (h:Heap)(x dx C:Addr)(mA:WmP):Prop where
 obj:h.get? x=some (W.instObj C dx)
 ns:h.Ns1 dx mA
 ne:dx≠x
set_option tactic.hygienic true in
def zbV {h:Heap}{f:WmP}(n:h.Ns1 dx f):∃g,h.get? dx=some g/\∀name,W.lookIn name g=some (f name):=by
 obtain⟨o,d,s,p,j,l,_,m⟩:=n;refine⟨o,p,λname =>?_⟩;have e:=m name;unfold nsFind findBy at e;rw[<- Array.find?_toList] at e;unfold W.lookIn;rw[j];dsimp only
 split
 .rename_i y q
  rw[q] at e;exact congrArg some e
 .rename_i q
  rw[q] at e;have a:d.toList.any (·.refKey)=false:=by
   rw[List.any_eq_false];intro y r;obtain⟨z,t,b⟩:=l y (Array.mem_toList_iff.mp r);simp[DictEntry.refKey,b]
  have i:¬ d.toList.any (·.refKey)=true:=by rw[a];exact wT
  rw[if_neg i];exact congrArg some e
def ObjM.look (I:ObjM h x dx C mA):∃a,W.InstAt h x (W.instObj C dx) C (some a)/\∀name,W.lookIn name a=some (mA name):=
 let ⟨a,d,b⟩:=zbV I.ns
 ⟨a,⟨I.obj,rfl,rfl,d⟩,b⟩
section
variable {P:Program}{w:World}{H H':Hp}{h h':Heap}{a C dx:Addr}{fs fs':List (Str × V)}
def zhc (g:HOk P w H h)(e:H a=some (.ins C dx fs)):∃b,ObjM h a dx C b/\(∀f,RelO (fs.lookup f) (b f))/\PySem.Within b (fs.map (·.1))/\fs.length<=1000/\H dx=some (.own a):=by
 obtain⟨d,z,ne,i,b,n,r,q⟩:=(show z1m P w H h a (.ins C dx fs) from g a _ e)
 exact⟨b,⟨i,n,ne⟩,r,q,z,d⟩
end
structure Cls (K:W.Frag)(C:Addr):Prop where
 pg:W.plainGet K C Str.empty=true
 hd:W.hasDictIn K C=true
 po:W.plainOver K C=true
 sa:W.findIn K (.ref C) "__setattr__"=some (some (.builtin "object.__setattr__"))
def Cls.get {K:W.Frag}{C:Addr}(c:Cls K C)(f:Str):W.plainGet K C f=true:=c.pg
section
variable {X:Cx}{pins:List (Addr × Obj)}{σ:St}{H:Hp}{s:Shared}{A:Around}{E:WvP}{Q:WvP}{c:Value}{b:Bool}
inductive TyOf (K:W.Frag) (H:Hp):V->Value->Prop where
 | non:TyOf K H .non (.type "NoneType")
 | bl (x:Bool):TyOf K H (.bl x) (.type "bool")
 | int (i:Int):TyOf K H (.int i) (.type "int")
 | str (x:Str):TyOf K H (.str x) (.type "str")
 | flt (x:UInt64):TyOf K H (.flt x) (.type "float")
 | lst {a:Addr}{xs:List V}(e:H a=some (.lst xs)):TyOf K H (.ref a) (.type "list")
 | frz {a:Addr}{o:Obj}{xs:List V}(e:H a=some (.frz o (.lst xs))):TyOf K H (.ref a) (.type "list")
 | tup {a:Addr}{xs:List V}(e:H a=some (.tup xs)):TyOf K H (.ref a) (.type "tuple")
 | dK {a:Addr}{kvs:List (Key × V)}(e:H a=some (.dK kvs)):TyOf K H (.ref a) (.type "dict")
 | dT {a:Addr}{kvs:List (List Key × V)}(e:H a=some (.dT kvs)):TyOf K H (.ref a) (.type "dict")
 | ins {a C dx:Addr}{fs:List (Str × V)}(e:H a=some (.ins C dx fs)) (cl:Cls K C) (ha:W.findIn K (.ref C) "__class__"=some (some (.builtin "object.__class__")))
   (hn:W.specialIn K (.builtin "object.__class__") "__get__"=some (some (.builtin "getset_descriptor.__get__"))) (htk:W.takesIn K (.builtin "object.__class__")=some true)
   (hm:W.mroIn K C (.type "object")=some true):TyOf K H (.ref a) (.ref C)
def z4a {u t:Value}(I:Inv X pins σ H s)(f:RelV x u)(T:TyOf X.K H x t)(e:W.kitOne X.K t c=some b)(h:∀tk,Q (.bool b) { s with toks:=tk }):
  wpAny (model X.prog X.w) A (call (.builtin "isinstance") [u,c]) Q E s:=by
 cases T with
 | non=>cases (show u=Value.none from f);exact vY W.kitx_none I.kIn True.intro e (λz=>nomatch z) h
 | bl y=>cases (show u=Value.bool y from f);exact vY W.kitx_bool I.kIn True.intro e (λz=>nomatch z) h
 | int i=>obtain⟨t,q⟩:=(show ∃t,u=Value.int i t from f);cases q;exact vY W.kitx_int I.kIn True.intro e (λz=>nomatch z) h
 | str y=>obtain⟨t,q⟩:=(show ∃t,u=Value.str y t from f);cases q;exact vY W.kitx_str I.kIn True.intro e (λz=>nomatch z) h
 | flt y=>obtain⟨t,q⟩:=(show ∃t,u=Value.float y t from f);cases q;exact vY W.kitx_float I.kIn True.intro e (λz=>nomatch z) h
 | @lst a l d=>
  cases (show u=Value.ref a from f)
  obtain⟨_,_,n,_,g⟩:=(show z1m X.prog X.w H s.heap a (.lst l) from I.hok a _ d)
  exact vY W.kitx_list I.kIn ⟨_,g,rfl⟩ e (λz=>nomatch z) h
 | @frz a S l d=>
  cases (show u=Value.ref a from f)
  obtain⟨_,_,_,n,_,g⟩:=(show z1m X.prog X.w H s.heap a (.frz S (.lst l)) from I.hok a _ d)
  exact vY W.kitx_list I.kIn ⟨_,g,rfl⟩ e (λz=>nomatch z) h
 | @tup a l d=>
  cases (show u=Value.ref a from f)
  obtain⟨_,_,_,p,_⟩:=(show z1m X.prog X.w H s.heap a (.tup l) from I.hok a _ d)
  obtain⟨o,g,m,_⟩:=p;exact vY W.kitx_tuple I.kIn ⟨o,g,m⟩ e (λz=>nomatch z) h
 | @dK a j d=>
  cases (show u=Value.ref a from f)
  obtain⟨_,_,vs,_,p⟩:=(show z1m X.prog X.w H s.heap a (.dK j) from I.hok a _ d)
  obtain⟨o,L,G,g,m,_⟩:=p;exact vY W.kitx_dict I.kIn ⟨o,g,m.1⟩ e (λz=>nomatch z) h
 | @dT a j d=>
  cases (show u=Value.ref a from f)
  obtain⟨_,_,l,_,o,L,G,g,m,_⟩:=(show z1m X.prog X.w H s.heap a (.dT j) from I.hok a _ d)
  exact vY W.kitx_dict I.kIn ⟨o,g,m.1⟩ e (λz=>nomatch z) h
 | @ins a C U fs d F M R r N=>
  cases (show u=Value.ref a from f)
  obtain⟨Y,O,_⟩:=zhc I.hok d;obtain⟨Z,J,_⟩:=O.look;exact vY (W.kitx_own (F.get _) F.hd M R r N) I.kIn J e (λz=>nomatch z) h
end
structure Room (k:Nat)(A:Around):Prop where
 hd:A.handled=none
 dp:A.depth+3*k+5<recursionLimit
 un:A.units+16*k+200<cLine
def Room.mono {j k:Nat}{A:Around}(r:Room k A)(h:j<=k):Room j A:=⟨r.hd,by have:=r.dp;lia,by have:=r.un;lia⟩
theorem Room.deeper {k:Nat}(r:Room (k+1) A)(env:Env):Room k (A.deeper env):=
 ⟨r.hd,by have:=r.dp;show A.depth+1+3*k+5<_;lia,by have:=r.un;show A.units+3+16*k+200<_;lia⟩
theorem Room.depth {k:Nat}(r:Room k A):A.depth<recursionLimit:=by have:=r.dp;lia
theorem Room.units {k:Nat}{A:Around}(r:Room k A):A.units+64<cLine:=by have:=r.un;lia
def tNil:TA:=λ_ H Q=>Q [] H
def zhW (e:TE)(tr:TA):TA:=λa H Q=>e a H λx b=>tr a b λf d=>Q (x::f) d
section
variable {X:Cx}{e:Expr}{es:List Expr}{te:TE}{t:TA}{pos:Pos}
def zjn:PA X [] tNil:=λ_ _ _ _ H Q I h=>Calls.spliced_nil ⟨[],H,I,.nil,h⟩
def zgK (l:PE X e te)(m:PA X es t)(n:autoParam (sE e es X) jA1):PA X (e::es) (zhW te t):=by
 intro b a s d H Q I h;rw[n];show wpAny _ _ (spliced ((false,eval e X.env)::backTo b (starEach es X.env))) _ _ s;refine Calls.spliced_cons (thn (l a s d H _ I h) λu q w =>?_);obtain⟨x,f,i,r1,o⟩:=w;exact thn (m b a q d f _ i o) λz y ⟨r,g,j,r2,p⟩=>⟨x::r,g,j,.cons r1 r2,p⟩
def tTup (t:TA):TE:=λd H Q=>t d H λb a=>b.length<=sizeLine/\∀p,a p=none->Q (.ref p) (upd a p (.tup b))
def tLst (t:TA):TE:=λd H Q=>t d H λb a=>b.length<=sizeLine/\∀p,a p=none->Q (.ref p) (upd a p (.lst b))
def zjf {m}(h:PA X es t):PE X (.Tuple es m pos) (tTup t):=by
 intro a s o H Q I j;refine wpAny_Tuple_spliced (thn (h pos a s o H _ I j) λl d ⟨n,f,g,r,z,q⟩=>⟨by rw[<- r.length];exact z,?_⟩);have i:f d.heap.objs.size=none:=g.hok.fresh (wt _);refine⟨.ref d.heap.objs.size,upd f d.heap.objs.size (.tup n),g.laid (t':=d.toks) (λb u e=>wf _ e) (wt _) ?_,rfl,q _ i⟩;exact⟨z,l,r,⟨_,wp _ rfl,rfl,_,rfl⟩,_,wp _ rfl,rfl⟩
def zji (h:PA X es t):PE X (.List es pos) (tLst t):=by
 intro a s n H Q I j;refine wpAny_List_spliced (thn (h pos a s n H _ I j) λl d ⟨m,f,g,r,z,q⟩=>⟨by rw[<- r.length];exact z,?_⟩);have i:f d.heap.objs.size=none:=g.hok.fresh (wt _);refine⟨.ref d.heap.objs.size,upd f d.heap.objs.size (.lst m),g.laid (t':=d.toks) (λb u e=>wf _ e) (wt _) ?_,rfl,q _ i⟩;exact⟨z,l,0,r,wp _ rfl⟩
end
abbrev Sp:=List V->Hp->VK->XK->Prop
abbrev CXT:=List Env->Hp->Shared->XK->Value->Shared->Prop
structure Env0 (P:Program)(w:World)(K:W.Frag)(mg:WmP)(base:Heap)(A:Around)(outer:List Env)(s:Shared)(H:Hp):Prop where
 frames:A.frames=some outer
 mod:Mod K mg base
 bs:∀b o,base.get? b=some o->s.heap.get? b=some o/\H b=none
 bsz:base.objs.size<=s.heap.objs.size
 funs:s.heap.FunFrames base outer
 frf:∀b∈frs outer,H b=none
 tbs:Tbs K H
 hok:HOk P w H s.heap
 bare:AllBare s.gens
def CE (a:List Env)(P:Program)(w:World)(H:Hp)(s:Shared)(Q:VK)(u:Value)(s':Shared):Prop:=
 ∃v b,s'.os=s.os/\AllBare s'.gens/\Un (frs a) [] H b s.heap s'.heap/\HOk P w b s'.heap/\RelV v u/\Q v b
def CR (CX:CXT)(a:List Env)(P:Program)(w:World)(H:Hp)(s:Shared)(Q:VK)(E:XK)(r:Result)(s':Shared):Prop:=
 match r with
 | .ok (.ret u)=>CE a P w H s Q u s'
 | .ok _=>False
 | .error e=>CX a H s E e s'
structure FnOk (P:Program)(w:World)(K:W.Frag)(mg:WmP)(base:Heap)(CX:CXT)(k:Nat)(f:Addr)(fd:FuncData)(ps:List Str)(sp:Sp):Prop where
 len:∀vs H Q E,sp vs H Q E->vs.length=ps.length
 run:∀(A:Around) (outer:List Env) (s:Shared) (H:Hp) (args:Args) (us:List Value) (vs:List V) (Q:VK) (E:XK),Room k A->Env0 P w K mg base A outer s H->BindsTo s fd args (ps.zip us)->Vals vs us->sp vs H Q E->
  codeAny (model P w) A (.call (.ref f) args) (CR CX outer P w H s Q E) s
section
variable {X:Cx}{pins:List (Addr × Obj)}{σ:St}{H:Hp}{s s':Shared}
def Inv.env0 (I:Inv X pins σ H s):Env0 X.prog X.w X.K X.mg X.base X.A X.stack s H:=
 ⟨I.ok.frames,I.ok.mod,I.bs,wO I.ok.bsz I.sz,I.stack,I.stkFree,I.tbs,I.hok,I.bare⟩
def Inv.after (I:Inv X pins σ H s)(h:CE X.stack X.prog X.w H s Q u s'):EP X pins σ Q u s':=by
 obtain⟨v,i,l,a,un,e,r,q⟩:=h;obtain⟨j,g,d,t,f⟩:=s';obtain rfl:f=s.os:=l;exact⟨v,i,I.call (h':=j) (g':=g) (d':=d) (t':=t) (ch:=[]) un e a (λb z=>absurd z (by simp)),r,q⟩
end
def zfQ (sp:Sp)(a:List V)(E:XK)(t:TA):TE:=λd H Q=>t d H λvs b=>sp (vs++a) b Q E
def z3y (K:W.Frag)(d:FuncData)(ps:List Str)(b:List Value):Prop:=
 ∀(s:Shared) (a:List Value),K.In s.heap->(a++b).length=ps.length->BindsTo s d ⟨a,[]⟩ (ps.zip (a++b))
def z3y.all {K:W.Frag}{a:FuncData}{ps:List Str}(h:∀us:List Value,us.length=ps.length->bindArgs a ⟨us,[]⟩=pure (ps.zip us)):z3y K a ps []:=λs us _ b=>by
 rw[vk] at b ⊢;exact .of_eq (h us b)
def z2E (CX:CXT)(X:Cx)(E:XK):Prop:=∀(a:List (Addr × Obj)) (d:St) (H:Hp) (s:Shared) (e:Value) (b:Shared),Inv X a d H s->CX X.stack H s E e b->X.xe e b
section
variable {X:Cx}{CX:CXT}{k:Nat}{f C:Addr}{fd:FuncData}{ps:List Str}{sp:Sp}{dvs:List V}{ds:List Value}{E:XK}{x m:Str}{p pos apos:Pos}{e o:Expr}{es:List Expr}{ta:TE}{t:TA}
def zbd {vs:List V}(F:FnOk X.prog X.w X.K X.mg X.base CX k f fd ps sp)(j:Room k X.A)(d:z3y X.K fd ps ds)(g:Vals dvs ds)(l:z2E CX X E)
  (I:Inv X pins σ H s) (r:Vals vs us) (h:sp (vs++dvs) H Q E):wpAny (model X.prog X.w) X.A (call (.ref f) us) (EP X pins σ Q) X.xe s:=by
 have r2:Vals (vs++dvs) (us++ds):=r.append g;have i:(us++ds).length=ps.length:=by rw[<- r2.length];exact F.len _ _ _ _ h
 refine wpAny_call (j7 (F.run X.A X.stack s H ⟨us,[]⟩ (us++ds) (vs++dvs) Q E j I.env0 (d s us I.kIn i) r2 h) λr m a =>?_)
 cases r with
 | error e=>exact l pins σ H s e m I a
 | ok b=>
  cases b with
  | ret u=>exact I.after a
  | next=>exact False.elim a
  | brk=>exact False.elim a
  | cont=>exact False.elim a
def zgH (F:FnOk X.prog X.w X.K X.mg X.base CX k f fd ps sp)(y:Room k X.A)(n:Gl X x)(u:X.mg x=some (.ref f))(o:W.keepIn X.K (.ref f)=true)(j:z3y X.K fd ps ds)(l:Vals dvs ds)(z:z2E CX X E)
  (i:PA X (e::es) t) (b:autoParam (dB x) jB1) (m:autoParam (sE e es X) jA1) (d:autoParam (bT pos es X) jA1):
  PE X (.Call (.Name x p) (e::es) [] pos) (zfQ sp dvs E t):=by
 intro a s C H Q I h;refine uY (z8F I n u ?_ b);refine W.callWith_K (h₀:=X.base) I.ok.mod.kin o (thn (i pos a s C H _ I h) λL J ⟨vs,G,g,r,q⟩=>⟨g.kIn,?_⟩) m d;exact zbd F y j l z g r q
end
def PK (X:Cx)(b:List Keyword)(t:TA):Prop:=
 ∀(d:Pos) (a:List (Addr × Obj)) (s:Shared) (e:St) (H:Hp) (Q:List V->Hp->Prop),Inv X a e H s->t e H Q->wpAny (model X.prog X.w) X.A (evalAll ((backToKw d (keywordEach b X.env)).map (·.2))) (AP X a e Q) X.xe s
structure z3h (N P:List Str)(sc:Scope):Prop where
 kind:sc.kind = .function
 co:sc.isCoroutine=false
 gen:sc.isGenerator=false
 nd:N.Nodup
 pre:N.take P.length=P
 par:∀x∈P,sc.names.lookup x=some .local\/sc.names.lookup x=some .cell
 nofree:∀y∈sc.names,y.2 ≠ .free
theorem z84 {a:Str->Option NameKind}{x:Str}:∀{binds:List (Str × Value)}{m:WmP},(∀v,(x,v) ∉ binds)->bindL a binds m x=m x
 | [],_,_=>rfl
 | (n,v)::r,m,h=>by
  unfold bindL;rw[z84 λw b=>h w (wn _ b)]
  split
  .have:x≠n:=by rintro rfl;exact h v wv
   simp[this]
  .rfl
theorem z86 {a:Str->Option NameKind}{x:Str}:∀{binds:List (Str × Value)}{m:WmP},(∀v,(x,v) ∉ binds)->bindC a binds m x=m x
 | [],_,_=>rfl
 | (n,v)::r,m,h=>by
  unfold bindC;rw[z86 λw b=>h w (wn _ b)]
  split
  .rfl
  .have:x≠n:=by rintro rfl;exact h v wv
   simp[this]
theorem z85 {a:Str->Option NameKind}{x:Str}{v:Value}:∀{P:List Str}{vs:List Value}{i:Nat}{m:WmP},P.Nodup->P[i]? = some x->vs[i]? = some v->a x=some .local->
  bindL a (P.zip vs) m x=some v
 | [],_,_,_,_,h,_,_=>by simp at h
 | _::_,[],_,_,_,_,h,_=>by simp at h
 | p::P,w::vs,0,m,f,b,d,e=>by
  simp at b d;subst b;subst d;show bindL a ((p,w)::P.zip vs) m p=_;unfold bindL;rw[z84 λv g=>(vf.mp f).1 (uP g).1,if_pos e];simp
 | p::P,w::vs,i+1,m,f,b,d,e=>by
  show bindL a ((p,w)::P.zip vs) m x=_;unfold bindL;exact z85 (i:=i) (vf.mp f).2 (by simpa using b) (by simpa using d) e
theorem z87 {a:Str->Option NameKind}{x:Str}{v:Value}:∀{P:List Str}{vs:List Value}{i:Nat}{m:WmP},P.Nodup->P[i]? = some x->vs[i]? = some v->a x≠some .local->
  bindC a (P.zip vs) m x=some v
 | [],_,_,_,_,h,_,_=>by simp at h
 | _::_,[],_,_,_,_,h,_=>by simp at h
 | p::P,w::vs,0,m,f,b,d,e=>by
  simp at b d;subst b;subst d;show bindC a ((p,w)::P.zip vs) m p=_;unfold bindC;rw[z86 λv g=>(vf.mp f).1 (uP g).1,if_neg e];simp
 | p::P,w::vs,i+1,m,f,b,d,e=>by
  show bindC a ((p,w)::P.zip vs) m x=_;unfold bindC;exact z87 (i:=i) (vf.mp f).2 (by simpa using b) (by simpa using d) e
noncomputable def z35 (N:List Str)(vs:List V):St:=vs.map some++List.replicate (N.length - vs.length) none
noncomputable def cxOf (CX:CXT)(P:Program)(w:World)(K:W.Frag)(mg:WmP)(base:Heap)(N:List Str)(b:Str)(a:Scope)(f:Addr)(g:Value)(A:Around)(outer:List Env)(s:Shared)(H:Hp)(E:XK):Cx where
 prog:=P
 w:=w
 K:=K
 mg:=mg
 base:=base
 A:=A.deeper (envOfC b a s.heap.objs.size f g)
 N:=N
 s₀:=s
 H₀:=H
 env:=envOfC b a s.heap.objs.size f g
 outer:=outer
 stack:=envOfC b a s.heap.objs.size f g::outer
 ex:=[]
 calm:=true
 fn:=λ_=>true
 pn:=[]
 xe:=λe i=>wpAny (model P w) (A.deeper (envOfC b a s.heap.objs.size f g)) (leaving (envOfC b a s.heap.objs.size f g) e) (λ_ d=>CX outer H s E e d) (λh d=>CX outer H s E h d) i
def z9H {sc:Scope}(h:sc.names.lookup x=some .cell):∃c,(cellsFrom n sc.names []).lookup x=some c:=by
 have q:=W.cellsFrom_some sc.names n [] (.inl h);exact Option.isSome_iff_exists.mp q
def z7O {CX:CXT}{P:Program}{w:World}{K:W.Frag}{mg:WmP}{m:Heap}{N ps:List Str}{j:Str}{d:Scope}{f:Addr}{I:Value}{A:Around}{g:List Env}{s s1:Shared}{H:Hp}{E:XK}{us:List Value}{vs:List V}
  (S:z3h N ps d) (R:A.handled=none) (o:Env0 P w K mg m A g s H) (Y:vs.length=ps.length) (r:Vals vs us)
  (x:InCallC s s.heap.objs.size (bindL (envOfC j d s.heap.objs.size f I).kindOf (ps.zip us) λ_=>none) (cellsFrom (s.heap.objs.size+1) d.names []) (bindC (envOfC j d s.heap.objs.size f I).kindOf (ps.zip us) λ_=>none) s1):
  Inv (cxOf CX P w K mg m N j d f I A g s H E) [] (z35 N vs) H s1:=by
 have T:ps.length<=N.length:=by have:=congrArg List.length S.pre;rw[vh] at this;lia
 obtain⟨J,Z,rfl,M⟩:=x.done;have C:∀b:Addr,b ∉ (cxOf CX P w K mg m N j d f I A g s H E).ex:=λb z=>absurd (show b∈([]:List Addr) from z) (by simp);refine⟨⟨o.mod,S.kind,rfl,rfl,wt _,λy z c J l =>?_,λy t =>?_,λy c _ h =>?_,λ_=>R,Around.frames_deeper o.frames,.inr ⟨rfl,rfl⟩,λb z=>absurd z (C b),o.bs,o.bsz,λb _ _=>C b,λb z=>absurd z (C b),o.funs,o.frf,o.tbs⟩,
  rfl,o.bare,Un.kept M,⟨_,x.toInCall.ns,λi y v J l X =>?_⟩,λy c h=>⟨_,x.cell y c h⟩,o.hok.fresh (wt _),λy c h =>?_,λp F=>absurd (show p∈([]:List (Addr × Obj)) from F) (by simp),o.hok.kept M,?_⟩
 .exact name_of_addr x.apart (ul J) (ul l)
 .have t:d.names.lookup y=some .cell\/d.names.lookup y=some .free:=t
  rcases t with t | t
  .exact z9H t
  .exact absurd rfl (S.nofree _ (ul t))
 .exact uy (x.above y c (ul h))
 .have L:i<vs.length:=by
   unfold z35 at l
   by_cases L:i<vs.length
   .exact L
   .rw[wQ (by simpa using L)] at l;rw[ji] at l
    split at l <;> cases l
  have Q:vs[i]? = some v:=by
   unfold z35 at l;rw[wN (by simpa using L),wK] at l
   cases e:vs[i]? with
   | none=>rw[e] at l;cases l
   | some a=>rw[e] at l;cases l;rfl
  obtain⟨u,O,U⟩:=r.get Q;have F:ps[i]? = some y:=by
   rw[<- S.pre,List.getElem?_take_of_lt (by lia)];exact J
  have G:ps.Nodup:=by rw[<- S.pre];exact S.nd.sublist (List.take_sublist _ _)
  refine⟨u,U,?_⟩
  rcases S.par y (ww F) with k | k
  .exact .inl ⟨k,z85 G F O k⟩
  .obtain⟨c,e⟩:=z9H (n:=s.heap.objs.size+1) k;refine .inr ⟨.inl k,c,e,?_⟩;have q:=x.cell y c e;rw[z87 G F O (by show d.names.lookup y≠_;rw[k];decide)] at q;exact q
 .exact o.hok.fresh (uy (x.above y c (ul h)))
 .unfold z35;show _=N.length;rw[wD,wd,uo];lia
def zme {P:Program}{K:W.Frag}{mg:WmP}{k:Nat}{name d:Str}{R kV p T g ct oc:Value}
     {N ps:List Str}(lk:K.lookup f=some ⟨oc,od,.func (W.fnOf name d params body scope R kV p T an g ct),osl⟩) (F:W.codeIn K g d=true) (S:z3h N ps scope)
  (len:∀vs H Q E,sp vs H Q E->vs.length=ps.length)
  (j:∀(A:Around) (a:List Env) (s:Shared) (H:Hp) (vs:List V) (Q:VK) (E:XK),Room k (A.deeper (envOfC d scope s.heap.objs.size f g))->sp vs H Q E->
   ∃t,PSs (cxOf CX P w K mg base N d scope f g A a s H E) body t/\t { nx:=λ_ i=>Q .non i,rt:=Q } (z35 N vs) H):
  FnOk P w K mg base CX (k+1) f (W.fnOf name d params body scope R kV p T an g ct) ps sp:=by
 refine⟨len,λA a s H O us vs Q E G z Y r C =>?_⟩;have hl:=len _ _ _ _ C;have M:K.In s.heap:=z.mod.kin.keeps λb o e=>(z.bs b o e).1;have lim:s.heap.NoLimit:=z.mod.nolimit.keeps λb o e=>(z.bs b o e).1;have l:∀y∈ps.zip us,scope.names.lookup y.1=some .local\/(scope.names.lookup y.1=some .cell/\((cellsFrom (s.heap.objs.size+1) scope.names []).lookup y.1).isSome=true):=by
  rintro⟨n,v⟩ hy
  rcases S.par n (uP hy).1 with q | q
  .exact .inl q
  .exact .inr ⟨q,W.cellsFrom_some _ _ _ (.inl q)⟩
 refine codeAny_call_function G.depth (M _ _ lk) rfl S.co S.gen rfl (W.codeRec_of M F) (Y _ _ _ _ ?_);refine wpAny_newFunctionEnv_cells S.kind l λU Z s1 x =>?_;subst Z;refine⟨lim.keeps x.toInCall.keep,codeAny_func ?_⟩;obtain⟨t,ht,hq⟩:=j A a s H vs Q E (G.deeper _) C;have I:Inv (cxOf CX P w K mg base N d scope f g A a s H E) [] (z35 N vs) H s1:=z7O S G.hd z hl r x;refine vH (ht [] s1 (z35 N vs) H _ I hq) (λX s' m =>?_) λe s' m=>m;have fin:∀{h:St}{i:Hp}{v:V}{u:Value},Inv (cxOf CX P w K mg base N d scope f g A a s H E) [] h i s'->RelV v u->Q v i->CE a P w H s Q u s':=
  λ{h i v u} J L q=>⟨v,i,J.os,J.bare,J.base,J.hok,L,q⟩
 cases X with
 | ret u=>
  obtain⟨v,h,i,J,L,q⟩:=m;exact fin J L q
 | next=>
  obtain⟨h,i,J,q⟩:=m;exact fin (v:=V.non) (u:=Value.none) J rfl q
 | brk=>
  obtain⟨_,_,_,q⟩:=m;exact False.elim q
 | cont=>
  obtain⟨_,_,_,q⟩:=m;exact False.elim q
section
variable {X:Cx}{x:Str}{p pos:Pos}{e:Expr}{es:List Expr}{t:TA}{id T:String}{r:List V->Hp->VK->Prop}
def tCB (r:List V->Hp->VK->Prop)(t:TA):TE:=λb H Q=>t b H λvs a=>r vs a Q
def zdO (l:z0A X (.builtin id) r)(n:Gl X x)(o:X.mg x=none)(u:bootBuiltins x=some (.builtin id))(j:PA X (e::es) t)(q:autoParam (x≠"__name__") jB1)(b:autoParam (dB x) jB1)
  (m:autoParam (sE e es X) jA1) (d:autoParam (bT pos es X) jA1):PE X (.Call (.Name x p) (e::es) [] pos) (tCB r t):=by
 intro a s f H Q I h;refine uY (z7G I n o u ?_ q b);exact PyProof.Rows.callWith_builtin1 (thn (j pos a s f H _ I h) λz y ⟨vs,g,i,r1,w⟩=>l a y f g vs z Q i r1 w) m d
def zbx (l:z0A X (.type T) r)(n:Gl X x)(o:X.mg x=none)(u:bootBuiltins x=some (.type T))(j:PA X (e::es) t)(q:autoParam (x≠"__name__") jB1)(b:autoParam (dB x) jB1)
  (m:autoParam (sE e es X) jA1) (d:autoParam (bT pos es X) jA1):PE X (.Call (.Name x p) (e::es) [] pos) (tCB r t):=by
 intro a s f H Q I h;refine uY (z7G I n o u ?_ q b);exact jx (thn (j pos a s f H _ I h) λz y ⟨vs,g,i,r1,w⟩=>l a y f g vs z Q i r1 w) m d
end
end L2
namespace HT
open PySem PyProof.Rows
def z0q:List Int->List Int->Bool
 | [],[]=>false
 | [],_::_=>true
 | _::_,[]=>false
 | x::a,y::b=>if x=y then z0q a b else decide (x<y)
def z0R (x y:Int)(xs ys:List Int):z0q (x::xs) (y::ys)=if x=y then z0q xs ys else decide (x<y):=rfl
def z2N:z0q [] []=false:=rfl
def z3z (y:Int)(ys:List Int):z0q [] (y::ys)=true:=rfl
def z3A (x:Int)(xs:List Int):z0q (x::xs) []=false:=rfl
def z9B (A:Around)(s:Shared)(a:Int)(t:Tok)(c:Int)(u:Tok):∃e,SeqAt.EqAt A s (.int a t) (.int c u) e/\(e=true↔a=c):=
 ⟨(a == c),SeqAt.EqAt.int_int a t c u,by simp⟩
def zdd (A:Around)(s:Shared)(a:Int)(t:Tok)(c:Int)(u:Tok)(prog:Program)(w:World)(E:WvP)(Q:WvP)(h:Q (.bool (decide (a<c))) s):
  wpAny (model prog w) A (richCompare .Lt (.int a t) (.int c u)) Q E s:=
 (PyProof.Rows.lt_int h:wpAny (model prog w) A (compareOp .Lt (.int a t) (.int c u)) Q E s)
section
open PySem.SeqAt
open PySem.AutoSeq1 (wpAny_loadPart')
open PySem.MeetsSeq PySem.MeetsSeq2 PySem.MeetsSeq3
def z6d (l b:Addr)(z03 f:Array Value)(n n2:Nat)(dd Q:Option Addr)(sl W:Array (Option Value))(ns L:List Int)(X:IntsAre z03.toList ns)(Y:IntsAre f.toList L):
  Meets (Builtin.«tuple.__lt__» ⟨[.ref l,.ref b],[]⟩)
   (λ_ R s=>s.heap.get? l=some { cls :=.type "tuple",dict:=dd,data :=.seq z03 n,slots:=sl }/\s.heap.get? b=some { cls :=.type "tuple",dict:=Q,data :=.seq f n2,slots:=W }/\
    R (.ok (.ret (.bool (z0q ns L)))) s):=
 .of_wp λC w A R s h=>by
  obtain⟨K,g,d,N,M⟩:=s;obtain⟨hl,hb,h⟩:=h;have f2:=AutoSeq1.sub_tuple_tuple;have z1:z03.size=ns.length:=by rw[<- X.length];simp
  have z2:f.size=L.length:=by rw[<- Y.length];simp
  wp_walk using jd hl,jd hb,jo _ (λE b U=>b.1=none/\U=⟨K,g,d,N,M⟩/\∃(vs O:List Value) (m j:List Int),E=vs.zip O/\
   IntsAre vs m/\IntsAre O j/\m.length+f.size=j.length+z03.size/\R (.ok (.ret (.bool (z0q m j)))) ⟨K,g,d,N,M⟩) _
  case turn=>
   rintro⟨y,x⟩ E b U ⟨F,rfl,vs,O,m,j,p,H,o,i,r⟩
   cases H with
   | nil=>rw[List.zip_nil_left] at p;cases p
   | cons a t I=>
    cases o with
    | nil=>rw[List.zip_nil_right] at p;cases p
    | cons c u J=>
     rw[ju] at p
     injection p with T G
     injection T with hy hx
     subst hy hx;rw[z0R] at r;simp only[wU] at i;obtain⟨e,he,z⟩:=z9B A.in1 ⟨K,g,d,N,M⟩ a t c u;refine wc (he C w _ _ ?_)
     cases e with
     | true=>
      rw[if_pos (z.mp rfl)] at r
      wp_walk
      exact⟨rfl,rfl,_,_,_,_,G,I,J,by lia,r⟩
     | false=>
      rw[if_neg (λq=>absurd (z.mpr q) wT)] at r;have S:=zdd A.in1 ⟨K,g,d,N,M⟩ a t c u C w
      wp_walk using S
      exact⟨_,rfl,by simpa using r⟩
  case fin=>
   rintro⟨b1,b2⟩ U ⟨F,rfl,vs,O,m,j,p,H,o,i,r⟩;simp only at F;subst F;have Z:z0q m j=decide (z03.size<f.size):=by
    cases H with
    | nil=>
     cases o with
     | nil=>
      simp only[vZ] at i;rw[z2N];exact(wX (by lia)).symm
     | cons c u hw=>
      simp only[vZ,wU] at i;rw[z3z];exact(vz (by lia)).symm
    | cons a t Z=>
     cases o with
     | nil=>
      simp only[vZ,wU] at i;rw[z3A];exact(wX (by lia)).symm
     | cons c u hw=>
      rw[ju] at p
      cases p
   rw[Z] at r
   wp_walk
   exact⟨_,rfl,by simpa[Builtin.Tuple.tupleCompareSizes] using r⟩
  case h=>
   exact⟨rfl,rfl,z03.toList,f.toList,ns,L,rfl,X,Y,by lia,h⟩
end
section
variable {prog:Program}{w:World}{A:Around}{E:WvP}{s:Shared}
def zan {z03 a:Array Value}(G:IsTup s.heap l z03)(y:IsTup s.heap b a)(z:IntsAre z03.toList ns)(C:IntsAre a.toList ms)
  (H:A.units<cLine) (h:Q (.bool (z0q ns ms)) s):wpAny (model prog w) A (compareOp .Lt (.ref l) (.ref b)) Q E s:=by
 obtain⟨⟨t,u,o,sl⟩,r,p,n,q⟩:=id G;obtain⟨⟨m,i,g,j⟩,f,d,I,e⟩:=id y;simp only at p q d e;subst p q d e;exact richCompare_meets_room (op :=.Lt) ⟨_,r,rfl⟩ ⟨_,f,rfl⟩ PySem.F.slot_tuple_lt PySem.F.entry_tuple_lt (PySem.F.args_tuple_lt_2 _ _) (z6d l b z03 a n I u i sl j ns ms z C)
  ⟨r,f,show Value.bool (z0q ns ms)≠Value.notImplemented/\Q (.bool (z0q ns ms)) s from ⟨(λx=>nomatch x),h⟩⟩ H
def zht {t b:Addr}{vs ws:List Value}(C:IsTup s.heap t vs.toArray)(z:IsTup s.heap b ws.toArray)(r:vs≠[])
  (x:ws=[]->Q (.ref t) s) (y:ws≠[]->Q (.ref s.heap.objs.size) { s with heap:=s.heap.push { cls :=.type "tuple",data :=.seq (vs++ws).toArray } })
  (hsz:vs.length+ws.length<=sizeLine):wpAny (model prog w) A (binaryOp .Add (.ref t) (.ref b)) Q E s:=by
 obtain⟨⟨cls,o,data,sl⟩,i,p,n,q⟩:=id C;obtain⟨⟨m,d,l,h⟩,a,f,u,g⟩:=id z;simp only at p q f g;subst p q f g;have e:vs.toArray++ws.toArray=(vs++ws).toArray:=by simp
 by_cases j:ws=[]
 .exact concat_meets ⟨_,i,rfl⟩ ⟨_,a,rfl⟩ noFill_tuple_add seq_tuple_add PySem.F.slot_tuple_add PySem.F.entry_tuple_add (PySem.F.args_tuple_add_2 _ _)
   (tuple_addW1 t b vs.toArray ws.toArray n u o d sl h (by simpa using r) (by simp[j])) ⟨i,a,x j⟩
 .refine concat_meets ⟨_,i,rfl⟩ ⟨_,a,rfl⟩ noFill_tuple_add seq_tuple_add PySem.F.slot_tuple_add PySem.F.entry_tuple_add (PySem.F.args_tuple_add_2 _ _)
   (tuple_addW2 t b vs.toArray ws.toArray n u o d sl h (by simpa using r) (by simpa using j) (by rw[wG,wG];exact hsz)) ⟨i,a,?_⟩
  rw[e];exact y j
noncomputable def sIx (n d:Nat):Option Int->Nat
 | none=>d
 | some v=>if v<0 then (v+(n:Int)).toNat else min v.toNat n
def zif (n d:Nat)(b:d<=n)(o:Option Int):sIx n d o<=n:=by
 cases o with
 | none=>exact b
 | some v=>
  show (if v<0 then (v+(n:Int)).toNat else min v.toNat n)<=n
  by_cases a:v<0
  .rw[if_pos a];lia
  .rw[if_neg a];exact Nat.min_le_right _ _
def zcw (v:Int)(n d:Nat):(if v<0 then max (v+(n:Int)) 0 else min v (n:Int))=((sIx n d (some v):Nat):Int):=by
 show (if v<0 then max (v+(n:Int)) 0 else min v (n:Int))=(((if v<0 then (v+(n:Int)).toNat else min v.toNat n):Nat):Int)
 by_cases a:v<0
 .simp only[if_pos a];lia
 .simp only[if_neg a];lia
def zaA (b a:Option Int)(n:Nat):Builtin.Slice.sliceAdjust b a 1 (n:Int)=(((sIx n 0 b:Nat):Int),((sIx n n a:Nat):Int)):=by
 have d:¬ ((1:Int)<0):=by lia
 unfold Builtin.Slice.sliceAdjust;simp only[d,ja];refine uc ?_ ?_
 .cases b with
  | none=>rfl
  | some v=>exact zcw v n 0
 .cases a with
  | none=>rfl
  | some v=>exact zcw v n n
def za8 (i j:Nat):Builtin.Slice.slicePlaces (i:Int) (j:Int) 1=j - i:=by
 unfold Builtin.Slice.slicePlaces;have a:(1:Int) > 0:=by lia
 simp only[a,jN,Int.ediv_one]
 split <;> lia
def z5U {v:Value}(p:IsPart v o)(h:Q o s):wpAny (model prog w) A (Builtin.Slice.slicePartIndex v) Q E s:=by
 cases p with
 | none=>exact slicePart_none h
 | int i t=>exact slicePart_int h
def z2X {sl:Addr}{a d:Option Int}{n:Nat}(g:s.heap.IsSliceOf sl vl vu .none)(pl:IsPart vl a)(i:IsPart vu d)
  (h:Q (((sIx n 0 a:Nat):Int),1,sIx n n d - sIx n 0 a) s):wpAny (model prog w) A (Builtin.Slice.sliceApplied (.ref sl) (pure (n:Int))) Q E s:=by
 obtain⟨j,e,f,b⟩:=id g;unfold Builtin.Slice.sliceApplied Builtin.Slice.sliceFields;refine wc (wc (uw e b (x:=vl) rfl (wc (uw e b (x:=vu) rfl (wc (uw e b (x :=.none) rfl (wj ?_)))))));refine wc (slicePart_none ?_);show wpAny _ _ (if ((1:Int) == 0)=true then _ else _) _ _ s;rw[if_neg (by decide)];refine wc (z5U pl (wc (z5U i (wc (wj ?_)))));show wpAny _ _ (match Builtin.Slice.sliceAdjust a d 1 (n:Int) with | (a,d)=>pure (a,(1:Int),Builtin.Slice.slicePlaces a d 1)) _ _ s;rw[zaA a d n];show wpAny _ _ (pure (((sIx n 0 a:Nat):Int),(1:Int),Builtin.Slice.slicePlaces ((sIx n 0 a:Nat):Int) ((sIx n n d:Nat):Int) 1)) _ _ s;rw[za8];exact wj h
def zdG (xs:Array Value)(i k:Nat):((List.range k).filterMap λ(m:Nat)=>xs[((i:Int)+(m:Int)*1).toNat]?).toArray=((xs.toList.drop i).take k).toArray:=by
 have e:(λ(m:Nat)=>xs[((i:Int)+(m:Int)*1).toNat]?)=λm=>xs[i+m]? := by
  funext m
  have:((i:Int)+(m:Int)*1).toNat=i+m:=by lia
  rw[this]
 rw[e];have:=pick_run xs i k;rw[List.filterMap_map] at this;have a:((λx=>xs[x]?) ∘ λx=>i+x)=λm=>xs[i+m]? := rfl;rw[a] at this;rw[this]
def z4x {t sl:Addr}{z03:Array Value}{b d:Option Int}(e:IsTup s.heap t z03)(l:s.heap.IsSliceOf sl vl vu .none)(pl:IsPart vl b)(r:IsPart vu d)
  (o:¬ (sIx z03.size 0 b=0/\sIx z03.size z03.size d=z03.size))
  (h:Q (.ref s.heap.objs.size) { s with heap:=s.heap.push { cls :=.type "tuple",data :=.seq ((z03.toList.drop (sIx z03.size 0 b)).take (sIx z03.size z03.size d - sIx z03.size 0 b)).toArray } })
  (hsz:z03.size<=sizeLine):wpAny (model prog w) A (getItem (.ref t) (.ref sl)) Q E s:=by
 have a:sizeOk (.seq ((z03.toList.drop (sIx z03.size 0 b)).take (sIx z03.size z03.size d - sIx z03.size 0 b)).toArray):=by
  show ((z03.toList.drop (sIx z03.size 0 b)).take (sIx z03.size z03.size d - sIx z03.size 0 b)).toArray.size<=sizeLine;rw[wG,vh,jp,vW];lia
 have u:sIx z03.size z03.size d<=z03.size:=zif _ _ (wt _) d;obtain⟨p,j,g,n⟩:=id l;have f:s.TypeIs (.ref sl) "slice":=⟨p,j,g⟩
 unfold getItem
 try with_reducible refine v8 ?_
 first | refine wc (wj ?_) | skip
 refine wc (wpAny_sequenceKey e.typeIs (by decide) ?_);refine wc (vX (name:=Str.ofString "__getitem__") e.typeIs vR
  (ub vR e.typeIs entry_tuple_getitem ?_ (args_tuple_getitem _ _)))
 show wpAny _ _ (Builtin.Tuple.tupleItemsOf (.ref t) >>= _) _ _ s;refine wc (tupleItemsOf_ e ?_);refine wc (jS f ?_);rw[if_pos (by decide)];refine wc (z2X l pl r ?_);have i:¬ ((((sIx z03.size 0 b:Nat):Int) == 0 && (1:Int) == 1 && (sIx z03.size z03.size d - sIx z03.size 0 b) == z03.size)=true):=by
  intro q;rw[vI,vI] at q;have x:((sIx z03.size 0 b:Nat):Int)=0:=eq_of_beq q.1.1;have y:sIx z03.size z03.size d - sIx z03.size 0 b=z03.size:=eq_of_beq q.2;exact o ⟨by lia,by lia⟩
 show wpAny _ _ (if (((sIx z03.size 0 b:Nat):Int) == 0 && (1:Int) == 1 && (sIx z03.size z03.size d - sIx z03.size 0 b) == z03.size)=true then _ else _) _ _ s;rw[if_neg i,zdG]
 first
  | exact wc (m:=Builtin.Tuple.tupleExact _) (vg (wj ⟨_,rfl,wj h⟩) a)
  | exact wc (m:=Builtin.Tuple.tupleExact _) (vg (wc (wj (wj ⟨_,rfl,wj h⟩))) a)
  | exact wc (wc (m:=Builtin.Tuple.tupleExact _) (vg (wj (wj ⟨_,rfl,wj h⟩)) a))
  | exact wc (wc (m:=Builtin.Tuple.tupleExact _) (vg (wj ⟨_,rfl,wj h⟩) a))
end
end HT
namespace L2
open PySem PySem.Spec PyProof.Rows
abbrev TO:=St->Hp->(Option Int->Hp->Prop)->Prop
def PO (X:Cx)(e:Option Expr)(t:TO):Prop:=
 ∀(a:List (Addr × Obj)) (s:Shared) (b:St) (H:Hp) (Q:Option Int->Hp->Prop),Inv X a b H s->t b H Q->
  wpAny (model X.prog X.w) X.A (evalPart e X.env) (λu f=>∃o d,Inv X a b d f/\IsPart u o/\Q o d) X.xe s
def zaP:TO:=λ_ H Q=>Q none H
def zhR (t:TE):TO:=λb H Q=>t b H λx a=>∃i,x = .int i/\Q (some i) a
def z3t:∀{us:List Value},Vals (ns.map V.int) us->IntsAre us ns:=by
 induction ns with
 | nil=>intro us r;rw[uD] at r;cases r;exact .nil
 | cons n ns a=>
  intro us r;rw[wI] at r
  cases r with
  | cons r1 r2=>
   obtain⟨t,e⟩:=r1;subst e;exact .cons n t (a r2)
section
variable {X:Cx}{e:Expr}{te:TE}{lo hi:Option Expr}{tl th:TO}{pos p2:Pos}
def zgD:PO X none zaP:=by
 intro a s b H Q I h;rw[evalPart_none];exact wj ⟨none,H,I,.none,h⟩
def zgC (h:PE X e te):PO X (some e) (zhR te):=by
 intro a s l H Q I f;rw[evalPart_some];refine thn (h a s l H _ I f) λu m j =>?_;obtain⟨x,b,d,r1,g⟩:=j;obtain⟨i,rfl,q⟩:=g;obtain⟨t,rfl⟩:=r1;exact⟨some i,b,d,.int i t,q⟩
def SlR (X:Cx)(r:V->Option Int->Option Int->Hp->VK->Prop):Prop:=
 ∀(a:List (Addr × Obj)) (s:Shared) (g:St) (H:Hp) (x:V) (v e f:Value) (d b:Option Int) (sl:Addr) (Q:VK),Inv X a g H s->RelV x v->s.heap.IsSliceOf sl e f .none->IsPart e d->IsPart f b->r x d b H Q->
  ∃T h,typeLookup (.type T) "__getitem__"=pure (some (.builtin h))/\s.TypeIs v T/\wpAny (model X.prog X.w) X.A (getItem v (.ref sl)) (EP X a g Q) X.xe s
def SlR.or (h:SlR X r)(h':SlR X r'):SlR X (λx d b H Q=>r x d b H Q\/r' x d b H Q):=by
 intro a s l H x v i j d b sl Q I g e pl f q
 rcases q with q | q
 .exact h a s l H x v i j d b sl Q I g e pl f q
 .exact h' a s l H x v i j d b sl Q I g e pl f q
def tSl (r:V->Option Int->Option Int->Hp->VK->Prop)(f:TE)(tl g:TO):TE:=λa H Q=>f a H λx b=>tl a b λl d=>g a d λu e=>r x l u e Q
def zdI (J:SlR X r)(E:PE X e te)(G:PO X lo tl)(L:PO X hi th):PE X (.Subscript e (.Slice lo hi none p2) pos) (tSl r te tl th):=by
 intro a s f H Q I h;refine Subscript_ (thn (E a s f H _ I h) λv S j =>?_);obtain⟨x,n,p,r1,N⟩:=j;refine wpAny_Slice (thn (G a S f n _ p N) λg U ⟨l,o,t,pl,O⟩=>thn (L a U f o _ t O) λi d j =>?_);obtain⟨u,m,y,M,R⟩:=j;rw[evalPart_none];refine wj ?_;have z:Inv X a f m { d with heap:=d.heap.push { cls :=.type "slice",data :=.fields #[g,i,.none] } }:=y.kept (t':=d.toks) λb Y q=>wf _ q;obtain⟨T,W,C,K,F⟩:=J a { d with heap:=d.heap.push { cls :=.type "slice",data :=.fields #[g,i,.none] } } f m x v g i l u d.heap.objs.size Q z r1 (Heap.IsSliceOf.new ..) pl M R;show wpAny (model X.prog X.w) X.A (subscriptTail e (.Slice lo hi none p2) v (.ref d.heap.objs.size)) (EP X a f Q) X.xe { d with heap:=d.heap.push { cls :=.type "slice",data :=.fields #[g,i,.none] } };exact tail_any (ops:=[.ref d.heap.objs.size,v]) K C F (by with_unfolding_all rfl)
def cutV (xs:List V)(a b:Option Int):List V:=(xs.drop (HT.sIx xs.length 0 a)).take (HT.sIx xs.length xs.length b - HT.sIx xs.length 0 a)
def z5A (xs:List V)(b a:Option Int):(cutV xs b a).length<=xs.length:=by
 unfold cutV;rw[vh,jp];lia
def rSlT (K:W.Frag):V->Option Int->Option Int->Hp->VK->Prop:=λx e d H Q=>∃a b,x = .ref a/\SqT K H a b/\
 ¬ (HT.sIx b.length 0 e=0/\HT.sIx b.length b.length d=b.length)/\∀p,H p=none->Q (.ref p) (upd H p (.tup (cutV b e d)))
def zi1:SlR X (rSlT X.K):=by
 intro m s C H x v z A f g sl Q I w n pl u h;obtain⟨a,e,rfl,t,p,q⟩:=h
 cases w
 obtain⟨i,r,j,l⟩:=I.tuple t;have d:i.toArray.size=e.length:=by rw[wG];exact r.length.symm
 refine⟨"tuple",_,vR.lookup,j.typeIs,?_⟩;refine HT.z4x j n pl u (by rw[d];exact p) ?_ (by rw[d];exact l);rw[d];refine⟨.ref s.heap.objs.size,_,I.laid (t':=s.toks) (o :=.tup (cutV e f g)) (λb y q=>wf _ q) (wt _) ?_,rfl,q _ (I.hok.fresh (wt _))⟩;exact⟨wO (z5A e f g) l,_,(r.drop (HT.sIx e.length 0 f)).take (HT.sIx e.length e.length g - HT.sIx e.length 0 f),IsTup.new _ _,_,wp _ rfl,rfl⟩
def rLtT (K:W.Frag):R2:=λx y H Q=>∃a b e d,x = .ref a/\y = .ref b/\SqT K H a (e.map V.int)/\SqT K H b (d.map V.int)/\Q (.bl (HT.z0q e d)) H
def zjz (j:X.A.units<cLine):OpR X (compareOp .Lt) (rLtT X.K):=by
 intro f s t H x y v u Q I p r h;obtain⟨a,b,ns,ms,rfl,rfl,g,i,q⟩:=h
 cases p
 cases r
 obtain⟨e,r1,n,_⟩:=I.tuple g;obtain⟨d,r2,o,_⟩:=I.tuple i;have l:IntsAre e.toArray.toList ns:=z3t r1;have m:IntsAre d.toArray.toList ms:=z3t r2;exact HT.zan n o l m j ⟨.bl (HT.z0q ns ms),H,I,rfl,q⟩
def zle (K:W.Frag):R2:=λx y H Q=>∃a b e d,x = .ref a/\y = .ref b/\SqT K H a e/\SqT K H b d/\e≠[]/\e.length+d.length<=sizeLine/\
 (d=[]->Q (.ref a) H)/\(d≠[]->∀p,H p=none->Q (.ref p) (upd H p (.tup (e++d))))
def Vals.nil_iff (r:Vals xs us):us=[]↔xs=[]:=by
 cases r with
 | nil=>simp
 | cons _ _=>simp
def zgP:OpR X (binaryOp .Add) (zle X.K):=by
 intro f s G H x y v u Q I t A h;obtain⟨a,b,C,E,rfl,rfl,g,i,j,d,p,r⟩:=h
 cases t
 cases A
 obtain⟨l,r1,m,_⟩:=I.tuple g;obtain⟨e,r2,n,_⟩:=I.tuple i;refine HT.zht m n (λz=>j (r1.nil_iff.mp z)) (λz=>⟨.ref a,H,I,rfl,p (r2.nil_iff.mp z)⟩) (λz =>?_) (by rw[<- r1.length, <- r2.length];exact d);refine⟨.ref s.heap.objs.size,_,I.laid (t':=s.toks) (o :=.tup (C++E)) (λb F q=>wf _ q) (wt _) ?_,rfl,r (λw=>z (r2.nil_iff.mpr w)) _ (I.hok.fresh (wt _))⟩;exact⟨by rw[wD];exact d,_,r1.append r2,IsTup.new _ _,_,wp _ rfl,rfl⟩
end
noncomputable def ixN (n:Nat)(i:Int):Option Nat:=if 0<=i then (if i<n then some i.toNat else none) else if -(n:Int)<=i then some (i+n).toNat else none
def atI {α:Type}(xs:List α)(i:Int):Option α:=(ixN xs.length i).bind λj=>xs[j]?
def zc4 (h:ixN n i=some j):seqIndex? i n=some j/\j<n /\ -(n:Int)<=i/\i<n:=by
 unfold ixN at h
 by_cases b:0<=i
 .rw[if_pos b] at h
  by_cases a:i<n
  .rw[if_pos a] at h;have e:i.toNat=j:=wY h;exact⟨by rw[seqIndex_of b a,e],by lia,by lia,a⟩
  .rw[if_neg a] at h;cases h
 .rw[if_neg b] at h
  by_cases a : -(n:Int)<=i
  .rw[if_pos a] at h;have e:(i+n).toNat=j:=wY h;exact⟨by rw[seqIndex_neg (by lia) a,e],by lia,a,by lia⟩
  .rw[if_neg a] at h;cases h
def z8U {a:Type}{xs:List a}{i:Int}{v:a}(h:atI xs i=some v):∃j,seqIndex? i xs.length=some j/\xs[j]? = some v/\j<xs.length /\ -(xs.length:Int)<=i/\i<xs.length:=by
 unfold atI at h
 cases e:ixN xs.length i with
 | none=>rw[e] at h;cases h
 | some j=>
  rw[e] at h;obtain⟨b,d,f,g⟩:=zc4 e;exact⟨j,b,h,d,f,g⟩
def zhA {a:Type}{xs:List a}{j:Nat}{v:a}(h:xs[j]? = some v):atI xs (j:Int)=some v:=by
 have b:j<xs.length:=(wq.mp h).1;have e:ixN xs.length (j:Int)=some j:=by
  unfold ixN;rw[if_pos (by lia),if_pos (by lia)];simp
 unfold atI;rw[e];exact h
def z8W (b:Expr):Prop:=∀o i,subscripted b false o i=operate [o,i] (getItem o i)
def IxR (X:Cx)(r:R2):Prop:=
 ∀(d a:Expr) (b:List (Addr × Obj)) (s:Shared) (e:St) (H:Hp) (x y:V) (v u:Value) (Q:VK),Inv X b e H s->RelV x v->RelV y u->r x y H Q->
  subscripted a false v u=operate [v,u] (getItem v u)->wpAny (model X.prog X.w) X.A (subscriptTail d a v u) (EP X b e Q) X.xe s
def MtR (X:Cx)(id:String)(r:V->List V->Hp->VK->Prop):Prop:=
 ∀(a:List (Addr × Obj)) (s:Shared) (e:St) (H:Hp) (x:V) (d:List V) (v:Value) (b:List Value) (Q:VK),Inv X a e H s->RelV x v->Vals d b->r x d H Q->
  wpAny (model X.prog X.w) X.A (call (.builtin id) (v::b)) (EP X a e Q) X.xe s
section
variable {X:Cx}{a b:Expr}{ta tb:TE}{pos:Pos}
def IxR.or (h:IxR X r)(h':IxR X r'):IxR X (λx y H Q=>r x y H Q\/r' x y H Q):=by
 intro b a d s i H x y v u Q I f g q e
 rcases q with q | q
 .exact h b a d s i H x y v u Q I f g q e
 .exact h' b a d s i H x y v u Q I f g q e
def zlD (j:IxR X r)(g:PE X a ta)(i:PE X b tb)(l:z8W b):PE X (.Subscript a b pos) (tOp r ta tb):=by
 intro d s p H Q I h;exact Subscript_ (binT g i I h λv u o x y e f m n q=>j a b d o p e x y v u Q f m n q (l _ _))
def rIxL (K:W.Frag):R2:=λx y H Q=>∃p a i v,x = .ref p/\y = .int i/\SqL K H p a/\atI a i=some v/\Q v H
def rIxT (K:W.Frag):R2:=λx y H Q=>∃p a i v,x = .ref p/\y = .int i/\SqT K H p a/\atI a i=some v/\Q v H
def rIxS:R2:=λx y H Q=>∃z i c,x = .str z/\y = .int i/\z.length<=sizeLine/\atI z.cps.toList i=some c/\Q (.str ⟨#[c]⟩) H
def zhb:IxR X (rIxL X.K):=by
 intro l g a s A H x y v u Q I M N h o;obtain⟨p,U,i,z,rfl,rfl,L,G,q⟩:=h
 cases M
 obtain⟨t,rfl⟩:=N;obtain⟨e,r,pl,T⟩:=I.list L;obtain⟨j,b,C,R,E,F⟩:=z8U G;obtain⟨w,m,f⟩:=r.get C;have J:=r.length;have S:=z5k;have fin:EP X a A Q w s:=⟨z,H,I,f,q⟩
 by_cases n:0<=i
 .have d:i.toNat=j:=by
   rw[seqIndex_of n F] at b;exact wY b
  exact item_listR pl.isList n (by lia) (by rw[d];simpa using m) fin o
 .have d:(i+(e.toArray.size:Int)).toNat=j:=by
   rw[seqIndex_neg (by lia) E] at b;rw[wG, <- J];exact wY b
  exact subscriptTail_builtinR (x:=w) pl.isList.typeIs slot_list_getitem.lookup
   (wpAny_getItem_list_neg (Q:=λr O=>r=w/\EP X a A Q r O) pl.isList (by lia) (by rw[wG] <;> lia) (by lia) (by rw[d];simpa using m) ⟨rfl,fin⟩) o
def zkk:IxR X (rIxT X.K):=by
 intro e d a s f H x y v u Q I F G h C;obtain⟨p,S,i,z,rfl,rfl,A,n,q⟩:=h
 cases F
 obtain⟨t,rfl⟩:=G;obtain⟨E,r,pl,R⟩:=I.tuple A;obtain⟨j,l,m,L,M,N⟩:=z8U n;obtain⟨w,g,b⟩:=r.get m;have o:=r.length;have O:=z5k;have fin:EP X a f Q w s:=⟨z,H,I,b,q⟩
 exact subscriptTail_builtinR (x:=w) pl.typeIs slot_tuple_getitem.lookup
  (getItem_tuple (j:=j) (Q:=λr J=>r=w/\EP X a f Q r J) pl (by lia) (by lia) (by rw[wG, <- o];exact l) (by simpa using g) ⟨rfl,fin⟩) C
def zkl:IxR X rIxS:=by
 intro b a e s J H x y v u Q I w A h r;obtain⟨z,i,c,rfl,rfl,F,o,q⟩:=h;obtain⟨t,rfl⟩:=w;obtain⟨G,rfl⟩:=A;obtain⟨j,d,l,C,m,n⟩:=z8U o;have p:z.cps.toList.length=z.length:=by simp[Str.length]
 rw[p] at d m n;have E:=z5k;exact tail_any (typeIs_str s z t) slot_str_getitem.lookup (getItem_str (c:=c) (by
  have f:decide (i < -(2 ^ 63:Int))=false:=wX (by lia);have g:decide (i>=2 ^ 63)=false:=wX (by lia);rw[f,g,Bool.or_false]) (by rw[d];simpa using l) ⟨.str ⟨#[c]⟩,H,I.tok _,⟨_,rfl⟩,q⟩) r
def rIx (K:W.Frag):R2:=λx y H Q=>rIxL K x y H Q\/rIxT K x y H Q\/rIxS x y H Q
def zkm:IxR X (rIx X.K):=zhb.or (zkk.or zkl)
def zal (a:List Value)(n j:Nat)(u:Value):Obj.mapSeq (·.setIfInBounds j u) { cls :=.type "list",data :=.seq a.toArray n }={ cls :=.type "list",data :=.seq (a.set j u).toArray n }:=by
 simp[Obj.mapSeq]
theorem Inv.lst {b:List (Addr × Obj)}{d:St}{H:Hp}{s:Shared}{p:Addr}{xs:List V}(I:Inv X b d H s)(h:H p=some (.lst xs)):
  ∃(a:List Value) (n:Nat),Vals xs a/\s.heap.get? p=some { cls :=.type "list",data :=.seq a.toArray n }/\xs.length<=sizeLine:=by
 obtain⟨z,a,n,r,e⟩:=I.hok p _ h;exact⟨a,n,r,e,z⟩
def Inv.lstUpd {s:Shared}{xs ys:List V}{a its':List Value}{n d:Nat}{f:Obj->Obj}(I:Inv X pins σ H s)(h:H p=some (.lst xs))
  (j:s.heap.get? p=some { cls :=.type "list",data :=.seq a.toArray n }) (g:f { cls :=.type "list",data :=.seq a.toArray n }={ cls :=.type "list",data :=.seq its'.toArray d }) (r:Vals ys its') (l:ys.length<=sizeLine) (t:Nat):
  Inv X pins σ (upd H p (.lst ys)) { s with heap:=s.heap.update p f,toks:=t }:=by
 have e:(s.heap.update p f).get? p=some { cls :=.type "list",data :=.seq its'.toArray d }:=by
  rw[vJ f j (by rw[g] <;> rfl),g]
 refine I.write (x:=p) (e:=p) (by rw[h];trivial) (.inl rfl) (λb u i q=>(vB _ _ (vQ i)).trans q) ⟨_,e⟩ ?_;exact⟨l,its',d,r,e⟩
def zla:V->V->V->Hp->(Hp->Prop)->Prop:=λo i v H Q=>∃p a k j,o = .ref p/\i = .int k/\H p=some (.lst a)/\ixN a.length k=some j/\Q (upd H p (.lst (a.set j v)))
def zd0:PSet X zla:=by
 intro b s J H o i v N M u Q I E C F h;obtain⟨p,G,k,j,rfl,rfl,y,z,q⟩:=h
 cases E
 obtain⟨t,rfl⟩:=C;obtain⟨a,n,r,g,A⟩:=I.lst y;obtain⟨d,K,w,x⟩:=zc4 z;have f:=r.length;have L:=z5k;have l:Inv X b J (upd H p (.lst (G.set j v))) { s with heap:=s.heap.update p (Obj.mapSeq (·.setIfInBounds j u)) }:=
  I.lstUpd y g (zal a n j u) (r.set F j) (by rw[List.length_set];exact A) s.toks
 by_cases m:0<=k
 .have e:k.toNat=j:=by
   rw[seqIndex_of m x] at d;exact wY d
  exact W.ki_setAt g m (by lia) (by rw[wG, <- f];exact x) (by rw[e];exact⟨_,l,q⟩)
 .have e:(k+(a.toArray.size:Int)).toNat=j:=by
   rw[seqIndex_neg (by lia) w] at d;rw[wG, <- f];exact wY d
  exact W.ki_setBack g (by lia) (by rw[wG, <- f];exact w) (by lia) (by rw[e];exact⟨_,l,q⟩)
def z78 (b a:Option Int)(n:Nat):(sliceBounds b a none n).1=((HT.sIx n 0 b:Nat):Int)/\(sliceBounds b a none n).2.1=((HT.sIx n n a:Nat):Int)/\(sliceBounds b a none n).2.2=1:=by
 refine⟨?_,?_,rfl⟩
 .cases b with
  | none=>simp[sliceBounds,HT.sIx]
  | some i=>
   simp only[sliceBounds,HT.sIx,Option.getD_none,show (1:Int) > 0 by decide,jN]
   by_cases h:i<0
   .simp only[h,jN] <;> lia
   .simp only[h,ja] <;> lia
 .cases a with
  | none=>simp[sliceBounds,HT.sIx]
  | some i=>
   simp only[sliceBounds,HT.sIx,Option.getD_none,show (1:Int) > 0 by decide,jN]
   by_cases h:i<0
   .simp only[h,jN] <;> lia
   .simp only[h,ja] <;> lia
def z6l (a:List Value)(b d:Option Int):slicePick a.toArray b d none=((a.drop (HT.sIx a.length 0 b)).take (HT.sIx a.length a.length d - HT.sIx a.length 0 b)).toArray:=by
 obtain⟨e,f,g⟩:=z78 b d a.toArray.size;unfold slicePick;rw[e,f,g];simp only[sliceRange_one,pick_run,wG] <;> rfl
def rSlL (K:W.Frag):V->Option Int->Option Int->Hp->VK->Prop:=λx e d H Q=>∃a b,x = .ref a/\SqL K H a b/\∀p,H p=none->Q (.ref p) (upd H p (.lst (cutV b e d)))
def zfR:SlR X (rSlL X.K):=by
 intro j s A H x v y z f g sl Q I u l pl t h;obtain⟨a,d,rfl,m,q⟩:=h
 cases u
 obtain⟨p,r,i,n⟩:=I.list m;have e:=r.length;refine⟨"list",_,slot_list_getitem.lookup,i.isList.typeIs,?_⟩;refine wpAny_getItem_list_slice i.isList l pl t .none (by simp) ?_ (by rw[wG] <;> lia);rw[z6l, <- e];refine⟨.ref s.heap.objs.size,_,I.laid (t':=s.toks) (o :=.lst (cutV d f g)) (λb w q=>wf _ q) (wt _) ?_,rfl,q _ (I.hok.fresh (wt _))⟩;exact⟨wO (z5A d f g) n,_,0,(r.drop (HT.sIx d.length 0 f)).take (HT.sIx d.length d.length g - HT.sIx d.length 0 f),wp _ rfl⟩
def z83:z0A X (.builtin "len") (λxs H Q=>∃p ys,xs=[.ref p]/\(SqL X.K H p ys\/SqT X.K H p ys)/\Q (.int ys.length) H):=by
 intro f s m H xs l Q I r h;obtain⟨p,ys,rfl,b,q⟩:=h;obtain⟨u,rfl,i⟩:=z30 r
 cases i
 have j:=z5k
 rcases b with b | b
 .obtain⟨d,e,pl,g⟩:=I.list b;have a:=e.length;exact Calls.call_len_list pl.isList (by simp only[wG] <;> lia) ⟨.int ys.length,H,I.tok _,⟨s.toks+1,by rw[wG,a]⟩,q⟩
 .obtain⟨d,e,pl,g⟩:=I.tuple b;have a:=e.length;exact len_tuple pl (by simp only[wG] <;> lia) ⟨.int ys.length,H,I.tok _,⟨s.toks+1,by rw[wG,a]⟩,q⟩
def z82:z0A X (.builtin "len") (λxs H Q=>∃z,xs=[.str z]/\z.length<=sizeLine/\Q (.int z.length) H):=by
 intro a s f H xs e Q I r h;obtain⟨z,rfl,d,q⟩:=h;obtain⟨u,rfl,t,rfl⟩:=z30 r;have b:=z5k;exact len_str (by lia) ⟨.int z.length,H,I.tok _,⟨_,rfl⟩,q⟩
def z0A.or (h:z0A X f r)(h':z0A X f r'):z0A X f (λxs H Q=>r xs H Q\/r' xs H Q):=by
 intro a s e H xs d Q I b q
 rcases q with q | q
 .exact h a s e H xs d Q I b q
 .exact h' a s e H xs d Q I b q
def z6Y:z0A X (.type "tuple") (λxs H Q=>∃p ys,xs=[.ref p]/\((SqL X.K H p ys/\∀l,H l=none->Q (.ref l) (upd H l (.tup ys)))\/(SqT X.K H p ys/\Q (.ref p) H))):=by
 intro a s t H xs A Q I r h;obtain⟨p,ys,rfl,h⟩:=h;obtain⟨u,rfl,z⟩:=z30 r
 cases z
 rcases h with ⟨g,q⟩ | ⟨g,q⟩
 .obtain⟨d,i,pl,n⟩:=I.list g;have m:=i.length;refine call_tuple_list pl.isList (λf y =>?_) (by simp only[wG] <;> lia);have j:Inv X a t H { s with heap:=f }:=I.kept (t':=s.toks) y;have x:Inv X a t (upd H f.objs.size (.tup ys)) { s with heap:=f.push { cls :=.type "tuple",data :=.seq d.toArray } }:=
   j.laid (t':=s.toks) (λb o e=>wf _ e) (wt _) (show z1m X.prog X.w _ _ _ (.tup ys) from ⟨n,d,i,IsTup.new _ _,_,wp _ rfl,rfl⟩)
  exact⟨.ref f.objs.size,_,x,rfl,q _ (j.hok.fresh (wt _))⟩
 .obtain⟨d,i,pl,n⟩:=I.tuple g;exact call_tuple_same pl ⟨.ref p,H,I,rfl,q⟩
def tyV (K:W.Frag)(T:String)(x:V)(H:Hp):Prop:=match x with
 | .str _=>T="str"
 | .int _=>T="int"
 | .ref p=>(T="list"/\∃b,SqL K H p b)\/(T="tuple"/\∃o,K.lookup p=some o/\o.cls = .type "tuple"/\o.dict=none)\/
   (T="dict"/\((∃a,H p=some (.dK a))\/∃a,H p=some (.dT a)))\/(T="set"/\∃S n,H p=some (.set S n))
 | _=>False
def zeL {v:Value}(I:Inv X pins σ H s)(r:RelV x v)(d:tyV X.K T x H):
  s.TypeIs v T/\∀a,v = .ref a->∃j,s.heap.get? a=some j/\j.dict=none:=by
 cases x with
 | str z=>
  obtain⟨t,rfl⟩:=r
  cases (show T="str" from d)
  exact⟨typeIs_str s z t,λ_ e=>nomatch e⟩
 | int i=>
  obtain⟨t,rfl⟩:=r
  cases (show T="int" from d)
  exact⟨typeIs_int s i t,λ_ e=>nomatch e⟩
 | ref p=>
  cases r
  rcases d with ⟨rfl,u,m⟩ | ⟨rfl,o,b,l,g⟩ | ⟨rfl,b⟩ | ⟨rfl,S,n,b⟩
  .obtain⟨q,_,pl,_⟩:=I.list m;refine⟨pl.isList.typeIs,λa e =>?_⟩
   cases e
   obtain⟨o,n,e,c,g,_⟩:=pl;exact⟨o,e,g⟩
  .refine⟨⟨o,I.kIn p o b,l⟩,λa e =>?_⟩
   cases e
   exact⟨o,I.kIn _ o b,g⟩
  .have z:∃o,s.heap.get? p=some o/\o.ExactDict:=by
    rcases b with ⟨h,b⟩ | ⟨h,b⟩
    .obtain⟨_,_,_,_,o,_,_,e,ex,_⟩:=I.hok p _ b;exact⟨o,e,ex⟩
    .obtain⟨_,_,_,_,o,_,_,e,ex,_⟩:=I.hok p _ b;exact⟨o,e,ex⟩
   obtain⟨o,e,ex⟩:=z;refine⟨⟨o,e,ex.1⟩,λa f =>?_⟩
   cases f
   exact⟨o,e,ex.2.1⟩
  .obtain⟨o,_,_,_,e,ex,_⟩:=I.hok p _ b;refine⟨⟨o,e,ex.1⟩,λa f =>?_⟩
   cases f
   exact⟨o,e,ex.2.1⟩
 | _=>exact False.elim d
def tBM0 (K:W.Frag)(T:String)(r:V->List V->Hp->VK->Prop)(b:TE):TE:=λd H Q=>b d H λx a=>tyV K T x a/\r x [] a Q
def tBM (K:W.Frag)(T:String)(r:V->List V->Hp->VK->Prop)(e:TE)(t:TA):TE:=λb H Q=>e b H λx a=>tyV K T x a/\t b a λf d=>r x f d Q
variable {o e:Expr}{es:List Expr}{to:TE}{t:TA}{name:Str}{apos cpos:Pos}{T id:String}{r:V->List V->Hp->VK->Prop}
def zjl (q:PlainAttrs T)(e:Slot T name id)(f:typeOf (.builtin id)=pure (.type "method_descriptor"))(n:MtR X id r)(p:PE X o to)
  (b:autoParam (aB o name X) jA1) (d:autoParam (aL apos cpos) jA1):PE X (.Call (.Attribute o name apos) [] [] cpos) (tBM0 X.K T r to):=by
 intro a s i H Q I h;refine wpAny_Call_method0_late b d (thn (p a s i H _ I h) λv u y =>?_);obtain⟨x,j,g,r1,w,t⟩:=y;obtain⟨l,m⟩:=zeL g r1 w;exact⟨T,id,q,e,f,l,m,uU rfl (PySem.evalArgs_none (n a u i j x [] v [] Q g r1 .nil t))⟩
def zlF (F:PlainAttrs T)(i:Slot T name id)(j:typeOf (.builtin id)=pure (.type "method_descriptor"))(A:MtR X id r)(C:PE X o to)(z:PA X (e::es) t)
  (d:autoParam (aB o name X) jA1)
  (g:autoParam (aG cpos (e::es) X) jA1)
  (f:autoParam (aL apos cpos) jA1) (E:autoParam (sE e es X) jA1) (b:autoParam (bT cpos es X) jA1):
  PE X (.Call (.Attribute o name apos) (e::es) [] cpos) (tBM X.K T r to t):=by
 intro a s l H Q I h;refine wpAny_Call_method_late d g f rfl (thn (C a s l H _ I h) λv L R =>?_);obtain⟨x,p,m,r1,N,G⟩:=R;obtain⟨w,y⟩:=zeL m r1 N;refine⟨T,id,F,i,j,w,y,?_⟩;have n:=z cpos a L l p _ m G;rw[E] at n ⊢;refine uU (by show (false || (backTo cpos (starEach es X.env)).any (·.1))=false;rw[b] <;> rfl) (Calls.evalArgs_plain ?_);exact thn n λO M ⟨vs,q,u,r2,J⟩=>A a M l q x vs v O Q u r1 r2 J
end
def MtM (X:Cx)(id:String)(r:V->List V->Hp->VK->Prop):Prop:=
 ∀(a:List (Addr × Obj)) (s:Shared) (e:St) (H:Hp) (x:V) (d:List V) (v:Value) (b:List Value) (Q:VK),Inv X a e H s->RelV x v->Vals d b->r x d H Q->
  wpAny (model X.prog X.w) X.A (call (.builtin id) (v::b)) (EP X a e Q) X.xe s
def Vals.one:∀{x:V}{us:List Value},Vals [x] us->∃u,us=[u]/\RelV x u
 | _,_,.cons r .nil=>⟨_,rfl,r⟩
def Vals.zero:∀{us:List Value},Vals [] us->us=[]
 | _,.nil=>rfl
theorem Vals.dropLast {xs:List V}{us:List Value}(h:Vals xs us):Vals xs.dropLast us.dropLast:=by
 induction h with
 | nil=>exact .nil
 | cons r t a=>
  cases t with
  | nil=>exact .nil
  | cons q b=>exact .cons r a
theorem Vals.reverse {xs:List V}{us:List Value}(h:Vals xs us):Vals xs.reverse us.reverse:=by
 induction h with
 | nil=>exact .nil
 | cons r t a=>rw[uA,uA];exact Vals.append a (.cons r .nil)
def zau {f:Type}(l:List f):l.eraseIdx (l.length - 1)=l.dropLast:=by
 induction l with
 | nil=>rfl
 | cons a r d=>
  cases r with
  | nil=>rfl
  | cons b r=>
   have e:(a::b::r).length - 1=((b::r).length - 1)+1:=by
    have g:(a::b::r).length=r.length+2:=rfl;have h:(b::r).length=r.length+1:=rfl;lia
   rw[e,List.eraseIdx_cons_succ,d]
   all_goals rfl
section
variable {X:Cx}{pins:List (Addr × Obj)}{σ:St}{H:Hp}{s:Shared}{l b:Addr}{xs ys zs:List V}
def Inv.lset {a its':List Value}{n:Nat}{f:Array Value->Array Value}{t':Nat}(I:Inv X pins σ H s)(b:H l=some (.lst xs))
  (e:s.heap.get? l=some { cls :=.type "list",data :=.seq a.toArray n }) (g:f a.toArray=its'.toArray) (i:Vals ys its') (j:ys.length<=sizeLine):
  Inv X pins σ (upd H l (.lst ys)) { s with heap:=s.heap.update l (Obj.mapSeq f),toks:=t' }:=by
 have q:=PySem.IsL.update e f;rw[g] at q;refine I.write (x:=l) (e:=l) (by rw[b];exact trivial) (.inl rfl) (λm u d h=>(vB s.heap (Obj.mapSeq f) (vQ d)).trans h) ⟨_,q⟩ ?_;exact⟨j,its',_,i,q⟩
def Inv.lnew (I:Inv X pins σ H s)(a:Vals ys its)(b:ys.length<=sizeLine):
  Inv X pins σ (upd H s.heap.objs.size (.lst ys)) { s with heap:=s.heap.push { cls :=.type "list",data :=.seq its.toArray },toks:=t' }:=
 I.laid (λ_ _ q=>wf _ q) (wt _) ⟨b,its,0,a,wp _ rfl⟩
theorem Inv.fresh (I:Inv X pins σ H s):H s.heap.objs.size=none:=I.hok.fresh (wt _)
def Inv.lstM (I:Inv X pins σ H s)(b:H l=some (.lst xs)):xs.length<=sizeLine/\∃(a:List Value) (n:Nat),Vals xs a/\xs.length=a.length/\s.heap.get? l=some { cls :=.type "list",data :=.seq a.toArray n }:=by
 obtain⟨z,a,n,r,e⟩:=I.hok l _ b;exact⟨z,a,n,r,r.length,e⟩
def ze1 {n:Nat}(h:n<=sizeLine):Builtin.List.listTooLong n=false:=by
 unfold Builtin.List.listTooLong;exact wX (by lia)
end
section
variable {X:Cx}
def zbg:V->List V->Hp->VK->Prop:=λx vs H Q=>∃l a y,x = .ref l/\vs=[y]/\H l=some (.lst a)/\a.length<sizeLine/\Q .non (upd H l (.lst (a++[y])))
def zbO:MtM X "list.append" zbg:=by
 intro d s t H x vs v o Q I i g h;obtain⟨l,p,y,rfl,rfl,b,m,q⟩:=h
 cases i
 obtain⟨u,rfl,f⟩:=g.one;obtain⟨z,a,n,r,j,e⟩:=I.lstM b;refine call_meets F.slot_list_append ⟨_,e,rfl⟩ F.entry_list_append (F.args_list_append_2 _ _) (PySem.list_append l a.toArray n u (by rw[wG];lia)) ⟨e,?_⟩;refine⟨.non,_,I.lset (its':=a++[u]) b e (by simp) (r.append (.cons f .nil)) ?_,rfl,q⟩;rw[wD,uZ];lia
def zg5:V->List V->Hp->VK->Prop:=λx vs H Q=>∃l b a d,x = .ref l/\vs=[.ref b]/\H l=some (.lst a)/\H b=some (.lst d)/\a.length+d.length<=sizeLine/\Q .non (upd H l (.lst (a++d)))
def zbN:MtM X "list.extend" zg5:=by
 intro j s M H x vs v G Q I A y h;obtain⟨l,b,J,L,rfl,rfl,i,o,E,q⟩:=h
 cases A
 obtain⟨u,rfl,w⟩:=y.one
 cases w
 obtain⟨z,d,n,r,C,e⟩:=I.lstM i;obtain⟨K,a,t,r2,p,m⟩:=I.lstM o;have g:d.toArray.size+a.toArray.size<=sizeLine:=by rw[wG,wG];lia
 have f:¬ (!d.toArray.isEmpty && Builtin.List.listTooLong (d.toArray.size+a.toArray.size))=true:=by
  rw[ze1 g,Bool.and_false];exact wT
 refine call_meets F.slot_list_extend ⟨_,e,rfl⟩ F.entry_list_extend (F.args_list_extend_2 _ _)
  (AutoSeq1.list_extend_list_list_0 l d.toArray n b a.toArray t f (by rw[wG];lia) (by lia)) ⟨e,m,?_⟩
 refine⟨.non,_,I.lset (its':=d++a) i e (by simp) (r.append r2) ?_,rfl,q⟩;rw[wD];lia
def rPop:V->List V->Hp->VK->Prop:=λx vs H Q=>∃l a y,x = .ref l/\vs=[]/\H l=some (.lst a)/\a[a.length - 1]? = some y/\Q y (upd H l (.lst a.dropLast))
def zfg:MtM X "list.pop" rPop:=by
 intro g s C H x vs v w Q I t p h;obtain⟨l,A,y,rfl,rfl,f,m,q⟩:=h
 cases t
 have b:=p.zero;subst b;obtain⟨z,a,n,r,i,e⟩:=I.lstM f;obtain⟨u,j,o⟩:=r.get m;have d:a.toArray[a.toArray.size - 1]? = some u:=by
  show a.toArray[a.length - 1]? = some u;rw[<- uq, <- i];exact j
 refine call_meets F.slot_list_pop ⟨_,e,rfl⟩ F.entry_list_pop (F.args_list_pop_1 _) (MeetsSeq.list_pop_last l a.toArray n u d (by rw[wG];lia)) ⟨e,?_⟩;refine⟨y,_,I.lset (its':=a.dropLast) f e ?_ r.dropLast ?_,o,q⟩
 .show a.toArray.eraseIdxIfInBounds (a.toArray.size - 1)=a.dropLast.toArray;rw[wG,List.eraseIdxIfInBounds_toArray,zau]
 .rw[List.length_dropLast];lia
end
end L2
namespace Att
open PySem PySem.W PySem.Calls PyProof.Rows
def z5q {P:Params}:∀(ns:List Int) (vs:List Value),WellAll P h vs (ns.map WData.int)->IntsAre vs ns:=by
 intro ns
 induction ns with
 | nil=>
  intro vs w;rw[uD] at w
  cases w
  exact .nil
 | cons n ns d=>
  intro vs w;rw[wI] at w
  cases w with
  | cons a b=>
   cases a
   exact .cons _ _ (d _ b)
def zaZ {l:OpenLaw}{n:Nat}(u:l.most=some n){P:Params}{h:Heap}
  (b:l.row.toRowW.claim.pre args=true) (m:WellAll P h vals args):
  ∃a vs ns,vals=[Value.ref a]/\args=[WData.list (ns.map WData.int)]/\h.get? a=some { cls :=.type "list",data :=.seq vs.toArray }/\IntsAre vs ns/\ns.length<=n:=by
 have j:WShape.hasAll [] args [.list .int]=true:=(pre_splitW b).1;have o:l.pre.holds [] { args:=args }=true:=(pre_splitW b).2;obtain⟨d,r,rfl,p,s⟩:=hasAllW_cons j;obtain rfl:=hasAllW_nil s;obtain⟨A,rfl,t⟩:=hasW_list p;obtain⟨ns,rfl⟩:=items_int t;have f:ns.length<=n:=by
  unfold OpenLaw.pre at o;have g:(WTm.not (.lt (.lit (.int (n:Int))) (.len (.arg 0)))).holds [] { args:=[.list (ns.map .int)] }=true:=by
   have g:=(holds_andW o).1;rw[u] at g;exact g
  have i:=condW_of g (w_not (w_lt w_lit (w_len_list (w_arg rfl))));rw[wd] at i;refine Nat.le_of_not_lt λq =>?_;have x:(n:Int)<((ns.length:Nat):Int):=by lia
  first
   | (rw[vz x] at i;exact absurd i (by decide))
   | (simp at i;lia)
 cases m with
 | cons y z=>
  cases z
  cases y with
  | list w e=>exact⟨_,_,ns,rfl,rfl,w,z5q ns _ e,f⟩
def zbl (l:OpenLaw)(args:List WData):l.row.toRowW.claim.post args (.bool true) args=true:=
 postW_of (r:=l.row.toRowW) (X:=(true == true))
  (show WShape.has [] (.bool true) .bool=true by first | rfl | decide | simp[WShape.has,WShape.arms,WShape.armsAll])
  (show (WTm.eq .res (.lit (.bool true))).value [] { args:=args,res:=some (.bool true),after:=args }=some (.bool (true == true)) from w_eq_bool (w_res rfl) w_lit) rfl
def z8T {l:OpenLaw}{n:Nat}{XP:(Str->Option Value)->Heap->Prop}{C:World->Heap->Prop}{d:DefRec}
  (S:l.most=some n) (u:d.params.defaults=[])
  (call:∀(w:World) (e b:Shared) (mg z:WmP) (i:Addr) (o:Obj) (A s g:Value) (a:Addr) (vs:List Value) (ns:List Int),
   Ground q loose [] XP w e mg z b.heap->C w b.heap->
   b.heap.get? i=some o->o.data = .func (docDef d.name d.params d.body d.scope A s g)->b.heap.CodeRec s d.name->mg d.name=some (.ref i)->
   b.heap.get? a=some { cls :=.type "list",data :=.seq vs.toArray }->IntsAre vs ns->ns.length<=n->b.gens = #[]->
   codeAny (model l.prog w) callerA (.call (.ref i) ⟨[.ref a],[]⟩) (λr s'=>r = .ok (.ret (.bool true))/\OldK b.heap s'.heap/\s'.os=b.os/\AllBare s'.gens) b):
  WalkO q loose XP C l.row.toRowW d [] (λf vs=>PySem.call f vs):=by
 intro w e b mg z G Y i o A s g J kV T N t F x O E I X p H W y Q;obtain rfl:J = .none:=Dflts.none F u;obtain rfl:kV = .none:=Dflts.noKw F;obtain⟨a,vs,ns,rfl,rfl,m,h,j⟩:=zaZ S p y;refine enter_call (j7 (call w e b mg z i o A s g a vs ns G Y T (fd_plain N) t x m h j O) λr s' U =>?_);obtain⟨rfl,K,L,M⟩:=U;exact⟨.inl ⟨.bool true,.bool true,[],rfl,λ_=>rfl,.bool true,zbl l _,λ_=>⟨List.Pairwise.nil,λ_ R=>(nomatch R)⟩⟩,K,L,M⟩
end Att
namespace L2
open PySem PySem.Spec PyProof.Rows
theorem z74:∀{vs:List Value}{ns:List Int},IntsAre vs ns->Vals (ns.map V.int) vs
 | _,_,.nil =>.nil
 | _,_,.cons n t h =>.cons ⟨t,rfl⟩ (z74 h)
set_option tactic.hygienic true in
def z9P {K:W.Frag}{c P:Addr}(h:z9Q K c=some P):K.lookup P=none/\∃o vs,K.lookup c=some o/\o.cls = .type "code"/\o.data = .fields vs/\vs[11]? = some (.ref P):=by
 unfold z9Q at h
 split at h
 .rename_i vs _ b
  split at h
  .rename_i e a
   split at h
   .rename_i d
    cases h
    exact⟨by simpa using d,_,vs,b,rfl,rfl,a⟩
   .cases h
  .cases h
 .cases h
def z1J (s:Stmt):Arguments:=match s with
 | .FunctionDef _ a _ _ _ _ _ _ _ _=>a
 | _=>{ posonlyargs:=[],args:=[],vararg:=none,kwonlyargs:=[],kw_defaults:=[],kwarg:=none,defaults:=[] }
def z0N (s:Stmt):List Stmt:=match s with
 | .FunctionDef _ _ b _ _ _ _ _ _ _=>b
 | _=>[]
def z07 (s:Stmt):Scope:=match s with
 | .FunctionDef _ _ _ _ _ _ sc _ _ _=>sc
 | _=>{ kind :=.function,names:=[],isGenerator:=false,isCoroutine:=false }
abbrev E0:XK:=λ_ _ _=>False
structure Fun (K:W.Frag)(x qual:Str)(st:Stmt)(f:Addr)(fd:FuncData):Prop where
 ex:∃(oc:Value) (od:Option Addr) (kV doc pm:Value) (an:Option Addr) (cdv ct:Value) (osl:Array (Option Value)),
  fd=W.fnOf x qual (z1J st) (z0N st) (z07 st) .none kV doc pm an cdv ct/\K.lookup f=some ⟨oc,od,.func fd,osl⟩/\W.codeIn K cdv qual=true
 kp:W.keepIn K (.ref f)=true
section
variable {P:Program}{w:World}{K:W.Frag}{mg:WmP}{base:Heap}
def Fun.binds {st:Stmt}{ps:List Str}(F:Fun K x qual st f fd)
  (h:∀(kV b e:Value) (d:Option Addr) (a ct:Value) (us:List Value),us.length=ps.length->bindArgs (W.fnOf x qual (z1J st) (z0N st) (z07 st) .none kV b e d a ct) ⟨us,[]⟩=pure (ps.zip us)):z3y K fd ps []:=by
 obtain⟨l,m,kV,b,e,d,a,ct,i,rfl,j,g⟩:=F.ex;exact .all (h kV b e d a ct)
def zfq {st:Stmt}{kV b d a ct:Value}(l:K.lookup f=some ⟨oc,od,.func (W.fnOf x qual (z1J st) (z0N st) (z07 st) .none kV b d an a ct),osl⟩)
  (c:W.codeIn K a qual=true) (k:W.keepIn K (.ref f)=true):Fun K x qual st f (W.fnOf x qual (z1J st) (z0N st) (z07 st) .none kV b d an a ct):=⟨⟨oc,od,kV,b,d,an,a,ct,osl,rfl,l,c⟩,k⟩
end
def iteF {A B:Prop}(h:B):if false=true then A else B:=by
 rw[if_neg wT];exact h
def iteT {A B:Prop}(h:A):if true=true then A else B:=by
 rw[if_pos rfl];exact h
def Same (H a:Hp):Prop:=∀b o,H b=some o->a b=some o
def Same.seq {K:W.Frag}{H b:Hp}{a:Addr}{xs:List V}(e:Same H b)(h:SqL K H a xs):SqL K b a xs:=by
 rcases h with (h | ⟨o,h⟩) | h
 .exact .inl (.inl (e _ _ h))
 .exact .inl (.inr ⟨o,e _ _ h⟩)
 .exact .inr h
end L2
set_option maxHeartbeats 4000000
namespace L2
open PySem PySem.Spec PyProof.Rows
open Builtin.Int (intBits)
abbrev Bt (n:Nat)(i:Int):Prop:=intBits i<=n
def Bt.le {m n:Nat}{i:Int}(h:Bt m i)(q:autoParam (m<=n) jB1):Bt n i:=wO h q
def z0b {n:Nat}{i:Int}(h:i.natAbs<2 ^ n):Bt n i:=PySem.intBits_le_iff.mpr h
def Bt.of_abs {n:Nat}{i j:Int}(h:Bt n j)(q:i.natAbs<=j.natAbs):Bt n i:=PySem.intBits_le_of_natAbs q h
def Bt.add {m n:Nat}{i j:Int}(h:Bt m i)(q:Bt n j):Bt (max m n+1) (i+j):=PySem.intBits_add_le h q
def Bt.sub {m n:Nat}{i j:Int}(h:Bt m i)(q:Bt n j):Bt (max m n+1) (i - j):=PySem.intBits_sub_le h q
def Bt.mul {m n:Nat}{i j:Int}(h:Bt m i)(q:Bt n j):Bt (m+n) (i*j):=PySem.intBits_mul_le h q
def Bt.neg {m:Nat}{i:Int}(h:Bt m i):Bt m (-i):=PySem.intBits_neg_le h
def zhD (i j:Int):Prop:=Bt 60000000 i/\Bt 60000000 j
def zkS (_ j:Int):Prop:=j≠0/\Bt 9000 j
def zbW (a:j≠0)(h:Bt 9000 j):j.natAbs.log2<9000:=by
 have e:intBits j=j.natAbs.log2+1:=by
  unfold Builtin.Int.intBits
  simp_all
 omega
section
variable {X:Cx}{a b c:Expr}{ta tb tc:TE}{pos:Pos}
def zgN:OpR X (binaryOp .Mult) (rI zhD λi j =>.int (i*j)):=opI λ_ _ _ _ _ _ _ a q=>mul_int q (IntMulOk.of_le a.1 a.2 (by decide))
def zdR:OpR X (binaryOp .FloorDiv) (rI zkS λi j =>.int (i.fdiv j)):=opI λ_ _ _ _ _ _ _ a q=>floordiv_int a.1 q (.inl (PyProof.noPylong_of_log2 (zbW a.1 a.2)))
end
mutual
def Rp (K:W.Frag)(H:Hp):PyData->V->Prop
 | .none,v=>v = .non
 | .bool b,v=>v = .bl b
 | .int i,v=>v = .int i
 | .str x,v=>v = .str x
 | .list e,v=>∃a d,v = .ref a/\SqL K H a d/\RpL K H e d
 | .tuple e,v=>∃a d,v = .ref a/\SqT K H a d/\RpL K H e d
 | .dict _,_=>False
def RpL (K:W.Frag)(H:Hp):List PyData->List V->Prop
 | [],a=>a=[]
 | d::b,a=>∃x r,a=x::r/\Rp K H d x/\RpL K H b r
end
def Same.seqT {K:W.Frag}{H b:Hp}{a:Addr}{xs:List V}(e:Same H b)(h:SqT K H a xs):SqT K b a xs:=by
 rcases h with (h | ⟨o,h⟩) | h
 .exact .inl (.inl (e _ _ h))
 .exact .inl (.inr ⟨o,e _ _ h⟩)
 .exact .inr h
mutual
theorem Rp.same {K:W.Frag}{H l:Hp}(e:Same H l):∀(d:PyData) {v:V},Rp K H d v->Rp K l d v
 | .none,_,h=>by simpa[Rp] using h
 | .bool _,_,h=>by simpa[Rp] using h
 | .int _,_,h=>by simpa[Rp] using h
 | .str _,_,h=>by simpa[Rp] using h
 | .list b,_,h=>by
  rw[Rp] at h ⊢;obtain⟨a,j,f,g,i⟩:=h;exact⟨a,j,f,e.seq g,RpL.same e b i⟩
 | .tuple b,_,h=>by
  rw[Rp] at h ⊢;obtain⟨a,j,f,g,i⟩:=h;exact⟨a,j,f,e.seqT g,RpL.same e b i⟩
 | .dict _,_,h=>by simp[Rp] at h
theorem RpL.same {K:W.Frag}{H b:Hp}(e:Same H b):∀(a:List PyData) {xs:List V},RpL K H a xs->RpL K b a xs
 | [],_,h=>by simpa[RpL] using h
 | d::a,_,h=>by
  rw[RpL] at h ⊢;obtain⟨x,r,f,g,i⟩:=h;exact⟨x,r,f,Rp.same e d g,RpL.same e a i⟩
end
section
variable {X:Cx}{pins:List (Addr × Obj)}{σ:St}{H:Hp}{s:Shared}
mutual
theorem Rp.reads (I:Inv X pins σ H s):∀(d:PyData) {v:V}{u:Value},Rp X.K H d v->RelV v u->∃as,Reads s.heap u d as
 | .none,v,u,h,r=>by
  rw[Rp] at h;subst h
  cases (show u=Value.none from r);exact⟨_,.none⟩
 | .bool b,v,u,h,r=>by
  rw[Rp] at h;subst h
  cases (show u=Value.bool b from r);exact⟨_,.bool b⟩
 | .int i,v,u,h,r=>by
  rw[Rp] at h;subst h;obtain⟨t,rfl⟩:=(show ∃t,u=Value.int i t from r);exact⟨_,.int i t⟩
 | .str x,v,u,h,r=>by
  rw[Rp] at h;subst h;obtain⟨t,rfl⟩:=(show ∃t,u=Value.str x t from r);exact⟨_,.str x t⟩
 | .list f,v,u,h,r=>by
  rw[Rp] at h;obtain⟨a,y,rfl,g,j⟩:=h
  cases (show u=Value.ref a from r)
  obtain⟨w,p,⟨o,n,e,l,_,m⟩,_⟩:=I.list g;obtain⟨as,q⟩:=RpL.reads I f j p;exact⟨_,.list e l m (by simpa using q)⟩
 | .tuple f,v,u,h,r=>by
  rw[Rp] at h;obtain⟨a,y,rfl,g,j⟩:=h
  cases (show u=Value.ref a from r)
  obtain⟨w,p,⟨o,e,l,n,m⟩,_⟩:=I.tuple g;obtain⟨as,q⟩:=RpL.reads I f j p;exact⟨_,.tuple e l m (by simpa using q)⟩
 | .dict _,v,u,h,r=>by simp[Rp] at h
theorem RpL.reads (I:Inv X pins σ H s):∀(a:List PyData) {xs:List V}{us:List Value},RpL X.K H a xs->Vals xs us->∃as,ReadsAll s.heap us a as
 | [],xs,us,h,r=>by
  rw[RpL] at h;subst h
  cases r;exact⟨_,.nil⟩
 | d::a,xs,us,h,r=>by
  rw[RpL] at h;obtain⟨x,t,rfl,b,e⟩:=h
  cases r with
  | cons r1 r2=>
   obtain⟨as,q⟩:=Rp.reads I d b r1;obtain⟨bs,f⟩:=RpL.reads I a e r2;exact⟨_,.cons q f⟩
end
end
section
variable {X:Cx}
def rEqD (K:W.Frag)(neg:Bool):R2:=λx y H Q=>∃d e,Rp K H d x/\Rp K H e y/\PySem.SeqAt.shaped d=true/\PySem.SeqAt.shaped e=true/\Q (.bl (if neg then !PyData.eqv d e else PyData.eqv d e)) H
def zjC (j:X.A.units+64<cLine):OpR X (compareOp .Eq) (rEqD X.K false):=by
 intro a s o H x y v u Q I l m h;obtain⟨d,e,b,f,g,i,q⟩:=h;obtain⟨n,r1⟩:=Rp.reads I d b l;obtain⟨bs,r2⟩:=Rp.reads I e f m;exact eq_dataH r1 r2 g i j ⟨.bl _,H,I,rfl,q⟩
def zjy (j:X.A.units+64<cLine):OpR X (compareOp .NotEq) (rEqD X.K true):=by
 intro a s o H x y v u Q I l m h;obtain⟨d,e,b,f,g,i,q⟩:=h;obtain⟨n,r1⟩:=Rp.reads I d b l;obtain⟨bs,r2⟩:=Rp.reads I e f m;exact ne_dataH r1 r2 g i j ⟨.bl _,H,I,rfl,q⟩
end
structure Cal (P:Program)(w:World)(K:W.Frag)(mg:WmP)(base:Heap)(CX:CXT)(k:Nat)(x:Str)(ps:List Str)(sp:Sp):Prop where
 ex:∃f fd,FnOk P w K mg base CX k f fd ps sp/\mg x=some (.ref f)/\W.keepIn K (.ref f)=true/\z3y K fd ps []
section
variable {X:Cx}{CX:CXT}{k:Nat}{ps:List Str}{sp:Sp}{E:XK}{x:Str}{p pos:Pos}{e:Expr}{es:List Expr}{t:TA}
def zlE (C:Cal X.prog X.w X.K X.mg X.base CX k x ps sp)(m:Room k X.A)(n:z2E CX X E)(d:PA X (e::es) t)(i:autoParam (Gl X x) jA1)
  (a:autoParam (dB x) jB1) (h:autoParam (sE e es X) jA1) (b:autoParam (bT pos es X) jA1):
  PE X (.Call (.Name x p) (e::es) [] pos) (zfQ sp [] E t):=by
 obtain⟨f,o,F,l,j,g⟩:=C.ex;exact zgH F m i l j g .nil n d a h b
end
end L2
namespace L2
open PySem PySem.Spec PyProof.Rows
section
variable {P:Program}{w:World}{H:Hp}{h h':Heap}{a:Addr}{o:HO}
def HOk.track (x:HOk P w H h)(f:H a=none)(new:z1m P w (upd H a o) h a o):HOk P w (upd H a o) h:=λb u e=>by
 by_cases d:b=a
 .subst d;rw[z0c] at e;grind
 .rw[z08 d] at e;exact(x b u e).stay (λc v _ q=>q) (λc q=>by rw[z08 (z0E q f)];exact q) λc g q=>by rw[z08 (z0E q f)];exact q
def HOk.other (x:HOk P w H h)(g:H a=none)(k:∀b u,b≠a->h.get? b=some u->h'.get? b=some u):HOk P w H h':=λb u e=>by
 have d:∀c v,H c=some v->c≠a:=λc v q z=>by grind
 refine(x b u e).stay (λc v f q=>k c v ?_ q) (λ_ q=>q) λ_ _ q=>q
 rcases f with z | z
 .rw[z];exact d b u e
 .exact d c _ z
end
end L2
namespace Mth
def zkB {a b c d:Int}(m:0<b)(n:0<d)(j:Int.gcd a b=1)(l:Int.gcd c d=1)(h:a*d=c*b):a=c/\b=d:=by
 have f  := by
  have:b.natAbs ∣ a.natAbs*d.natAbs:=by
   rw[<- vL,h,vL];exact Nat.dvd_mul_left _ _
  have g:Nat.Coprime _ _:=(jh _ _).trans j;exact ua.mp (g.dvd_of_dvd_mul_left this)
 have i  := by
  have:d.natAbs ∣ c.natAbs*b.natAbs:=by
   rw[<- vL, <- h,vL];exact Nat.dvd_mul_left _ _
  have g:Nat.Coprime _ _:=(jh _ _).trans l;exact ua.mp (g.dvd_of_dvd_mul_left this)
 have e  := Int.dvd_antisymm (wC m) (wC n) f i;subst e;exact⟨w9 (by lia) h,rfl⟩
def z3f {t b:Int}(h:0<b):(0)<(Int.gcd t b:Int)/\t=(Int.gcd t b)*(t / (Int.gcd t b))/\b=(Int.gcd t b)*(b / (Int.gcd t b))/\1<=b / (Int.gcd t b)/\Int.gcd (t / (Int.gcd t b)) (b / (Int.gcd t b))=1:=by
 have p:=(Int.gcd_pos_iff (a:=t) (b:=b)).mpr (.inr (by lia));have d:t=(Int.gcd t b)*(t / (Int.gcd t b)):=(jb (jq t b)).symm;have e:b=(Int.gcd t b)*(b / (Int.gcd t b)):=(jb (jE t b)).symm;refine⟨by lia,d,e,?_,?_⟩
 .rcases(show b / (Int.gcd t b)<1\/1<=b / (Int.gcd t b) by lia) with q | q
  .have:(Int.gcd t b)*(b / (Int.gcd t b))<=0:=vj (by lia) (by lia);lia
  .exact q
 .have q:=Int.gcd_mul_left (Int.gcd t b) (t / (Int.gcd t b)) (b / (Int.gcd t b));rw[<- d, <- e,jX] at q;have f:Int.gcd t b*1=Int.gcd t b*Int.gcd (t / (Int.gcd t b)) (b / (Int.gcd t b)):=by rw[Nat.mul_one];exact q
  exact(u7 p f).symm
def z14 {a b:Int}(d:0<b):(a / b).natAbs<=a.natAbs:=by
 rw[<- Int.fdiv_eq_ediv_of_nonneg a (wC d)];exact PySem.natAbs_fdiv_le a b
end Mth
namespace L2
open PySem PySem.Spec PyProof.Rows
def z9I (a : -(2 ^ 64)<i)(b:i<2 ^ 64):Bt 9000 i:=wO (PySem.intBits_le_64 a b) (by decide)
def bt_k (h:i.natAbs<2 ^ 640):Bt 640 i:=z0b h
def bt_n (a:0<=i)(h:i<2 ^ 640):Bt 640 i:=z0b (by lia)
def z0j {H:Hp}{p:Addr}(h:H p=none)(o:HO):Same H (upd H p o):=λb u q=>by rw[z08 (z0E q h)];exact q
def PE.imp {X:Cx}{e:Expr}{t t':TE}(h:PE X e t)(i:∀a H Q,t' a H Q->t a H Q):PE X e t':=λb s a H Q I q=>h _ s a H Q I (i a H Q q)
def OpR.imp {X:Cx}{f:Value->Value->Sem Value}{r r':R2}(h:OpR X f r)(i:∀x y H Q,r' x y H Q->r x y H Q):OpR X f r':=λa s e H x y v u Q I b d q=>h _ s e H x y v u Q I b d (i x y H Q q)
section
variable {X:Cx}{es:List Expr}{t:TA}{pos:Pos}
def SlR.imp {r r':V->Option Int->Option Int->Hp->VK->Prop}(h:SlR X r)(i:∀x b a H Q,r' x b a H Q->r x b a H Q):SlR X r':=by
 unfold SlR at h ⊢
 intros
 apply h
 all_goals first | assumption | simp_all
end
structure QE (X:Cx)(e:Expr)(t:TE):Prop where
 p:PE X e t
structure QT (X:Cx)(e:Expr)(t:TT):Prop where
 p:PT X e t
structure QW (X:Cx)(e:Expr)(t:TT):Prop where
 p:PW X e t
structure QA (X:Cx)(es:List Expr)(t:TA):Prop where
 p:PA X es t
structure QS (X:Cx)(st:Stmt)(t:TS):Prop where
 p:PS X st t
structure QSs (X:Cx)(st:List Stmt)(t:TS):Prop where
 p:PSs X st t
structure QG (X:Cx)(e:Expr)(t:TG):Prop where
 p:PG X e t
structure QGs (X:Cx)(es:List Expr)(t:TGs):Prop where
 p:PGs X es t
structure QI (X:Cx)(tg e:Expr)(t:TI):Prop where
 p:PI X tg e t
structure QO (X:Cx)(e:Option Expr)(t:TO):Prop where
 p:PO X e t
section
variable {X:Cx}{a b c e f o:Expr}{ta tb tc te:TE}{pos pos2 p2:Pos}{tA tB':TT}{rest:List Expr}{es:List Expr}{aa:TA}
def ziZ {i j a}:QE X (.Constant (.int i) j a) (tC (.int i)):=⟨zjk⟩
def zlx {i j a}:QE X (.Constant (.bool i) j a) (tC (.bl i)):=⟨zlG⟩
def ziW {j a}:QE X (.Constant .none j a) (tC .non):=⟨zjh⟩
def ziV {x j a}:QE X (.Constant (.str x) j a) (tC (.str x)):=⟨zjg⟩
def qv (i:Nat){b:Pos}(d:autoParam (X.N[i]? = some x) jA1)(f:Vis X.env.scope x:=by first | exact Or.inl rfl | exact Or.inr (Or.inl rfl) | exact Or.inr (Or.inr rfl))(e:autoParam (dB x) jB1)
  (a:autoParam ((x == ("__classdict__"))=false) jB1):QE X (.Name x b) (tVar i):=⟨zf8 d f e a⟩
def zlu {op:Operator}(f:OpR X (binaryOp op) r)(d:QE X a ta)(e:QE X b tb):QE X (.BinOp a op b pos) (tOp r ta tb):=⟨zlC f d.p e.p⟩
def zls {op:UnaryOp}(d:UnR X (unaryOp op) r)(b:QE X a ta):QE X (.UnaryOp op a pos) (tUn r ta):=⟨zlB d b.p⟩
def zgp {op:CmpOp}(g:OpR X (compareOp op) r)(d:QE X a ta)(e:QE X b tb)(f:behindInMarks op b=false):QE X (.Compare a [op] [b] pos) (tOp r ta tb):=⟨zgG g d.p e.p f⟩
def zgg {op:CmpOp}(g:OpR X (compareOp op) r)(d:QE X a ta)(e:QE X b tb)(f:behindInMarks op b=false):QT X (.Compare a [op] [b] pos) (zfP (tOp r ta tb)):=⟨zgv g d.p e.p f⟩
def ziK {t:TE}(h:QE X e t)(b:autoParam (∀a,isTrue e X.env a=(do let v <- a;standAt e.pos;holding [v] (truthy v))) jC1):QT X e (tB t):=⟨zj3 h.p b⟩
def ziL (b:QT X a tA):QT X (.UnaryOp .Not a pos) (tNot tA):=⟨zj4 b.p⟩
def zgd (b:QT X a tA):QW X (.BoolOp .And [a] pos) tA:=⟨zgs b.p⟩
def ziI (b:QT X a tA):QW X (.BoolOp .Or [a] pos) tA:=⟨zj1 b.p⟩
def ziJ (d:QT X a tA)(e:QW X (.BoolOp .And (b::rest) pos) tB'):QW X (.BoolOp .And (a::b::rest) pos) (tAnd tA tB'):=⟨zj2 d.p e.p⟩
def zlp (d:QT X a tA)(e:QW X (.BoolOp .Or (b::rest) pos) tB'):QW X (.BoolOp .Or (a::b::rest) pos) (tOr tA tB'):=⟨zlz d.p e.p⟩
theorem QW.pt {t:TT}(h:QW X e t):QT X e t:=⟨h.p.pt⟩
def zgr {v:V}(b:Gl X x)(d:X.mg x=none)(f:bootBuiltins x=some u)(r:RelV v u)(e:autoParam (x≠"__name__") jB1)(a:autoParam (dB x) jB1):QE X (.Name x pos) (tC v):=⟨zgI b d f r e a⟩
def z60:QA X [] tNil:=⟨zjn⟩
def z3F (a:QE X e te)(b:QA X es aa)(d:autoParam (sE e es X) jA1):QA X (e::es) (zhW te aa):=⟨zgK a.p b.p d⟩
def zlw {k:Nat}{ps:List Str}(C:Cal X.prog X.w X.K X.mg X.base CX k x ps sp)(h:Room k X.A)(i:z2E CX X E)(d:QA X (e::es) aa)(g:autoParam (Gl X x) jA1)
  (a:autoParam (dB x) jB1) (f:autoParam (sE e es X) jA1) (b:autoParam (bT pos es X) jA1):QE X (.Call (.Name x pp) (e::es) [] pos) (zfQ sp [] E aa):=⟨zlE C h i d.p g a f b⟩
def z3X {x:Str}{m:Pos}{id:String}{r:List V->Hp->VK->Prop}(f:z0A X (.builtin id) r)(h:Gl X x)(i:X.mg x=none)(l:bootBuiltins x=some (.builtin id))(d:QA X (e::es) aa)(j:autoParam (x≠"__name__") jB1)(a:autoParam (dB x) jB1)
  (g:autoParam (sE e es X) jA1) (b:autoParam (bT pos es X) jA1):QE X (.Call (.Name x m) (e::es) [] pos) (tCB r aa):=⟨zdO f h i l d.p j a g b⟩
def z3W {x:Str}{m:Pos}{id:String}{r:List V->Hp->VK->Prop}(f:z0A X (.type id) r)(h:Gl X x)(i:X.mg x=none)(l:bootBuiltins x=some (.type id))(d:QA X (e::es) aa)(j:autoParam (x≠"__name__") jB1)(a:autoParam (dB x) jB1)
  (g:autoParam (sE e es X) jA1) (b:autoParam (bT pos es X) jA1):QE X (.Call (.Name x m) (e::es) [] pos) (tCB r aa):=⟨zbx f h i l d.p j a g b⟩
def zlv (f:IxR X r)(d:QE X a ta)(e:QE X b tb)(g:z8W b):QE X (.Subscript a b pos) (tOp r ta tb):=⟨zlD f d.p e.p g⟩
def zgm:QO X none zaP:=⟨zgD⟩
def zgl (h:QE X e te):QO X (some e) (zhR te):=⟨zgC h.p⟩
def zdB {b a:Option Expr}{tl d:TO}(h:SlR X r)(f:QE X e te)(g:QO X b tl)(i:QO X a d):QE X (.Subscript e (.Slice b a none p2) pos) (tSl r te tl d):=⟨zdI h f.p g.p i.p⟩
def zf4 {T id:String}{name:Str}{a b:Pos}{r:V->List V->Hp->VK->Prop}(j:PlainAttrs T)(f:Slot T name id)(g:typeOf (.builtin id)=pure (.type "method_descriptor"))(h:MtR X id r)(i:QE X o te)
  (d:autoParam (aB o name X) jA1) (e:autoParam (aL a b) jA1):QE X (.Call (.Attribute o name a) [] [] b) (tBM0 X.K T r te):=⟨zjl j f g h i.p d e⟩
def zgq {T id:String}{name:Str}(n:PlainAttrs T)(g:Slot T name id)(h:typeOf (.builtin id)=pure (.type "method_descriptor"))(j:MtR X id r)(l:QE X o te)(i:QA X (e::es) aa)
  (b:autoParam (aB o name X) jA1)
  (f:autoParam (aG cpos (e::es) X) jA1)
  (d:autoParam (aL apos cpos) jA1) (m:autoParam (sE e es X) jA1) (a:autoParam (bT cpos es X) jA1):
  QE X (.Call (.Attribute o name apos) (e::es) [] cpos) (tBM X.K T r te aa):=⟨zlF n g h j l.p i.p b f d m a⟩
end
section
variable {X:Cx}{st:Stmt}{rest body a b:List Stmt}{t u tb:TS}{e tg c iter:Expr}{te:TE}{tc:TT}{pos:Pos}{g:TG}{wi:TI}{aa:TA}
def zgi:QSs X [] zhS:=⟨zgx⟩
def zds (a:QS X st t)(b:QSs X rest u):QSs X (st::rest) (tSeq t u):=⟨zdD a.p b.p⟩
def zgh (a:QS X st t):QSs X [st] t:=⟨zgw a.p⟩
def zdu:QS X st zeO:=⟨zdF⟩
def ziN (a:QE X e te):QS X (.Return (some e) pos) (tRet te):=⟨zj7 a.p⟩
def z8p (a:QE X e te)(b:autoParam (swapsWith e none pos.line X.env=pure false) jA1):QS X (.Expr e pos) (zhT te):=⟨zgy a.p b⟩
def zlq (f:QT X c tc)(d:QSs X a t)(e:QSs X b u):QS X (.If c a b pos) (tIfS tc t u):=⟨zlA f.p d.p e.p⟩
def zdt (d:PassesOwn (model X.prog X.w) X.A X.env X.xe)(b:QT X c tc)(a:QSs X body tb):QS X (.While c body [] pos) (zeN tc tb):=⟨zdE d b.p a.p⟩
def zf3 (f:PassesOwn (model X.prog X.w) X.A X.env X.xe)(b:X.calm=true)(e:QI X tg iter wi)(d:QG X tg g)(a:QSs X body tb)
  (h:autoParam (fI iter X) jC1):QS X (.For tg iter body [] pos) (tFor wi g tb):=⟨zj9 f b e.p d.p a.p h⟩
def ziP (b:QE X e te)(d:QG X tg g)(f:autoParam (swapsWithSole [tg] e pos.line X.env=pure false) jA1)(h:autoParam (swappedStores [tg] e X.env=pure none) jA1)
  (a:autoParam ((assignEach [tg] X.env).map (·.2)=[assign tg X.env]) jA1):QS X (.Assign [tg] e pos) (tAsg te g):=⟨zja b.p d.p f h a⟩
def zgn:QGs X [] gNil:=⟨zgF⟩
def zdy {es:List Expr}{t:TG}{u:TGs}(a:QG X e t)(b:QGs X es u)
  (d:autoParam ((assignEach (e::es) X.env).map (·.2)=assign e X.env::(assignEach es X.env).map (·.2)) jA1):QGs X (e::es) (zeh t u):=⟨zdH a.p b.p d⟩
def ziR {es:List Expr}{k:Nat}{t:TGs}{n:Nat}(b:X.calm=true)(h:QGs X es t)
  (d:autoParam ((assignEach es X.env).length=n) jA1) (a:autoParam ((assignEach es X.env).findIdx? (·.1)=none) jA1):QG X (.Tuple es k pos) (gTup X.K n t):=⟨zjd b h.p d a⟩
def z7j {a:Expr}{p:Pos}(d:Gl X "range")(e:X.mg "range"=none)(b:QA X [a] aa)(f:autoParam (starEach [a] X.env=[(false,eval a X.env)]) jA1):QI X tg (.Call (.Name "range" p) [a] [] pos) (zkp aa):=⟨zbu d e b.p f⟩
end
def eqv2 {a b c d:Int}:PyData.eqv (.tuple [.int a,.int b]) (.tuple [.int c,.int d])=decide (a=c/\b=d):=by
 simp[PyData.eqv,PyData.eqvAll]
 by_cases e:a=c <;> by_cases f:b=d <;> simp[e,f]
end L2
namespace Mth
def g3 (x y b:Int):Int:=((Int.gcd ((Int.gcd b x):Int) y:Nat):Int)
def z4Y (x y b:Int):g3 x y b ∣ b:=jY (jq _ _) (jq b x)
def z9z (x y b:Int):g3 x y b ∣ x:=jY (jq _ _) (jE b x)
def z9y (x y b:Int):g3 x y b ∣ y:=jE _ _
def z9x {x y b:Int}(h:0<b):0<g3 x y b:=by
 have p:=(Int.gcd_pos_iff (a:=b) (b:=x)).mpr (.inl (by lia));have d:=(Int.gcd_pos_iff (a:=((Int.gcd b x))) (b:=y)).mpr (.inl (by lia));unfold g3;lia
structure Plc (x y b u v t:Int):Prop where
 pos:1<=t
 cop:Int.gcd ((Int.gcd u v):Int) t=1
 cx:u*b=x*t
 cy:v*b=y*t
 lu:u.natAbs<=x.natAbs
 lv:v.natAbs<=y.natAbs
 lt:t.natAbs<=b.natAbs
def z2R (a b c:Int):Int.gcd ((Int.gcd a b):Int) c=Nat.gcd (Nat.gcd a.natAbs b.natAbs) c.natAbs:=rfl
def zf6 (h:0<b):Plc x y b (x / g3 x y b) (y / g3 x y b) (b / g3 x y b):=by
 have f:=z9x (x:=x) (y:=y) h;have ex:x=g3 x y b*(x / g3 x y b):=(jb (z9z x y b)).symm;have d:y=g3 x y b*(y / g3 x y b):=(jb (z9y x y b)).symm;have a:b=g3 x y b*(b / g3 x y b):=(jb (z4Y x y b)).symm;have m:g3 x y b=((Nat.gcd (Nat.gcd b.natAbs x.natAbs) y.natAbs):Int):=rfl;refine⟨?_,?_,?_,?_,z14 f,z14 f,z14 f⟩
 .generalize b / g3 x y b=t at a
  rcases(show t<1\/1<=t by lia) with q | q
  .have:g3 x y b*t<=0:=vj (by lia) (by lia);lia
  .exact q
 .rw[z2R];generalize p:x / g3 x y b=u at ex;generalize r:y / g3 x y b=v at d;generalize o:b / g3 x y b=t at a;have nx:=congrArg Int.natAbs ex;have i:=congrArg Int.natAbs d;have g:=congrArg Int.natAbs a;rw[vL] at nx i g;have ng:(g3 x y b).natAbs=Nat.gcd (Nat.gcd b.natAbs x.natAbs) y.natAbs:=by rw[m,jX]
  generalize n:(g3 x y b).natAbs=G at nx i g ng;have e:0<G:=by lia
  rw[nx,i,g,Nat.gcd_mul_left,Nat.gcd_mul_left] at ng;have j:G*1=G*Nat.gcd (Nat.gcd t.natAbs u.natAbs) v.natAbs:=by rw[Nat.mul_one];exact ng
  have l:=u7 e j;rw[jh (Nat.gcd u.natAbs v.natAbs), <- Nat.gcd_assoc];exact l.symm
 .have:x / g3 x y b*b=x / g3 x y b*(g3 x y b*(b / g3 x y b)):=congrArg _ a;rw[this,Int.mul_left_comm, <- u3, <- ex]
 .have:y / g3 x y b*b=y / g3 x y b*(g3 x y b*(b / g3 x y b)):=congrArg _ a;rw[this,Int.mul_left_comm, <- u3, <- d]
end Mth
namespace L2
open PySem PySem.Spec PyProof.Rows
structure Fly (P:Program)(w:World)(outer:List Env)(H:Hp)(h0:Heap)(Cv:Value)(H':Hp)(ea t:Addr)(B h:Heap):Prop where
 fl:Heap.FlyingW B outer ea Cv (.ref t) h
 un:Un (frs outer) [] H H' h0 h
 hok:HOk P w H' h
 trk:∀b o,H' b=some o->∃ob,B.get? b=some ob
 kep:∀b o,h0.get? b=some o->b ∉ frs outer->∃ob,B.get? b=some ob
def CXe (P:Program)(w:World):CXT:=λa H s E e b=>∃(g t:Addr) (d:Value) (f:Hp) (B:Heap),e = .ref g/\Fly P w a H s.heap d f g t B b.heap/\AllBare b.gens/\b.os=s.os/\E d none f
section
variable {P:Program}{w:World}{outer:List Env}{H H':Hp}{h0 h h2:Heap}{Cv:Value}{ea t:Addr}{B:Heap}
def z1m.there {a:Addr}{o:HO}(x:z1m P w H h a o):∃ob,h.get? a=some ob:=by
 cases o with
 | lst d=>obtain⟨_,_,_,_,e⟩:=x;exact⟨_,e⟩
 | tup d=>obtain⟨_,_,_,⟨ob,e,_⟩,_⟩:=x;exact⟨_,e⟩
 | dK b=>obtain⟨_,_,_,_,o,_,_,e,_⟩:=x;exact⟨_,e⟩
 | dT b=>obtain⟨_,_,_,_,o,_,_,e,_⟩:=x;exact⟨_,e⟩
 | set S n=>obtain⟨o,_,_,_,e,_⟩:=x;exact⟨_,e⟩
 | ins C g fs=>obtain⟨_,_,_,e,_⟩:=x;exact⟨_,e⟩
 | own y=>obtain⟨_,e⟩:=x;exact⟨_,e⟩
 | xd fs=>obtain⟨_,⟨_,_,_,e,_⟩,_⟩:=x;exact⟨_,e⟩
 | rng j i=>obtain⟨_,_,_,e⟩:=x;exact⟨_,e⟩
 | frz ob u=>obtain⟨e,_⟩:=x;exact⟨_,e⟩
 | tbl ps=>rcases x with e | ⟨_,_,_,_,_,_,_,_,_,_,_,e,_⟩ <;> exact⟨_,e⟩
 | met f y=>exact⟨_,(x)⟩
 | ext l=>obtain⟨_,⟨_,e⟩,_⟩:=x;exact⟨_,e⟩
end
section
variable {P:Program}{w:World}{K:W.Frag}{mg:WmP}{base:Heap}{N:List Str}{qual:Str}{sc:Scope}{f:Addr}{cdv:Value}{A:Around}{outer:List Env}{s:Shared}{H:Hp}{E:XK}
def Fun.okN {st:Stmt}{ps:List Str}{k:Nat}(F:Fun K x qual st f fd)(S:z3h N ps (z07 st))(len:∀vs H Q E,sp vs H Q E->vs.length=ps.length)
  (d:∀b A a s H vs Q E,Room k (A.deeper (envOfC qual (z07 st) s.heap.objs.size f b))->sp vs H Q E->
   ∃t,QSs ((cxOf (CXe P w) P w K mg base N qual (z07 st) f b A a s H E).wish λ_ _=>False) (z0N st) t/\t { nx:=λ_ i=>Q .non i,rt:=Q } (z35 N vs) H):FnOk P w K mg base (CXe P w) (k+1) f fd ps sp:=by
 obtain⟨u,y,kV,j,z,o,b,r,n,rfl,m,e⟩:=F.ex;refine zme m e S len λA a s H vs Q E l g =>?_;obtain⟨t,h,q⟩:=d b A _ s H vs Q E l g;exact⟨t,h.p.nox,q⟩
def zf9:z2E (CXe P w) X E0:=λ_ _ _ _ _ _ _ ⟨_,_,_,_,_,_,_,_,_,q⟩=>q.elim
end
def zmz (a C:Addr)(h:Heap):Prop:=∃o,h.get? a=some o/\o.cls = .ref C/\∃vs,o.data = .fields vs
section
variable {X:Cx}
theorem vals_refs:∀(cs:List Addr) {us:List Value},Vals (cs.map V.ref) us->us=cs.map Value.ref
 | [],_,r=>by cases r;rfl
 | c::cs,_,r=>by
  cases r with
  | cons r1 r2=>
   rw[vals_refs cs r2]
   cases (show _=Value.ref c from r1)
   rfl
end
open Builtin.Str
section
variable {X:Cx}
def zld:List V->Hp->VK->Prop:=λa H Q=>∃x n,a=[.str x]/\PySem.intText? x=some n/\x.length<=640/\Q (.int n) H
def zcE:z0A X (.type "int") zld:=by
 intro a s g H f e Q I r h;obtain⟨x,n,rfl,d,b,q⟩:=h;obtain⟨u,rfl,t,rfl⟩:=z30 r;exact W.KIN.call_text d b ⟨.int n,H,I.tok _,⟨_,rfl⟩,q⟩
def rSlS:V->Option Int->Option Int->Hp->VK->Prop:=λx b a H Q=>∃y,x = .str y/\y.length<=sizeLine/\Q (.str (Txt.slice y b a)) H
def zi2:SlR X rSlS:=by
 intro a s M H x v K L E p sl Q I G z pl b h;obtain⟨y,rfl,C,q⟩:=h;obtain⟨t,rfl⟩:=G;refine⟨"str",_,F.slot_str_getitem.lookup,typeIs_str _ _ _,?_⟩;obtain⟨o,r,m,n⟩:=z;have fin:∀l u,l.map (·.1)=E->u.map (·.1)=p->K=partValue l->L=partValue u->wpAny (model X.prog X.w) X.A (getItem (.str y t) (.ref sl)) (EP X a M Q) X.xe s:=λl u d e f g=>by
  subst d e f g;exact wpAny_getItem_str_slice (l:=l) (u:=u) (st:=none) ⟨o,r,m,n⟩ rfl (post_val_or_str ⟨wO (Txt.slice_le y _ _) C,λJ k=>⟨.str _,H,I.tok k,⟨J,rfl⟩,q⟩⟩)
 cases pl with
 | none=>
  cases b with
  | none=>exact fin none none rfl rfl rfl rfl
  | int j u=>exact fin none (some (j,u)) rfl rfl rfl rfl
 | int i w=>
  cases b with
  | none=>exact fin (some (i,w)) none rfl rfl rfl rfl
  | int j u=>exact fin (some (i,w)) (some (j,u)) rfl rfl rfl rfl
def Its (x:Str):It:=⟨λi _=>i<x.cps.size,λi H v a=>a=H/\∃c,x.cps[i]? = some c/\v = .str ⟨#[c]⟩,λi _=>x.cps.size<=i⟩
def z8Z {P:Program}{w:World}{K:W.Frag}{tg:Expr}(x:Str)(t:Tok)(it:Addr){p:String}(N:["enumerate","zip","dict_itemiterator","dict_reverseitemiterator","odict_iterator","itertools.zip_longest","itertools.pairwise"].contains p=false)
  (W:∀A':Around,A'.handled=none->Walks P w A' it [it] [it] x.cps.size (SignAt x) (λi h=>h.IsStrIter it p x t i)) (hs:∀A i s Q E,s.heap.IsStrIter it p x t i->Q (.ref it) s->wpAny (model P w) A (pyIter (.ref it)) Q E s):
  Turn P w K tg (Its x) [it] it (λi h=>i<=x.cps.size/\h.IsStrIter it p x t i) where
 mem:=by simp
 obj:=λi h a b g=>by
  have e:b=it:=by simpa using g
  subst e;obtain⟨_,o,e,c,d⟩:=a;exact⟨o,e,λv z=>by rw[d] at z;cases z⟩
 keep:=λi h j a k=>⟨a.1,(W { } rfl).frame i h j a.2 k⟩
 item:=by
  intro X J O G L i f s T H E I m a n;subst J O G;obtain⟨q,r,f2,y,C,F⟩:=m it (by simp);refine(W X.A (I.ok.hd L)).item i s _ _ n a.2 λv j S hv l R =>?_;obtain⟨c,u,M,rfl⟩:=hv;have U:Inv X f T H { s with heap:=j,toks:=S }:=I.turned (λb o g e=>R b o (by simpa using g) e) q r y C F;obtain⟨o,Y,Z,e3⟩:=id l;exact⟨_,rfl,zed (s:={ s with heap:=j,toks:=S }) Y Z e3 N ⟨.str ⟨#[c]⟩,H,U,⟨u,rfl⟩,⟨rfl,c,M,rfl⟩,⟨n,l⟩,λb g=>(m b g).1⟩⟩
 done:=by
  intro X J O G L i f s T H E I m a n;subst J O G;obtain⟨q,r,f2,y,C,F⟩:=m it (by simp);have e:i=x.cps.size:=Nat.le_antisymm a.1 n;subst e;exact(W X.A (I.ok.hd L)).done s _ _ a.2 λj S R=>⟨rfl,I.turned (λb o g e=>R b o (by simpa using g) e) q r y C F⟩
 self:=λA i s Q E a h=>hs A i s Q E a.2 h
variable {tg:Expr}
def ziX {a:Pos}(h:QA X es aa):QE X (.List es a) (tLst aa):=⟨zji h.p⟩
def z5P:MtR X "list.append" zbg:=zbO
end
end L2
namespace Mth
def z4t {a b:Nat}(h:∀p,p ∣ a->p ∣ b->p ∣ 1):Nat.Coprime a b:=
 Nat.dvd_one.mp (h _ (Nat.gcd_dvd_left a b) (Nat.gcd_dvd_right a b))
def z8M {p:Nat}{x:Int}:p ∣ x.natAbs↔(p:Int) ∣ x:=by rw[<- ua,jX]
def z6T {p z c:Nat}{x a:Int}(b:Nat.Coprime z c)(d:p ∣ z)(h:(p:Int) ∣ x*c+a*z):p ∣ x.natAbs:=by
 have e:(p:Int) ∣ a*z:=jY (Int.natCast_dvd_natCast.mpr d) (Int.dvd_mul_left _ _);have f  := (Int.dvd_add_left e).mp h;have g  := by
  have:=z8M.mpr f;rw[vL] at this;exact this
 exact(Nat.Coprime.coprime_dvd_left d b).dvd_of_dvd_mul_right g
def zbp {x y z a b c:Int}(hz:0<z)(hc:0<c)(W:Int.gcd ((Int.gcd x y:Nat)) z=1)(X:Int.gcd ((Int.gcd a b:Nat)) c=1)
  {g u v r:Int}(T:g=((Int.gcd z c:Nat))) (H:u=x*(c / g)+a*(z / g)) (I:v=y*(c / g)+b*(z / g)) (U:r=((Int.gcd ((Int.gcd g u:Nat):Int) v:Nat))):
  0<g/\0<r/\g.natAbs<=z.natAbs/\r.natAbs<=z.natAbs/\Plc (x*c+a*z) (y*c+b*z) (z*c) (u / r) (v / r) (z / g*(c / r)):=by
 have gp:=(Int.gcd_pos_iff (a:=z) (b:=c)).mpr (.inl (by omega));have A:0<g:=by omega
 have gz:g ∣ z:=T ▸ jq z c;have gc:g ∣ c:=T ▸ jE z c;have F:r=g3 u v g:=U;have N:0<r:=F ▸ z9x A;have rg:r ∣ g:=F ▸ z4Y u v g;have ru:r ∣ u:=F ▸ z9z u v g;have rv:r ∣ v:=F ▸ z9y u v g;obtain⟨z',s⟩:=gz;obtain⟨c',w⟩:=gc;obtain⟨g',e⟩:=rg;obtain⟨u',i⟩:=ru;obtain⟨v',j⟩:=rv;have q1:z / g=z':=by rw[s];exact uI z' (by omega)
 have q2:c / g=c':=by rw[w];exact uI c' (by omega)
 have q3:u / r=u':=by rw[i];exact uI u' (by omega)
 have q4:v / r=v':=by rw[j];exact uI v' (by omega)
 have q5:c / r=g'*c':=by rw[w,e,u3];exact uI _ (by omega)
 rw[q1,q2] at H I;rw[q1,q3,q4,q5];have O:0<z':=by
  rcases(show z'<=0\/0<z' by omega) with h | h
  .have:=vj (wC A) h;omega
  .exact h
 have L:0<c':=by
  rcases(show c'<=0\/0<c' by omega) with h | h
  .have:=vj (wC A) h;omega
  .exact h
 have M:0<g':=by
  rcases(show g'<=0\/0<g' by omega) with h | h
  .have:=vj (wC N) h;omega
  .exact h
 have f:Nat.Coprime z'.natAbs c'.natAbs:=by
  have q:=Int.gcd_mul_left g z' c';rw[<- s, <- w] at q;have q':g.natAbs*1=g.natAbs*Int.gcd z' c':=by omega
  exact(u7 (by omega) q').symm
 have cg:Nat.gcd (Nat.gcd g'.natAbs u'.natAbs) v'.natAbs=1:=by
  have Y:=congrArg Int.natAbs e;have Z:=congrArg Int.natAbs i;have n3:=congrArg Int.natAbs j;rw[vL] at Y Z n3;have K:r.natAbs=Nat.gcd (Nat.gcd g.natAbs u.natAbs) v.natAbs:=by rw[U,jX,z2R]
  rw[Y,Z,n3,Nat.gcd_mul_left,Nat.gcd_mul_left] at K;have:r.natAbs*1=r.natAbs*Nat.gcd (Nat.gcd g'.natAbs u'.natAbs) v'.natAbs:=by omega
  exact(u7 (by omega) this).symm
 have m:(z'.natAbs:Int)=z':=Int.natAbs_of_nonneg (by omega);have l:(c'.natAbs:Int)=c':=Int.natAbs_of_nonneg (by omega);have big:∀{p:Nat},p ∣ u'.natAbs->(p:Int) ∣ u:=λh=>i ▸ jY (z8M.mp h) (Int.dvd_mul_left _ _);have o:∀{p:Nat},p ∣ v'.natAbs->(p:Int) ∣ v:=λh=>j ▸ jY (z8M.mp h) (Int.dvd_mul_left _ _);have k1:Nat.Coprime (Nat.gcd u'.natAbs v'.natAbs) z'.natAbs:=by
  refine z4t λp t n =>?_;have C:=big (jk t (Nat.gcd_dvd_left _ _));have E:=o (jk t (Nat.gcd_dvd_right _ _));rw[H, <- m, <- l] at C;rw[I, <- m, <- l] at E;have Q:p ∣ z.natAbs:=by rw[s,vL];exact jk n (Nat.dvd_mul_left _ _)
  have:=j4 (j4 (z6T f n C) (z6T f n E)) Q;rw[z2R] at W;rw[W] at this;exact this
 have k2:Nat.Coprime (Nat.gcd u'.natAbs v'.natAbs) c'.natAbs:=by
  refine z4t λp t n =>?_;have C:=big (jk t (Nat.gcd_dvd_left _ _));have E:=o (jk t (Nat.gcd_dvd_right _ _));rw[H, <- m, <- l,Int.add_comm] at C;rw[I, <- m, <- l,Int.add_comm] at E;have Q:p ∣ c.natAbs:=by rw[w,vL];exact jk n (Nat.dvd_mul_left _ _)
  have:=j4 (j4 (z6T f.symm n C) (z6T f.symm n E)) Q;rw[z2R] at X;rw[X] at this;exact this
 have k3:Nat.Coprime (Nat.gcd u'.natAbs v'.natAbs) g'.natAbs:=by
  refine z4t λp t n =>?_;have:=j4 (j4 n (jk t (Nat.gcd_dvd_left _ _))) (jk t (Nat.gcd_dvd_right _ _));rw[cg] at this;exact this
 have R:x*c+a*z=g*r*u':=by rw[u3, <- i,H,w,s];grind
 have S:y*c+b*z=g*r*v':=by rw[u3, <- j,I,w,s];grind
 have J:z*c=g*r*(z'*(g'*c')):=by rw[s,w];generalize g=G at e ⊢;subst e;grind
 have a0:0<g*r:=w5 A N;have d:∀k:Int,k.natAbs<=(g*r*k).natAbs:=λk=>by
  rw[vL];exact Nat.le_mul_of_pos_left _ (by omega)
 refine⟨A,N,Nat.le_of_dvd (by omega) (ua.mpr ⟨z',s⟩),Nat.le_of_dvd (by omega) (ua.mpr ⟨g'*z',by rw[s,e,u3]⟩),?_,?_,?_,?_,?_,?_,?_⟩
 .have:=w5 O (w5 M L);omega
 .rw[z2R,vL,vL];exact Nat.Coprime.mul_right k1 (Nat.Coprime.mul_right k3 k2)
 .rw[R,J];grind
 .rw[S,J];grind
 .rw[R];exact d _
 .rw[S];exact d _
 .rw[J];exact d _
end Mth
namespace L2
open PySem PySem.Spec PyProof.Rows
section
variable {prog:Program}{w:World}{A:Around}{R:Result->Shared->Prop}{s:Shared}
def zhB (M:Model)(A:Around)(ct:Option Expr)(env:Env)(Q:Bool->Shared->Prop)(E:WvP)(s:Shared):Prop:=
 match ct with
 | none=>Q true s
 | some c=>wpAny M A (isTrue c env (eval c env)) Q E s
def z7Y {g:Pos}(I:Nat->Shared->Prop)
  (turn:∀n s,I n s->wpAny (model prog w) A (pyNext it) (λr p=>match r with
   | none=>R (.ok .next) p
   | some v=>wpAny (model prog w) A (letOwnedTupleGo target it v) (λ_ C=>wpAny (model prog w) A (assign target env v) (λ_ q=>zhB (model prog w) A ct env (λok b=>if ok=true then wpAny (model prog w) A (eval elt env) (λx t=>
     wpAny (model prog w) A (call (.builtin "list.append") [acc,x]) (λ_ u=>∃m,m<n/\I m u) (notedBy (model prog w) A env λe s'=>R (.error e) s') t)
     (notedBy (model prog w) A env λe s'=>R (.error e) s') b else ∃m,m<n/\I m b) (notedBy (model prog w) A env λe s'=>R (.error e) s') q) (notedBy (model prog w) A env λe s'=>R (.error e) s') C) (notedBy (model prog w) A env λe s'=>R (.error e) s') p) (notedBy (model prog w) A env λe s'=>R (.error e) s') s)
  (n:Nat) (h:I n s):
  codeAny (model prog w) A (.compLoop (.ListComp elt [⟨target,iter,ct.toList,0⟩] scope g) 0 it acc env) R s:=by
 refine codeAny_loop rfl I (λn s F =>?_) n h;show wpAny _ _ ((compTurn (.ListComp elt [⟨target,iter,ct.toList,0⟩] scope g) 0 it acc env).onRaise (λx=>do noteFrame x env;theTreesLotGoes x)) _ _ s;refine wpAny_noted ?_;rw[compTurn_list];refine wc (wpAny_standAt (wc (vH (turn n s F) (λr p y =>?_) λ_ _ a=>a)))
 cases r with
 | none=>exact wj y
 | some v=>
  refine wc (vH y (λ_ C E =>?_) λ_ _ a=>a);refine wc (vH E (λ_ q z =>?_) λ_ _ a=>a)
  cases ct with
  | none=>
   refine wc (vH (wpAny_tests_nil (Q:=λok b=>ok=true/\b=q) ⟨rfl,rfl⟩) (λok b i =>?_) λ_ _ a=>a);obtain⟨rfl,rfl⟩:=i;have d:=z;simp only[zhB,jN] at d;exact wc (wc (vH d (λx t j=>wc (vH j (λ_ u l=>wj (wj ⟨rfl,l⟩)) λ_ _ a=>a)) λ_ _ a=>a))
  | some c=>
   refine wc (wpAny_tests_one (vH (show wpAny (model prog w) A (isTrue c env (eval c env)) _ _ _ from z) (λo b i =>?_) λ_ _ a=>a))
   cases o with
   | false=>exact wj ⟨rfl,by simpa using i⟩
   | true=>
    have f:=i;simp only[jN] at f;exact wc (wc (vH f (λx t j=>wc (vH j (λ_ u l=>wj (wj ⟨rfl,l⟩)) λ_ _ a=>a)) λ_ _ a=>a))
end
noncomputable def z3H (env:Env)(a:List (Str × NameKind))(b:List (Str × Addr)):List (Str × Addr):=a.foldl (λc x=>if x.2 == .free then (x.1,(env.cells.lookup x.1).getD 0)::c else c) b
theorem z66 {d a:Type}{f:d->a->Sem (ForInStep a)}{g:d->a->a}:∀(l:List d) b,(∀x∈l,∀c,f x c=pure (.yield (g x c)))->forIn l b f=(pure (l.foldl (λc x=>g x c) b))
 | [],b,_=>rfl
 | x::l,b,h=>by
  rw[List.forIn_cons,h x wv];exact z66 l _ λy e=>h y (wn _ e)
def z6X {b:Scope}{env:Env}(h:∀x∈b.names,x.2 = .free->∃c,env.cells.lookup x.1=some c):closureFor b env=pure (z3H env b.names []):=by
 simp[closureFor];rw[z66 (g:=λx c=>if x.2 == .free then (x.1,(env.cells.lookup x.1).getD 0)::c else c) _ [] (λx j c=>by
  obtain⟨n,d⟩:=x
  by_cases i:d = .free
  .subst i;obtain⟨a,f⟩:=h _ j rfl;have e:cellOf env n=pure a:=by unfold cellOf;rw[f]
   simp[e,f]
  simp_all)]
 rfl
theorem z8D {c:Addr}:∀{a:List (Str × NameKind)}{b:List (Str × Addr)},(y,c)∈z3H env a b↔(y,c)∈b\/((y,NameKind.free)∈a/\c=(env.cells.lookup y).getD 0)
 | [],b=>by simp[z3H]
 | (n,k)::r,b=>by
  show (y,c)∈z3H env r _↔_;rw[z8D]
  grind
theorem z1H {a:Type}{c:a}:∀{l:List (Str × a)},l.lookup y=some c->(y,c)∈l
 | [],h=>by simp at h
 | (n,j)::r,h=>by
  rw[vP] at h
  by_cases e:y=n
  .simp_all
  .have:(y == n)=false:=by simpa using e
   rw[this] at h;exact wn _ (z1H h)
theorem z3c {a:Type}{c:a}:∀{l:List (Str × a)},(y,c)∈l->∃d,l.lookup y=some d
 | (n,j)::r,h=>by
  rw[vP]
  by_cases e:y=n
  .simp_all
  .have:(y == n)=false:=by simpa using e
   rw[this]
   rcases wm.mp h with h | h
   .simp_all
   .exact z3c h
theorem z2u {env:Env}:∀{a:List (Str × NameKind)}{x:Str}{k:NameKind},(a.map λ(n,k)=>if (k == NameKind.free && env.scope.kind == .function && env.kindOf n == some .cell) then (n,NameKind.cell) else (n,k)).lookup x=some k->
  a.lookup x=some k\/(k = .cell/\a.lookup x=some .free)
 | [],_,_,h=>by simp at h
 | (n,j)::r,x,k,h=>by
  have f := @z2u env r x k;have b:List.lookup x ((if (j == NameKind.free && env.scope.kind == .function && env.kindOf n == some _)=true then (n,NameKind.cell) else (n,j))::(r.map _))=some k:=h
  by_cases e:(j == NameKind.free && env.scope.kind == .function && env.kindOf n == some .cell)=true
  .rw[if_pos e] at b;have g:j = .free:=by
    simp_all
   cases d:x == n with
   | true=>
    simp only[vP,d] at b ⊢
    simp_all
   | false=>
    simp only[vP,d] at b ⊢;exact f b
  .rw[if_neg e] at b
   cases d:x == n with
   | true=>
    simp only[vP,d] at b ⊢;exact .inl b
   | false=>
    simp only[vP,d] at b ⊢;exact f b
theorem z2b {env:Env}:∀{a:List (Str × NameKind)}{x:Str},a.lookup x=some .free->
  (a.map λ(n,k)=>if (k == NameKind.free && env.scope.kind == .function && env.kindOf n == some .cell) then (n,NameKind.cell) else (n,k)).lookup x=some .cell\/
  (a.map λ(n,k)=>if (k == NameKind.free && env.scope.kind == .function && env.kindOf n == some .cell) then (n,NameKind.cell) else (n,k)).lookup x=some .free
 | [],_,h=>by simp at h
 | (n,j)::r,x,h=>by
  have e := @z2b env r x;show List.lookup x ((if (j == NameKind.free && env.scope.kind == .function && env.kindOf n == some _)=true then (n,NameKind.cell) else (n,j))::_)=_\/List.lookup x ((if (j == NameKind.free && env.scope.kind == .function && env.kindOf n == some _)=true then (n,NameKind.cell) else (n,j))::_)=_
  cases d:x == n with
  | true=>
   simp[vP,d] at h
   cases h
   by_cases b:(NameKind.free == NameKind.free && env.scope.kind == .function && env.kindOf n == some .cell)=true
   .rw[if_pos b];simp[vP,d]
   .rw[if_neg b];simp_all
  | false=>
   simp[vP,d] at h
   by_cases b:(j == NameKind.free && env.scope.kind == .function && env.kindOf n == some .cell)=true
   .rw[if_pos b];simp only[vP,d];exact e h
   .rw[if_neg b];simp only[vP,d];exact e h
@[reducible] def Cx.compG (X:Cx)(a:Scope)(b:List Str)(C:Addr)(s:Shared)(H:Hp)(d:List Addr):Cx:=
 { X with N:=b,s₀:=s,H₀:=H,env:=compEnvC a (z3H X.env a.names []) C X.env,outer:=X.stack,stack:=X.stack,ex:=d,pn:=[],fn:=λy=>((z3H X.env a.names []).lookup y).isNone,xe:=λ_ _=>False }
def z56:TT:=λ_ H Q=>Q true H
def LcG (J:It)(g:TG)(q:TT)(r:TE)(Q:VK)(h:St)(f:Hp):Prop:=∃W:Nat->Nat->List V->St->Hp->Prop,(∃m,W 0 m [] h f)/\∀i m e n H,W i m e n H->
 e.length<sizeLine/\((J.stop i H/\∀p,H p=none->Q (.ref p) (upd H p (.lst e)))\/(J.go i H/\∀x j,J.yld i H x j->g x n j λa f=>q a f λb l=>if b=true then r a l λy o=>∃d,d<m/\W (i+1) d (e++[y]) a o else ∃d,d<m/\W (i+1) d e a l))
def tLcG (i:TI)(g:TG)(f:TT)(h:TE)(e:Nat)(d:List Nat):TE:=λa H Q=>i a H λJ b=>LcG J g f h Q (List.replicate e none++d.map λj=>(a[j]?).getD none) b
noncomputable def z5B (d g:List Str)(f:Nat)(e:List Nat)(a b:List (Str × NameKind)):Bool:=
 d.length == f+e.length && (e.zipIdx.all λp=>match d[f+p.2]? with
  | some y=>g[p.1]? == some y && a.lookup y == some .free
  | none=>false) && a.all (λx=>x.2 != .cell && (x.2 != .local || a.lookup x.1 == some .local) && (x.2 != .free || ((b.lookup x.1 == some .cell || b.lookup x.1 == some .free))))
section
variable {X:Cx}{pins:List (Addr × Obj)}{σ:St}{H:Hp}{s:Shared}
structure z3I (X:Cx)(N':List Str)(nt:Nat)(js:List Nat)(scope:Scope):Prop where
 len:N'.length=nt+js.length
 cap:∀k j,js[k]? = some j->∃y,N'[nt+k]? = some y/\X.N[j]? = some y/\scope.names.lookup y=some .free
 nocell:∀y∈scope.names,y.2 ≠ .cell
 loc:∀y∈scope.names,y.2 = .local->scope.names.lookup y.1=some .local
 free:∀y∈scope.names,y.2 = .free->X.env.kindOf y.1=some .cell\/X.env.kindOf y.1=some .free
def z5B.ok {g o:List Str}{l:Nat}{i:List Nat}{scope a:Scope}(t:X.N=o)(f:X.env.scope=a)(h:z5B g o l i scope.names a.names=true):z3I X g l i scope:=by
 unfold z5B at h;simp only[vI,beq_iff_eq] at h;obtain⟨⟨p,m⟩,n⟩:=h;rw[List.all_eq_true] at m n;have b:∀y∈scope.names,y.2 ≠ .cell/\(y.2 = .local->scope.names.lookup y.1=some .local)/\(y.2 = .free->a.names.lookup y.1=some .cell\/a.names.lookup y.1=some .free):=λy d=>by
  have:=n y d;simp only[vI,Bool.or_eq_true,bne_iff_ne,beq_iff_eq] at this;refine⟨this.1.1,λz =>?_,λz =>?_⟩
  .rcases this.1.2 with q | q
   .exact absurd z q
   .exact q
  .rcases this.2 with q | q
   .exact absurd z q
   .exact q
 refine⟨p,λk j r =>?_,λy d=>(b y d).1,λy d=>(b y d).2.1,λy d z =>?_⟩
 .have s:(j,k)∈i.zipIdx:=by
   rw[List.mem_zipIdx_iff_getElem?];exact r
  have:=m (j,k) s
  cases e:g[l+k]? with
  | none=>simp only[e] at this;cases this
  | some y=>
   simp_all
 .show X.env.scope.names.lookup y.1=some .cell\/X.env.scope.names.lookup y.1=some .free;rw[f];exact(b y d).2.2 z
theorem z3I.cells (c:z3I X N' nt js scope)(I:Inv X pins σ H s):∀x∈scope.names,x.2 = .free->∃a,X.env.cells.lookup x.1=some a:=λx d b=>I.ok.has x.1 (c.free x d b)
def z3I.clo (c:z3I X N' nt js scope)(I:Inv X pins σ H s)(h:(z3H X.env scope.names []).lookup y=some a):X.env.cells.lookup y=some a/\(y,NameKind.free)∈scope.names:=by
 rcases z8D.mp (z1H h) with z | ⟨d,f⟩
 .simp at z
 .obtain⟨b,e⟩:=c.cells I _ d rfl
  simp_all
def z3I.has {d:List Str}{f:Nat}{e:List Nat}{b:Scope}(c:z3I X d f e b)(I:Inv X pins σ H s){y:Str}(h:(y,NameKind.free)∈b.names):∃a,(z3H X.env b.names []).lookup y=some a:=
 z3c (z8D.mpr (.inr ⟨h,rfl⟩))
theorem Inv.compG (I:Inv X pins σ H s)(hk:scope.kind = .function)(c:z3I X N' nt js scope)
  (J:s.heap.objs.size<=C) (g:∀b∈fp,FpOk X pins H b) (K:∀b∈fp,b<s.heap.objs.size) (keep:∀b o,s.heap.get? b=some o->h1.get? b=some o) (N:∃m,h1.Ns C m) (Y:X.calm=true):
  Inv (X.compG scope N' C s H fp) [] (List.replicate nt none++js.map λj=>(σ[j]?).getD none) H { s with heap:=h1,toks:=t1 }:=by
 have nofs:∀b∈fp,b ∉ frs X.stack:=λb f z=>by
  rcases wm.mp (I.stkSub b z) with q | q
  .exact(g b f).2.1 q
  .exact(g b f).2.2.1 q
 have h:∀b o,X.base.get? b=some o->b ∉ fp:=λb o e f=>by
  have d:=(I.ok.bs b o e).1
  rcases(g b f).2.2.2.1 with z | z
  .exact I.ok.noex b o e z
  .exact absurd (wL (wu d) z) (vV _)
 have kd:∀{y:Str},((compEnvC scope (z3H X.env scope.names []) C X.env).kindOf y=some .cell\/(compEnvC scope (z3H X.env scope.names []) C X.env).kindOf y=some .free)->(y,NameKind.free)∈scope.names:=λ{y} q=>by
  rcases q with q | q
  .rcases z2u (env:=X.env) q with z | ⟨_,z⟩
   .exact absurd rfl (c.nocell _ (z1H z))
   .exact z1H z
  .rcases z2u (env:=X.env) q with z | ⟨z,_⟩
   .exact z1H z
   .cases z
 have n:∀{a:Addr}{v:Option Value},s.heap.IsCell a v->h1.IsCell a v:=λ⟨o,ho,Z⟩=>⟨o,keep _ _ ho,Z⟩
 obtain⟨m1,M⟩:=N;refine⟨⟨I.ok.mod,hk,I.ok.glob,I.ok.blt,J,(λy z a F d=>I.ok.inj y z a (c.clo I F).1 (c.clo I d).1),(λy q=>c.has I (kd q)),(λy a hf e =>?_),(λ_=>I.ok.hd Y),I.ok.frames,.inl rfl,(λb f=>⟨wJ (wL (K b f) J),(λy a e=>(g b f).2.2.2.2.1 y a (c.clo I e).1)⟩),(λb o e=>⟨I.bk b o e,(I.bs b o e).2⟩),wO I.ok.bsz I.sz,h,nofs,I.stack,I.stkFree,I.tbs⟩,
  rfl,I.bare,Un.kept keep,⟨m1,M,(λi y v F d hv =>?_)⟩,(λy a e =>?_),I.hok.fresh J,(λy a e=>I.freeC y a (c.clo I e).1),(λp hp=>by simp at hp),I.hok.kept keep,?_⟩
 .have x:((z3H X.env scope.names []).lookup y).isNone=true:=hf;have U:(z3H X.env scope.names []).lookup y=some a:=e;rw[U] at x
  cases x
 .rcases wW i nt with E | E
  .rw[wN (by simpa using E),ji] at d;rw[if_pos E] at d
   cases d
  .rw[wQ (by simpa using E),uo,wK] at d
   cases G:js[i - nt]? with
   | none=>rw[G] at d;cases d
   | some j=>
    rw[G] at d;obtain⟨y',T,q2,Q⟩:=c.cap _ _ G;have L:nt+(i - nt)=i:=by lia
    rw[L] at T;have w:N'[i]? = some y:=F;rw[T] at w
    cases w
    have d:some ((σ[j]?).getD none)=some (some v):=d;have O:σ[j]? = some (some v):=by
     cases R:σ[j]? with
     | none=>rw[R] at d;cases d
     | some z=>rw[R] at d;exact congrArg some (wY d)
    have A:=c.free _ (z1H Q) rfl;obtain⟨m,hn,hl⟩:=I.loc;obtain⟨u,r,l⟩:=hl j y v q2 O (.inr A);refine⟨u,r,.inr ⟨z2b (env:=X.env) Q,?_⟩⟩
    rcases l with ⟨l,_⟩ | ⟨_,a,W,t⟩
    .have S:X.env.kindOf y=some .local:=l
     rcases A with z | z
     .rw[S] at z;cases z
     .rw[S] at z;cases z
    .obtain⟨b,f⟩:=c.has I (z1H Q);have:=(c.clo I f).1;rw[W] at this
     cases this
     exact⟨a,f,n t⟩
 .obtain⟨v,z⟩:=I.cell y a (c.clo I e).1;exact⟨v,n z⟩
 .show (List.replicate nt none++js.map λj=>(σ[j]?).getD none).length=N'.length;rw[wD,uo,wd,c.len]
def zbY {c4:Pos}(hc:X.calm=true)(hi:PI X target iter wi)(hk:scope.kind = .function)(cp:z3I X N' nt js scope)
  (hg:∀C s H K,PG (X.compG scope N' C s H K) target g)
  (ht:match ct with
   | none=>tc=z56
   | some c=>∀C s H K,PT (X.compG scope N' C s H K) c tc)
  (he:∀C s H K,PE (X.compG scope N' C s H K) elt te) (hs:fI iter X) (I:Inv X pins σ H s) (h:tLcG wi g tc te nt js σ H Q)
  (fin:∀C D M s5 m5,Inv X pins σ M s5->s5.heap.Ns C m5->X.env.locals<C->(∀x a,X.env.cells.lookup x=some a->a<C)->(∀{N:St}{s':Shared}{h':Heap},Inv X pins N M s'->Heap.SameBut C s'.heap h'->Inv X pins N M { s' with heap:=h' })->Q (.ref D) M->compPost (model X.prog X.w) X.A X.xe use R (.ref D) C (.ok .next) s5):
  wpAny (model X.prog X.w) X.A (comprehension (.ListComp elt [⟨target,iter,ct.toList,0⟩] scope c4) scope X.env p0 (newList []) false (eval iter X.env) use) R X.xe s:=by
 refine wpAny_comprehension_free rfl hs (z6X (cp.cells I)) hk cp.loc (thn (hi pins s σ H _ I h) λv s1 h1=>thn h1 λe6 G h2 =>?_);obtain⟨it,K,tn,J,H2,e,I2,T,b7,f2,W,⟨m0,w0⟩,turn⟩:=h2;subst e;have b3:∀b∈K,b<G.heap.objs.size:=λb l=>by
  obtain⟨o,e,_⟩:=T.obj _ _ b7 b l;exact wu e
 refine vg (wpAny_newFunctionEnv cp.nocell (by intro y hy;simp at hy) (λg1 a1 Z =>?_) hk);dsimp only at a1 Z ⊢;generalize b2:G.heap.push { cls :=.type "list",dict:=none,data :=.seq ([]).toArray }=G2 at a1 Z ⊢;have hC:G2.objs.size=G.heap.objs.size+1:=by rw[<- b2,v5]
 have a5:G.heap.objs.size≠G2.objs.size:=by rw[hC];exact wJ (uK _)
 have t:∀b,b<G.heap.objs.size->b≠G2.objs.size/\b≠G.heap.objs.size:=λb l=>⟨by rw[hC];exact wJ (ud l),wJ l⟩
 have old:∀b o,G.heap.get? b=some o->g1.get? b=some o:=λb o e=>Z.extBut b o (t b (wu e)).1 (wf _ (b2 ▸ wf _ e));have c3:g1.get? G.heap.objs.size=some { cls :=.type "list",data :=.seq ([]).toArray 0 }:=Z.extBut _ _ a5 (wf _ (b2 ▸ wp _ rfl));have E:G.heap.objs.size<=G2.objs.size:=by rw[hC];exact Nat.le_succ _
 have S:∀y a,X.env.cells.lookup y=some a->a<G.heap.objs.size:=λy a e=>by
  obtain⟨v,o,ho,_⟩:=I2.cell y a e;exact wu ho
 generalize e5:G2.objs.size=C at*;generalize F:G.heap.objs.size=D at*
 let Y:Cx:=X.compG scope N' C G H2 K
 have IY:Inv Y [] (List.replicate nt none++js.map λj=>(σ[j]?).getD none) H2 { G with heap:=g1,toks:=G.toks+([]:List (Str × Value)).length }:=I2.compG hk cp (by rw[F];exact E) f2 (by rw[F];exact b3) old ⟨_,a1⟩ hc;have c1:∀b∈K,b≠D:=λb l=>(t b (b3 b l)).2;have d3:∀b∈K,b≠C:=λb l=>(t b (b3 b l)).1;have d0:H2 D=none:=I2.hok.fresh (by rw[F];exact wt _);have c9:D ∉ frs X.stack:=λz=>by
  obtain⟨_,o,e,_⟩:=I2.stack.mem z;exact absurd (wu e) (by rw[F];exact vV _)
 have a2:∀{M:Hp}{pl:List (Addr × Obj)},(∀b∈K,M b=none)->(∀p∈pl,p.1=D)->∀b∈K,FpOk Y pl M b:=λhn hp b l=>⟨hn b l,d3 b l,(λz=>IY.ok.exfs b l z),.inl l,(λy a e=>(f2 b l).2.2.2.2.1 y a (cp.clo I2 e).1),λp e0 z=>c1 b l (z.symm.trans (hp p (by simpa[Y] using e0)))⟩
 have a9:∀s3:Shared,s3={ G with heap:=g1,toks:=G.toks+([]:List (Str × Value)).length }->
   codeAny (model X.prog X.w) X.A (.compLoop (.ListComp elt [⟨target,iter,ct.toList,0⟩] scope c4) 0 (.ref it) (.ref D) (compEnvC scope (z3H X.env scope.names []) C X.env)) (compPost (model X.prog X.w) X.A X.xe use R (.ref D) C) s3:=by
  intro s3 e3;refine z7Y (λn s'=>∃i O f N M,Inv Y [] N M s'/\s'.heap.get? D=some { cls :=.type "list",data :=.seq f.toArray f.length }/\Vals O f/\M D=none/\tn i s'.heap/\(∀b∈K,M b=none)/\W i n O N M) ?_ m0 ⟨0,[],[],_,H2,e3 ▸ IY,?_,.nil,d0,?_,λb l=>(f2 b l).1,w0⟩
  .rintro n s4 ⟨i,O,f,a3,H4,I4,d5,a6,a0,c7,c2,w4⟩;obtain⟨hsz,step⟩:=turn i n O a3 H4 w4;have d8:O.length=f.length:=a6.length;have c0:Inv Y [(D,{ cls :=.type "list",data :=.seq f.toArray f.length })] a3 H4 s4:=I4.pins_of λp hp=>by
    rw[wg.mp hp];exact⟨d5,a0,a5,c9,λv z=>by cases z⟩
   have one:∀p∈[(D,({ cls :=.type "list",data :=.seq f.toArray f.length }:Obj))],p.1=D:=λp hp=>by rw[wg.mp hp]
   rcases step with ⟨stop,qn⟩ | ⟨go,step⟩
   .refine vH (T.done Y rfl rfl rfl hc i _ s4 a3 H4 (λ_ _=>False) c0 (a2 c2 one) c7 stop) (λr s5 hr =>?_) λ_ _ z=>z.elim;obtain⟨rfl,I5⟩:=hr;have d6:s5.heap.get? D=some { cls :=.type "list",data :=.seq f.toArray f.length }:=(I5.pin (D,_) (by simp)).1;obtain⟨m5,d9,_⟩:=I5.loc;have U:Un (frs X.stack) K H2 H4 G.heap s5.heap:=I5.base;have nC:∀b o,G.heap.get? b=some o->b≠C:=λb o e=>(t b (F ▸ wu e)).1;have nD:∀b o,G.heap.get? b=some o->b≠D:=λb o e=>(t b (F ▸ wu e)).2;have U':Un (frs X.stack) K H2 (upd H4 D (.lst O)) G.heap s5.heap:=⟨U.keep,U.slot,λb o e n e2=>by rw[z08 (nD b o e)];exact U.free b o e n e2,U.there,λb xs e=>by rw[z08 (z0E (U.tups b xs e) a0)];exact U.tups b xs e,λb o xs e=>by rw[z08 (z0E (U.frzs b o xs e) a0)];exact U.frzs b o xs e,λb ps e=>by
      obtain⟨more,q⟩:=U.tbls b ps e;exact⟨more,by rw[z08 (z0E q a0)];exact q⟩⟩
    have e4:HOk X.prog X.w (upd H4 D (.lst O)) s5.heap:=HOk.track I5.hok a0 ⟨uy hsz,f,_,a6,d6⟩;have I6:Inv X pins σ (upd H4 D (.lst O)) s5:=I2.call' (s':=s5) I5.os U' e4 I5.bare (λb l=>⟨(f2 b l).2.2.2.1,(f2 b l).2.1,(f2 b l).2.2.2.2.1,(f2 b l).2.2.2.2.2⟩);exact fin C D _ s5 m5 I6 d9 (wL (by rw[<- F];exact I2.lt) E) (λ_ _ e=>wL (S _ _ e) E) (λI7 sb=>I7.turned (it:=C) (λb o n e=>sb.extBut b o n e) (by rw[z08 (vQ a5)];exact I5.free) (jw (wL (by rw[<- F];exact I2.lt) E)) (.inr (wO I2.sz (by rw[F];exact E))) (λx a e z=>by
      have:=S x a e;rw[z] at this;exact absurd (wL this E) (vV _)) (λp hp z=>by
      have:=wu (I2.pin p hp).1;rw[z,F] at this;exact absurd (wL this E) (vV _))) (qn D a0)
   .refine vH (T.item Y rfl rfl rfl hc i _ s4 a3 H4 (λ_ _=>False) c0 (a2 c2 one) c7 go) (λr s5 hr =>?_) λ_ _ z=>z.elim;obtain⟨u,rfl,h5⟩:=hr;refine vH h5 (λ_ s6 h6 =>?_) λ_ _ z=>z.elim;obtain⟨xv,H6,I6,r6,y6,b8,d4⟩:=h6;have d1:=I6.pinned (a2 d4 one) (T.obj _ _ b8);have after:∀{a8:St}{H8:Hp}{s8:Shared},Inv Y _ a8 H8 s8->_:=λ{a8 H8 s8} (I8:Inv Y ([(D,{ cls :=.type "list",data :=.seq f.toArray f.length })]++z7n K s6.heap) a8 H8 s8)=>
     (show Aa4 (s8.heap.get? D=some { cls :=.type "list",data :=.seq f.toArray f.length }/\H8 D=none) (tn (i+1) s8.heap) (∀b∈K,H8 b=none) (Inv Y [] a8 H8 s8) from by
      have pD:=I8.pin (D,{ cls :=.type "list",data :=.seq f.toArray f.length }) (by simp);refine⟨⟨pD.1,pD.2.1⟩,T.keep _ _ _ b8 λb l o e=>(I8.pin (b,o) (ve _ (ve _ (z3s l e)))).1,λb l =>?_,I8.pins_of (pins':=[]) λp hp=>by simp at hp⟩;obtain⟨o,e,d⟩:=T.obj _ _ b8 b l;exact(I8.pin (b,o) (ve _ (ve _ (z3s l e)))).2.1)
    refine vH (hg C G H2 K _ s6 a3 H6 xv u _ d1 r6 (step xv H6 y6)) (λ_ s7 h7 =>?_) λ_ _ z=>z.elim;obtain⟨L,H7,I7,q7⟩:=h7;have c8:∀b6 a4,Inv Y _ L a4 b6->(te L a4 λy H3=>∃m',m'<n/\W (i+1) m' (O++[y]) L H3)->_:=λb6 a4 d2 qe=>
     vH (Q':=λyv s8=>wpAny (model X.prog X.w) X.A (call (.builtin "list.append") [.ref D,yv]) (λ_ s6=>∃m,m<n/\∃i O f N M,Inv Y [] N M s6/\s6.heap.get? D=some { cls :=.type "list",data :=.seq f.toArray f.length }/\Vals O f/\M D=none/\tn i s6.heap/\(∀b∈K,M b=none)/\W i m O N M) (notedBy (model X.prog X.w) X.A (compEnvC scope (z3H X.env scope.names []) C X.env) λe s'=>compPost (model X.prog X.w) X.A X.xe use R (.ref D) C (.error e) s') s8) (he C G H2 K _ b6 L a4 _ d2 qe) (λyv s8 h8=>by
      obtain⟨y,H8,I8,r8,m',b4,w8⟩:=h8;obtain⟨⟨b5,a7⟩,b9,b1,b0⟩:=after I8;refine append_at (hsz:=by rw[wG, <- d8];exact uy hsz) b5 λh9 c6 d7 =>?_;refine⟨m',b4,i+1,O++[y],f++[yv],L,H8,b0.turned (it:=D) (t':=s8.toks) (λb o n e=>c6.extBut b o n e) a7 a5 (.inr (by rw[F];exact wt _)) (λy a e z=>by
        have:=S y a (cp.clo I2 e).1;rw[z] at this;exact vV _ this) (λp hp=>by simp[Y] at hp),?_,Vals.append a6 (.cons r8 .nil),a7,T.keep _ _ _ b9 λb l o e=>c6.extBut b o (c1 b l) e,b1,w8⟩
      show h9.get? D=_;rw[d7];simp) (E':=notedBy (model X.prog X.w) X.A (compEnvC scope (z3H X.env scope.names []) C X.env) λe s'=>compPost (model X.prog X.w) X.A X.xe use R (.ref D) C (.error e) s') (λ_ _ z=>z.elim)
    cases ct with
    | none=>
     have e1:tc=z56:=ht;subst e1;simp only[zhB,jN];have c5:if true=true then te L H7 λy H3=>∃m',m'<n/\W (i+1) m' (O++[y]) L H3 else ∃m',m'<n/\W (i+1) m' O L H7:=q7
     rw[if_pos rfl] at c5;exact c8 s7 H7 I7 c5
    | some c=>
     refine vH (ht C G H2 K _ s7 L H7 _ I7 q7) (λb s8 h8 =>?_) λ_ _ z=>z.elim;obtain⟨H8,I8,q8⟩:=h8
     cases b with
     | true=>
      rw[if_pos rfl] at q8 ⊢;exact c8 s8 H8 I8 q8
     | false=>
      rw[if_neg wT] at q8 ⊢;obtain⟨m',b4,w8⟩:=q8;obtain⟨⟨b5,a7⟩,b9,b1,b0⟩:=after I8;exact⟨m',b4,i+1,O,f,L,H8,b0,b5,a6,a7,b9,b1,w8⟩
  .rw[e3];exact c3
  .rw[e3];exact T.keep _ _ _ b7 λb _ o e=>old b o e
 exact codeAny_compStart_list (a9 _ rfl) (T.self _ 0 _ _ _ (T.keep _ _ _ b7 λb _ o e=>old b o e) (a9 _ rfl))
def zjj {b:Pos}(i:X.calm=true)(m:PI X target iter wi)(n:scope.kind = .function)(f:z3I X N' nt js scope)
  (l:∀C s H a,PG (X.compG scope N' C s H a) target g)
  (r:match ct with
   | none=>tc=z56
   | some c=>∀C s H a,PT (X.compG scope N' C s H a) c tc)
  (j:∀C s H a,PE (X.compG scope N' C s H a) elt te) (p:autoParam (fI iter X) jC1):PE X (.ListComp elt [⟨target,iter,ct.toList,0⟩] scope b) (tLcG wi g tc te nt js):=by
 intro d s A H Q I h;rw[eval_ListComp];exact zbY i m n f l r j p I h λC D w z t e o _ _ u q=>⟨t,o,λy sb=>⟨.ref D,_,u e sb,rfl,q⟩⟩
def ziY {b:Pos}(f:X.calm=true)(j:QI X target iter wi)(l:scope.kind = .function)(e:z3I X N' nt js scope)
  (i:∀C s H a,QG (X.compG scope N' C s H a) target g)
  (d:match ct with
   | none=>tc=z56
   | some c=>∀C s H a,QT (X.compG scope N' C s H a) c tc)
  (h:∀C s H a,QE (X.compG scope N' C s H a) elt te) (m:autoParam (fI iter X) jC1):QE X (.ListComp elt [⟨target,iter,ct.toList,0⟩] scope b) (tLcG wi g tc te nt js):=by
 refine⟨zjj f j.p l e (λC s H a=>(i C s H a).p) ?_ (λC s H a=>(h C s H a).p) m⟩
 cases ct with
 | none=>exact d
 | some c=>exact λC s H a=>(d C s H a).p
def ziT {a:Pos}(d:X.N.Nodup)(e:X.N[i]? = some x)(b:X.env.scope.names.lookup x=some .local):QG X (.Name x a) (z2S i):=⟨zbv d e (.inl b) (.inr b)⟩
end
theorem z52:∀ns {us:List Value},Vals (ns.map V.int) us->∃l:List (Int × Tok),us=l.map (λp=>Value.int p.1 p.2)/\l.map (·.1)=ns
 | [],_,r=>by cases r;exact⟨[],rfl,rfl⟩
 | n::ns,_,r=>by
  cases r with
  | cons r1 r2=>
   obtain⟨t,rfl⟩:=(r1)
   obtain⟨l,rfl,a⟩:=z52 ns r2;exact⟨(n,t)::l,rfl,by simp_all⟩
theorem z6a (bt:Nat->Nat->Bool):∀k,argBest bt k<=k
 | 0=>wt _
 | k+1=>by
  rw[argBest]
  split
  .simp_all
  .exact Nat.le_succ_of_le (z6a bt k)
theorem z5C (f:Nat->Int):∀k j,j<=k->f j<=f (argBest (λi j=>decide (f i > f j)) k)
 | 0,j,h=>by
  have:j=0:=by lia
  subst this;exact uQ _
 | k+1,j,h=>by
  have a:=z5C f k;rw[argBest]
  grind
section
variable {X:Cx}
def zlb (K:W.Frag):List V->Hp->VK->Prop:=λd H Q=>∃(a:Addr) (b:List Int),d=[.ref a]/\SqL K H a (b.map V.int)/\b≠[]/\∀m,m∈b->(∀x∈b,x<=m)->Q (.int m) H
def zcD (o:X.calm=true):z0A X (.builtin "max") (zlb X.K):=by
 intro n s S H xs R Q I r h;obtain⟨a,f,rfl,A,z,q⟩:=h;obtain⟨u,rfl,L⟩:=z30 r
 cases (show u=Value.ref a from L)
 obtain⟨G,E,pl,_⟩:=I.list A;obtain⟨l,rfl,m⟩:=z52 f E;have y:l.length=f.length:=by rw[<- m,wd]
 have d:0<l.length:=by
  grind
 have J:∀i,numAt l.toArray i=(f[i]?).getD 0:=λi=>by
  unfold numAt;rw[<- m,wK];simp
 refine max_intList (xs:=l.toArray) (I.ok.hd o) (by have:=pl.isList;simpa[intItems] using this) (by simpa using d) λv N M e p =>?_;obtain⟨t,rfl⟩:=intItems_at e;generalize b:argBest _ (l.toArray.size - 1)=k at*;have g:k<=l.length - 1:=by
  have:=z6a (λi j=>decide (numAt l.toArray i > numAt l.toArray j)) (l.toArray.size - 1);rw[b] at this;simpa using this
 have w:k<f.length:=by lia
 refine⟨.int _,H,I.kept (t':=M) p,⟨t,rfl⟩,q _ ?_ λx F =>?_⟩
 .simp_all
 .obtain⟨j,O,rfl⟩:=vi.mp F;have C:l.toArray.size=l.length:=by simp
  have:=z5C (numAt l.toArray) (l.toArray.size - 1) j (by lia);rw[b] at this
  simp_all
def zl9 (K:W.Frag):List V->Hp->VK->Prop:=λd H Q=>∃(a:Addr) (b:List Int),d=[.ref a]/\SqL K H a (b.map V.int)/\Q (.int b.sum) H
def zcz (d:X.calm=true):z0A X (.builtin "sum") (zl9 X.K):=by
 intro b s x H xs w Q I r h;obtain⟨a,j,rfl,f,q⟩:=h;obtain⟨u,rfl,m⟩:=z30 r
 cases (m)
 obtain⟨i,g,pl,_⟩:=I.list f;obtain⟨l,rfl,p⟩:=z52 j g;refine sum_intListG (xs:=l.toArray) (I.ok.hd d) (by have:=pl.isList;simpa[intItems] using this) λo t n e =>?_;refine⟨.int _,H,I.kept e,⟨n,rfl⟩,?_⟩;rw[preSum_eq,uk (by simp)]
 simp_all
def z0A.imp {f:Value}{r r':List V->Hp->VK->Prop}(h:z0A X f r)(i:∀xs H Q,r' xs H Q->r xs H Q):z0A X f r':=λa s e H xs d Q I b q=>h _ s e H xs d Q I b (i xs H Q q)
end
def z4K {d:Type}{xs:List d}{i:Int}(e:0<=i)(f:i<xs.length):∃v∈xs,atI xs i=some v:=by
 have a:i.toNat<xs.length:=by lia
 have b:i=i.toNat:=by lia
 refine⟨xs[i.toNat],jK a,?_⟩;have q  := zhA (wo a);rw[<- b] at q;exact q
section
variable {X:Cx}{pins:List (Addr × Obj)}{σ:St}{H:Hp}{s:Shared}
def zj8 {b a py:Pos}(u:X.N.Nodup)(l:X.N[iy]? = some y)(f:X.env.scope.names.lookup y=some .local)(w:X.calm=true)(G:PI X target iter wi)(J:scope.kind = .function)(t:z3I X N' nt js scope)
  (F:∀(C:Addr) (s:Shared) (H:Hp) (d:List Addr),PG (X.compG scope N' C s H d) target g)
  (O:match ct with
   | none=>tc=z56
   | some c=>∀(C:Addr) (s:Shared) (H:Hp) (d:List Addr),PT (X.compG scope N' C s H d) c tc)
  (E:∀(C:Addr) (s:Shared) (H:Hp) (d:List Addr),PE (X.compG scope N' C s H d) elt te) (m:autoParam (swapsWith (.ListComp elt [⟨target,iter,ct.toList,0⟩] scope b) (some (.Name y py)) a.line X.env=pure true) jA1) (M:autoParam (fI iter X) jC1):PS X (.Assign [.Name y py] (.ListComp elt [⟨target,iter,ct.toList,0⟩] scope b) a) (tAsg (tLcG wi g tc te nt js) (z2S iy)):=by
 intro i s σ H Dn I h;rw[exec_Assign_Name_used _ _ _ _ m];refine wc (wpAny_standAt (wc ?_));show wpAny _ X.A (do let _ <- comprehension (.ListComp elt [⟨target,iter,ct.toList,0⟩] scope b) scope X.env _ (newList []) false (eval iter X.env) (some (assign (.Name y py) X.env))) _ _ s;refine wc (vH (zbY (R:=λ_ o=>SP X i Dn .next o) w G J t F O E M I h λC D W s5 S p K lt Q T q =>?_) (λ_ o L=>wj (wj L)) λ_ _ e=>e);show wpAny _ X.A (assign (.Name y py) X.env (.ref D)) _ _ _;refine wpAny_assign_Name (z76 p u l (.inl f) (show RelV (.ref D) (.ref D) from rfl) (λs7 r U =>?_) (.inr f));obtain⟨Y,n,j⟩:=U;exact⟨S,K.sameBut n (jw (j.elim (λz=>z ▸ lt) (Q _ _))),λZ sb=>⟨_,_,T r sb,q⟩⟩
def ziO {d b py:Pos}(l:X.N.Nodup)(e:X.N[iy]? = some y)(f:X.env.scope.names.lookup y=some .local)(m:X.calm=true)(q:QI X target iter wi)(r:scope.kind = .function)(j:z3I X N' nt js scope)
  (o:∀(C:Addr) (s:Shared) (H:Hp) (a:List Addr),QG (X.compG scope N' C s H a) target g)
  (i:match ct with
   | none=>tc=z56
   | some c=>∀(C:Addr) (s:Shared) (H:Hp) (a:List Addr),QT (X.compG scope N' C s H a) c tc)
  (n:∀(C:Addr) (s:Shared) (H:Hp) (a:List Addr),QE (X.compG scope N' C s H a) elt te) (h:autoParam (swapsWith (.ListComp elt [⟨target,iter,ct.toList,0⟩] scope d) (some (.Name y py)) b.line X.env=pure true) jA1) (t:autoParam (fI iter X) jC1):QS X (.Assign [.Name y py] (.ListComp elt [⟨target,iter,ct.toList,0⟩] scope d) b) (tAsg (tLcG wi g tc te nt js) (z2S iy)):=by
 refine⟨zj8 l e f m q.p r j (λC s H a=>(o C s H a).p) ?_ (λC s H a=>(n C s H a).p) h t⟩
 cases ct with
 | none=>exact i
 | some c=>exact λC s H a=>(i C s H a).p
end
end L2
namespace Pu
open PySem PySem.Spec PyProof.Rows L2
inductive D where
 | non | bl (b:Bool) | int (i:Int) | str (x:Str) | tup (l:List D) | lst (l:List D) | dct (ks vs:List D) | fn (n:Nat) | exc (x:Str) | ptr (a:Addr) | ins (n:Str) (fs:List Str) (cs:List D) | fz (ks vs:List D)
instance:Inhabited D:=⟨.non⟩
noncomputable def z5v:Nat->Str
 | 0=>"turn_by" | 1=>"turn_among" | 2=>"step_of" | 3=>"step_among" | _=>""
noncomputable def kD:Key->D
 | .inl i =>.int i
 | .inr x =>.str x
section
variable (K:W.Frag)(mg:WmP)
mutual
/-- the value v stands for d,in the heap G -/
def RD (G:Hp):D->V->Prop
 | .non,v=>v = .non
 | .bl b,v=>v = .bl b
 | .int i,v=>v = .int i
 | .str x,v=>v = .str x
 | .tup h,v=>∃a e,v = .ref a/\SqT K G a e/\RDs G h e
 | .lst h,v=>∃a e,v = .ref a/\SqL K G a e/\RDs G h e
 | .dct g vs,v=>∃a e,v = .ref a/\RDs G vs e/\((∃d:List (Key × V),Rd G a (.dK d)/\g=d.map (λp=>kD p.1)/\e=d.map (·.2))\/∃d:List (List Key × V),G a=some (.dT d)/\d≠[]/\g=d.map (λp =>.tup (p.1.map kD))/\e=d.map (·.2))
 | .fn n,v=>∃f,v = .ref f/\mg (z5v n)=some (.ref f)
 | .exc x,v=>∃j C,v = .ref j/\G j=some (.ext (zmz j C))/\mg x=some (.ref C)
 | .ptr a,v=>v = .ref a
 | .fz g vs,v=>∃a e,v = .ref a/\RDs G vs e/\∃(o:Obj) (d:List (Key × V)),G a=some (.frz o (.dK d))/\g=d.map (λp=>kD p.1)/\e=d.map (·.2)
 | .ins n fs l,v=>∃p C m e,v = .ref p/\G p=some (.ins C m (fs.zip e))/\mg n=some (.ref C)/\RDs G l e
def RDs (G:Hp):List D->List V->Prop
 | [],a=>a=[]
 | d::b,a=>∃x r,a=x::r/\RD G d x/\RDs G b r
end
end
section
variable {K:W.Frag}{mg:WmP}{G G' H H':Hp}
def Same.refl':Same H H:=λ_ _ h=>h
def z02 {A B C:Hp}(h:Same A B)(h':Same B C):Same A C:=λa o e=>h' a o (h a o e)
def z1o {a:Addr}{xs:List V}(e:Same G G')(h:SqL K G a xs):SqL K G' a xs:=by
 rcases h with (h | ⟨o,h⟩) | h
 .exact .inl (.inl (e _ _ h))
 .exact .inl (.inr ⟨o,e _ _ h⟩)
 .exact .inr h
def z0H {a:Addr}{xs:List V}(e:Same G G')(h:SqT K G a xs):SqT K G' a xs:=by
 rcases h with (h | ⟨o,h⟩) | h
 .exact .inl (.inl (e _ _ h))
 .exact .inl (.inr ⟨o,e _ _ h⟩)
 .exact .inr h
mutual
theorem RD.same (e:Same G G'):∀(d:D) {v:V},RD K mg G d v->RD K mg G' d v
 | .non,_,h=>by simpa[RD] using h
 | .bl _,_,h=>by simpa[RD] using h
 | .int _,_,h=>by simpa[RD] using h
 | .str _,_,h=>by simpa[RD] using h
 | .fn _,_,h=>by rw[RD] at h ⊢;exact h
 | .exc _,_,h=>by
  rw[RD] at h ⊢;obtain⟨t,C,b,g,i⟩:=h;exact⟨t,C,b,e _ _ g,i⟩
 | .ptr _,_,h=>by rw[RD] at h ⊢;exact h
 | .fz _ vs,_,h=>by
  rw[RD] at h ⊢;obtain⟨a,j,b,g,o,f,q,r⟩:=h;exact⟨a,j,b,RDs.same e vs g,o,f,e _ _ q,r⟩
 | .ins _ _ n,_,h=>by
  rw[RD] at h ⊢;obtain⟨p,C,s,j,b,g,i,m⟩:=h;exact⟨p,C,s,j,b,e _ _ g,i,RDs.same e n m⟩
 | .tup l,_,h=>by
  rw[RD] at h ⊢;obtain⟨a,j,b,g,i⟩:=h;exact⟨a,j,b,z0H e g,RDs.same e l i⟩
 | .lst l,_,h=>by
  rw[RD] at h ⊢;obtain⟨a,j,b,g,i⟩:=h;exact⟨a,j,b,z1o e g,RDs.same e l i⟩
 | .dct u vs,_,h=>by
  rw[RD] at h ⊢;obtain⟨a,j,b,i,m⟩:=h;refine⟨a,j,b,RDs.same e vs i,?_⟩
  rcases m with ⟨f,q,r⟩ | ⟨f,q,r⟩
  .exact .inl ⟨f,q.imp (e _ _) λ⟨o,q⟩=>⟨o,e _ _ q⟩,r⟩
  .exact .inr ⟨f,e _ _ q,r⟩
theorem RDs.same (e:Same G G'):∀(a:List D) {xs:List V},RDs K mg G a xs->RDs K mg G' a xs
 | [],_,h=>by simpa[RDs] using h
 | d::a,_,h=>by
  rw[RDs] at h ⊢;obtain⟨x,r,b,f,g⟩:=h;exact⟨x,r,b,RD.same e d f,RDs.same e a g⟩
end
def RDs.nil:RDs K mg G [] []:=by rw[RDs]
def RDs.cons {d:D}{v:V}{a:List D}{vs:List V}(h:RD K mg G d v)(t:RDs K mg G a vs):RDs K mg G (d::a) (v::vs):=by exact⟨v,vs,rfl,h,t⟩
theorem RDs.len:∀{a:List D}{vs:List V},RDs K mg G a vs->vs.length=a.length
 | [],_,h=>by subst h;rfl
 | _::_,_,h=>by
  obtain⟨x,r,rfl,_,b⟩:=h;simp[RDs.len b]
theorem RDs.app:∀{a es:List D}{vs us:List V},RDs K mg G a vs->RDs K mg G es us->RDs K mg G (a++es) (vs++us)
 | [],_,_,_,h,k=>by subst h;exact k
 | _::_,_,_,_,h,k=>by
  obtain⟨x,r,rfl,b,d⟩:=h;exact RDs.cons b (RDs.app d k)
theorem RDs.get:∀{a:List D}{vs:List V}{i:Nat}{d:D},RDs K mg G a vs->a[i]? = some d->∃v,vs[i]? = some v/\RD K mg G d v
 | [],_,_,_,_,e=>by simp at e
 | _::_,_,0,_,h,e=>by
  obtain⟨x,r,rfl,b,f⟩:=h;simp at e;subst e;exact⟨x,rfl,b⟩
 | _::_,_,i+1,_,h,e=>by
  obtain⟨x,r,rfl,b,f⟩:=h;obtain⟨v,g,j⟩:=RDs.get f (by simpa using e);exact⟨v,by simpa using g,j⟩
theorem RDs.take:∀{a:List D}{vs:List V} n,RDs K mg G a vs->RDs K mg G (a.take n) (vs.take n)
 | _,_,0,_=>by rfl
 | [],_,_+1,h=>by subst h;rfl
 | _::_,_,n+1,h=>by
  obtain⟨x,r,rfl,b,d⟩:=h;exact RDs.cons b (RDs.take n d)
theorem RDs.drop:∀{a:List D}{vs:List V} n,RDs K mg G a vs->RDs K mg G (a.drop n) (vs.drop n)
 | _,_,0,h=>by simpa using h
 | [],_,_+1,h=>by subst h;rfl
 | _::_,_,n+1,h=>by
  obtain⟨x,r,rfl,d,b⟩:=h;exact RDs.drop n b
def RDs.rev {vs:List V}(h:RDs K mg G ds vs):RDs K mg G ds.reverse vs.reverse:=by
 induction ds generalizing vs with
 | nil=>subst h;rfl
 | cons d ds e=>
  obtain⟨x,r,rfl,a,b⟩:=h;rw[uA,uA];exact RDs.app (e b) (RDs.cons a RDs.nil)
theorem RDs.set {d:D}{v:V}(q:RD K mg G d v):∀{b:List D}{vs:List V} i,RDs K mg G b vs->RDs K mg G (b.set i d) (vs.set i v)
 | [],_,_,h=>by subst h;rfl
 | _::_,_,0,h=>by
  obtain⟨x,r,rfl,e,a⟩:=h;exact RDs.cons q a
 | _::_,_,i+1,h=>by
  obtain⟨x,r,rfl,e,a⟩:=h;exact RDs.cons e (RDs.set q i a)
theorem RDs.at {a:List D}{vs:List V}{i:Int}{d:D}(h:RDs K mg G a vs)(e:atI a i=some d):∃v,atI vs i=some v/\RD K mg G d v:=by
 unfold atI at e ⊢;rw[h.len]
 cases q:ixN _ i with
 | none=>simp_all
 | some j=>
  rw[q] at e;exact h.get e
def RDs.cut {a:List D}{vs:List V}(b d:Option Int)(h:RDs K mg G a vs):RDs K mg G ((a.drop (HT.sIx a.length 0 b)).take (HT.sIx a.length a.length d - HT.sIx a.length 0 b)) (cutV vs b d):=by
 unfold cutV;rw[h.len];exact(h.drop _).take _
end
inductive B where
 | n | s (d:D) | o (d:D)
abbrev Env:=List B
noncomputable def B.get:B->Option D
 | .n=>none
 | .s d=>some d
 | .o d=>some d
def Env.get (a:Env)(i:Nat):Option D:=match a,i with
 | [],_=>none
 | b::_,0=>b.get
 | _::r,i+1=>Env.get r i
theorem Env.get_eq:∀a i,Env.get a i=(a[i]?).bind B.get
 | [],i=>by rfl
 | b::r,0=>by rfl
 | b::r,i+1=>by simp[Env.get,Env.get_eq r i]
abbrev DK:=D->Prop
abbrev XP:=Str->Prop
structure Fn where
 run:List D->DK->XP->Prop
 mono:∀ds Q Q' X X',(∀d,Q d->Q' d)->(∀x,X x->X' x)->run ds Q X->run ds Q' X'
structure Ex where
 run:Env->DK->XP->Prop
 mono:∀ρ Q Q' X X',(∀d,Q d->Q' d)->(∀x,X x->X' x)->run ρ Q X->run ρ Q' X'
structure Sm where
 run:Env->(Env->Prop)->DK->XP->Prop
 mono:∀ρ N N' Q Q' X X',(∀ρ,N ρ->N' ρ)->(∀d,Q d->Q' d)->(∀x,X x->X' x)->run ρ N Q X->run ρ N' Q' X'
def onV (o:Option D)(Q:DK):Prop:=match o with
 | some d=>Q d
 | none=>False
def Ex.c (d:D):Ex:=⟨λ_ Q _=>Q d,λ_ _ _ _ _ m _ q=>m _ q⟩
def Ex.v (i:Nat):Ex:=⟨λa Q _=>onV (a.get i) Q,λa Q f _ _ m _ q=>by
 show onV (a.get i) f;have b:onV (a.get i) Q:=q
 cases e:a.get i with
 | none=>rw[e] at b;exact b
 | some d=>rw[e] at b;exact m _ b⟩
def runs:List Ex->Env->(List D->Prop)->XP->Prop
 | [],_,Q,_=>Q []
 | e::f,a,Q,X=>e.run a (λd=>runs f a (λb=>Q (d::b)) X) X
theorem z2C:∀es b Q Q' X a,(∀d,Q d->Q' d)->(∀x,X x->a x)->runs es b Q X->runs es b Q' a
 | [],_,_,_,_,_,m,_,q=>m _ q
 | e::es,b,Q,Q',X,a,m,f,q=>e.mono b _ _ X a (λd g=>z2C es b _ _ X a (λi h=>m _ h) f g) f q
def Ex.op (f:Fn)(es:List Ex):Ex:=⟨λb Q X=>runs es b (λa=>f.run a Q X) X,λb Q g X d m e q=>z2C es b _ _ X d (λa h=>f.mono a Q g X d m e h) e q⟩
def tst (d:D)(A B:Prop):Prop:=match d with
 | .bl b=>(b=true->A)/\(b=false->B)
 | _=>False
def z2F {A A' B B':Prop}(a:A->A')(f:B->B')(h:tst d A B):tst d A' B':=by
 cases d with
 | bl b=>exact⟨λe=>a (h.1 e),λe=>f (h.2 e)⟩
 | _=>exact h.elim
def z90 {A B:Prop}(h:tst d A B):∃b,d = .bl b/\(b=true->A)/\(b=false->B):=by
 cases d with
 | bl b=>exact⟨b,rfl,h⟩
 | _=>exact h.elim
def Ex.and (a b:Ex):Ex:=⟨λe Q X=>a.run e (λd=>tst d (b.run e Q X) (Q (.bl false))) X,λe Q h X f m g q=>a.mono e _ _ X f (λd i=>z2F (b.mono e Q h X f m g) (m _) i) g q⟩
def Ex.or (a b:Ex):Ex:=⟨λe Q X=>a.run e (λd=>tst d (Q (.bl true)) (b.run e Q X)) X,λe Q h X f m g q=>a.mono e _ _ X f (λd i=>z2F (m _) (b.mono e Q h X f m g) i) g q⟩
def Ex.not (a:Ex):Ex:=⟨λe Q X=>a.run e (λd=>match d with | .bl b=>Q (.bl (!b)) | _=>False) X,λe Q i X g m h q=>a.mono e _ _ X g (λd f=>by
 cases d with
 | bl b=>exact m _ f
 | _=>exact f.elim) h q⟩
inductive Tg where
 | nm (i:Nat) | tp (is:List Nat)
def z0l:List Nat->List D->Env->Env
 | i::is,d::b,a=>z0l is b (a.set i (.s d))
 | _,_,a=>a
def Tg.put (t:Tg)(d:D)(b:Env)(K:Env->Prop):Prop:=match t,d with
 | .nm i,d=>K (b.set i (.s d))
 | .tp is,.tup a=>is.length=a.length/\K (z0l is a b)
 | _,_=>False
def Tg.put_mono {t:Tg}{d:D}{a:Env}{K K':Env->Prop}(m:∀a,K a->K' a)(h:t.put d a K):t.put d a K':=by
 cases t with
 | nm i=>exact m _ h
 | tp is=>
  cases d with
  | tup b=>exact⟨h.1,m _ h.2⟩
  | _=>exact h.elim
noncomputable def z03:D->Option (List D)
 | .lst l=>some l
 | .tup l=>some l
 | .str x=>some (x.cps.toList.map λc =>.str ⟨#[c]⟩)
 | _=>none
def onL (o:Option (List D))(Q:List D->Prop):Prop:=match o with
 | some l=>Q l
 | none=>False
def z9k (m:∀l,Q l->Q' l)(h:onL o Q):onL o Q':=by
 cases o with
 | none=>exact h
 | some l=>exact m _ h
def z4h (f:D->(Option D->Prop)->Prop):List D->(List D->Prop)->Prop
 | [],N=>N []
 | x::a,N=>f x λo=>z4h f a λr=>N (o.toList++r)
theorem z3w (d:∀x K b,(∀o,K o->b o)->f x K->f' x b):∀xs N a,(∀l,N l->a l)->z4h f xs N->z4h f' xs a
 | [],_,_,m,q=>m _ q
 | x::xs,N,a,m,q=>d x _ _ (λo e=>z3w d xs _ _ (λr g=>m _ g) e) q
noncomputable def z1a (b:Nat)(a:List Nat)(d:Env):Env:=List.replicate b .n++a.map λj=>(d[j]?).getD .n
def z4A (t:Tg)(c:Option Ex)(e:Ex)(f:Env)(x:D)(K:Option D->Prop):Prop:=
 t.put x f λa=>match c with
  | none=>e.run a (λd=>K (some d)) (λ_=>False)
  | some c=>c.run a (λb=>tst b (e.run a (λd=>K (some d)) (λ_=>False)) (K none)) (λ_=>False)
def z4z {t:Tg}{c:Option Ex}(x:D)(K K':Option D->Prop)(m:∀o,K o->K' o)(h:z4A t c elt ρ x K):z4A t c elt ρ x K':=by
 refine Tg.put_mono (λa q =>?_) h
 cases c with
 | none=>exact elt.mono a _ _ _ _ (λd e=>m _ e) (λ_ z=>z) q
 | some c=>exact c.mono a _ _ _ _ (λb e=>z2F (elt.mono a _ _ _ _ (λd f=>m _ f) (λ_ z=>z)) (m _) e) (λ_ z=>z) q
def Ex.comp (i:Nat)(g:List Nat)(t:Tg)(src:Ex)(c:Option Ex)(b:Ex):Ex:=
 ⟨λa Q X=>src.run a (λd=>onL (z03 d) λl=>l.length<sizeLine/\z4h (z4A t c b (z1a i g a)) l λr=>Q (.lst r)) X,λa Q o X f m h q=>
  src.mono a _ _ X f (λd j=>z9k (λl e=>⟨e.1,z3w z4z l _ _ (λr n=>m _ n) e.2⟩) j) h q⟩
def Sm.skip:Sm:=⟨λa N _ _=>N a,λ_ _ _ _ _ _ _ m _ _ q=>m _ q⟩
def Sm.seq (a b:Sm):Sm:=⟨λe N Q X=>a.run e (λd=>b.run d N Q X) Q X,λe N i Q f X g j m h q=>a.mono e _ _ Q f X g (λd l=>b.mono d N i Q f X g j m h l) m h q⟩
mutual
def noL:D->Bool
 | .lst _=>false
 | .tup l=>noLs l
 | .dct a vs=>noLs vs
 | .ins _ _ _=>false
 | .fz _ _=>false
 | _=>true
def noLs:List D->Bool
 | []=>true
 | d::a=>noL d && noLs a
end
mutual
def noD:D->Bool
 | .dct _ _=>false
 | .tup l=>noDs l
 | .lst l=>noDs l
 | .ins _ _ _=>false
 | .fz _ _=>false
 | _=>true
def noDs:List D->Bool
 | []=>true
 | d::a=>noD d && noDs a
end
def zi5 (d:D):B->Prop
 | .o (.lst _)=>noL d=true
 | .o (.dct _ _)=>noD d=true
 | _=>True
def Safe (d:D):Env->Prop
 | []=>True
 | b::r=>zi5 d b/\Safe d r
def zeF (d:D)(a:Env):Prop:=match d with
 | .lst l=>∀x∈l,Safe x a
 | .dct _ vs=>∀x∈vs,Safe x a
 | _=>False
def Sm.set (i:Nat)(e:Ex):Sm:=⟨λa N _ X=>e.run a (λd=>Safe d (a.set i .n)/\N (a.set i (.s d))) X,λa N j Q l X f g m h q=>e.mono a _ _ X f (λd b=>⟨b.1,g _ b.2⟩) h q⟩
def Sm.own (i:Nat)(e:Ex):Sm:=⟨λa N _ X=>e.run a (λd=>zeF d (a.set i .n)/\N (a.set i (.o d))) X,λa N j Q l X f g m h q=>e.mono a _ _ X f (λd b=>⟨b.1,g _ b.2⟩) h q⟩
def demB:B->B
 | .o d =>.s d
 | b=>b
def dem:List Nat->Env->Env
 | [],a=>a
 | j::b,a=>dem b (a.set j (demB ((a[j]?).getD .n)))
def visB:B->B
 | .o _ =>.n
 | b=>b
def vis (a:Env):Env:=a.map visB
def Sm.setx (b:List Nat)(i:Nat)(e:Ex):Sm:=⟨λa N _ X=>e.run (vis (dem b a)) (λd=>N ((dem b a).set i (.s d))) X,λa N l Q n X f g m h q=>e.mono _ _ _ X f (λd j=>g _ j) h q⟩
def Sm.ifs (c:Ex)(a b:Sm):Sm:=⟨λe N Q X=>c.run e (λd=>tst d (a.run e N Q X) (b.run e N Q X)) X,λe N h Q i X f j m g q=>c.mono e _ _ X f (λd l=>z2F (a.mono e N h Q i X f j m g) (b.mono e N h Q i X f j m g) l) g q⟩
def Sm.ret (e:Ex):Sm:=⟨λa _ Q X=>e.run a Q X,λa N f Q g X b h m d q=>e.mono a _ _ X b m d q⟩
def Sm.ex (e:Ex):Sm:=⟨λa N _ X=>e.run a (λ_=>N a) X,λa N h Q i X b d m f q=>e.mono a _ _ X b (λ_ g=>d _ g) f q⟩
def wh (c:Ex)(b:Sm)(N:Env->Prop)(Q:DK)(X:XP):Nat->Env->Prop
 | 0,_=>False
 | n+1,a=>c.run a (λd=>tst d (b.run a (wh c b N Q X n) Q X) (N a)) X
theorem zaE {c:Ex}(g:∀a,N a->N' a)(m:∀d,Q d->Q' d)(e:∀x,X x->X' x):∀n a,wh c b N Q X n a->wh c b N' Q' X' n a
 | 0,_,q=>q
 | n+1,a,q=>c.mono a _ _ X X' (λd h=>z2F (b.mono a _ _ Q Q' X X' (λf i=>zaE g m e n f i) m e) (g a) h) e q
def Sm.wh (c:Ex)(b:Sm):Sm:=⟨λa N Q X=>∃n,Pu.wh c b N Q X n a,λa N f Q g X h d m e ⟨n,q⟩=>⟨n,zaE d m e n a q⟩⟩
def forL (t:Tg)(b:Sm)(N:Env->Prop)(Q:DK)(X:XP):List D->Env->Prop
 | [],a=>N a
 | x::e,a=>t.put x a λd=>b.run d (forL t b N Q X e) Q X
theorem z5u {t:Tg}{b:Sm}{N h:Env->Prop}{Q Q':DK}{X e:XP}(i:∀a,N a->h a)(m:∀d,Q d->Q' d)(j:∀x,X x->e x):∀l a,forL t b N Q X l a->forL t b h Q' e l a
 | [],_,q=>i _ q
 | x::p,a,q=>Tg.put_mono (λf n=>b.mono f _ _ Q Q' X e (λg o=>z5u i m j p g o) m j n) q
def Sm.for_ (e:List Nat)(t:Tg)(src:Ex)(b:Sm):Sm:=⟨λa N Q X=>src.run (vis (dem e a)) (λd=>onL (z03 d) λl=>forL t b N Q X l (dem e a)) X,λa N n Q o X g h m f q=>src.mono _ _ _ X g (λd i=>z9k (λl j=>z5u h m f l _ j) i) f q⟩
def onR (a:List D)(K:List D->Prop):Prop:=match a with
 | [.int j]=>(-(2 ^ 62)<=j/\j<2 ^ 62)/\K ((List.range j.toNat).map λ(k:Nat) =>.int k)
 | [.int i,.int j]=>((-(2 ^ 62)<=i/\i<2 ^ 62) /\ -(2 ^ 62)<=j/\j<2 ^ 62)/\K ((List.range (j - i).toNat).map λ(k:Nat) =>.int (i+k))
 | _=>False
def z9i {a:List D}{K K':List D->Prop}(m:∀l,K l->K' l)(h:onR a K):onR a K':=by
 unfold onR at h ⊢
 split at h
 .exact⟨h.1,m _ h.2⟩
 .exact⟨h.1,m _ h.2⟩
 omega
def Sm.forr (es:List Ex)(t:Tg)(b:Sm):Sm:=⟨λa N Q X=>runs es a (λg=>onR g λl=>forL t b N Q X l a) X,λa N n Q o X f h m e q=>z2C es a _ _ X f (λd i=>z9i (λl j=>z5u h m e l _ j) i) e q⟩
def ownL (a:Env)(i:Nat)(K:List D->Prop):Prop:=match a[i]? with
 | some (.o (.lst l))=>K l
 | _=>False
set_option tactic.hygienic true in
def z39 {a:Env}{i:Nat}{K K':List D->Prop}(m:∀l,K l->K' l)(h:ownL a i K):ownL a i K':=by
 unfold ownL at h ⊢
 split <;> rename_i e
 .simp_all
 simp_all
def Sm.app (i:Nat)(e:Ex):Sm:=⟨λa N _ X=>ownL a i λl=>e.run a (λd=>l.length<sizeLine/\Safe d a/\N (a.set i (.o (.lst (l++[d]))))) X,λa N n Q p X f g m h q=>z39 (λl j=>e.mono a _ _ X f (λd b=>⟨b.1,b.2.1,g _ b.2.2⟩) h j) q⟩
def popL (l:List D)(K:List D->D->Prop):Prop:=match l[l.length - 1]? with
 | some d=>K l.dropLast d
 | none=>False
set_option tactic.hygienic true in
def z7m {K K':List D->D->Prop}(m:∀l d,K l d->K' l d)(h:popL l K):popL l K':=by
 unfold popL at h ⊢
 split <;> rename_i e
 .simp_all
 simp_all
def Sm.pop (i:Nat):Sm:=⟨λa N _ _=>ownL a i λl=>popL l λb _=>N (a.set i (.o (.lst b))),λa N g Q h X j d m n q=>z39 (λl e=>z7m (λ_ _ f=>d _ f) e) q⟩
def Sm.popTo (j i:Nat):Sm:=⟨λa N _ _=>ownL a i λl=>popL l λb d=>N ((a.set i (.o (.lst b))).set j (.s d)),λa N h Q n X p e m r q=>z39 (λl f=>z7m (λ_ _ g=>e _ g) f) q⟩
def isLs (d:D)(K:List D->Prop):Prop:=match d with
 | .lst l=>K l
 | _=>False
def z7N {d:D}{K K':List D->Prop}(m:∀j,K j->K' j)(h:isLs d K):isLs d K':=by
 cases d with
 | lst l=>exact m _ h
 | _=>exact h.elim
def Sm.ext (i:Nat)(e:Ex):Sm:=⟨λa N _ X=>ownL a i λl=>e.run a (λd=>isLs d λm=>l.length+m.length<=sizeLine/\(∀x∈m,Safe x a)/\N (a.set i (.o (.lst (l++m))))) X,λa N p Q r X f g m h q=>z39 (λl j=>e.mono a _ _ X f (λd n=>z7N (λm b=>⟨b.1,b.2.1,g _ b.2.2⟩) n) h j) q⟩
def onN (o:Option Nat)(K:Nat->Prop):Prop:=match o with
 | some j=>K j
 | none=>False
def zdU {o:Option Nat}{K K':Nat->Prop}(m:∀j,K j->K' j)(h:onN o K):onN o K':=by
 cases o with
 | none=>exact h
 | some l=>exact m _ h
def isI (d:D)(K:Int->Prop):Prop:=match d with
 | .int i=>K i
 | _=>False
def z9s {d:D}{K K':Int->Prop}(m:∀j,K j->K' j)(h:isI d K):isI d K':=by
 cases d with
 | int i=>exact m _ h
 | _=>exact h.elim
def Sm.put (i:Nat)(k e:Ex):Sm:=⟨λa N _ X=>ownL a i λl=>e.run a (λd=>Safe d a/\k.run a (λf=>isI f λz=>onN (ixN l.length z) λj=>N (a.set i (.o (.lst (l.set j d))))) X) X,λa N u Q w X b n m g q=>
 z39 (λl p=>e.mono a _ _ X b (λd h=>⟨h.1,k.mono a _ _ X b (λf r=>z9s (λz s=>zdU (λj t=>n _ t) s) r) g h.2⟩) g p) q⟩
def Fn.mk' (d h:Nat)(b:Sm):Fn:=⟨λa Q X=>a.length=d/\b.run (a.map B.s++List.replicate (h - d) .n) (λ_=>Q .non) Q X,λa Q e X f m g q=>⟨q.1,b.mono _ _ _ Q e X f (λ_ i=>m _ i) m g q.2⟩⟩
noncomputable def Fn.mkN (d f:Nat)(b:Sm):Fn:=⟨λa Q _=>a.length=d/\b.run (a.map B.s++List.replicate (f - d) .n) (λ_=>Q .non) Q (λ_=>False),λa Q e X h m i q=>⟨q.1,b.mono _ _ _ Q e _ _ (λ_ g=>m _ g) m (λ_ z=>z) q.2⟩⟩
def Sm.calm (b:Sm):Sm:=⟨λa N Q _=>b.run a N Q (λ_=>False),λa N d Q e X g f m h q=>b.mono a N d Q e _ _ f m (λ_ z=>z) q⟩
def AbE (K:W.Frag)(mg:WmP)(G:Hp)(a:Pu.Env)(b:L2.St):Prop:=∀i d,a.get i=some d->∃v,b[i]? = some (some v)/\RD K mg G d v
def Gr (G H b:Hp):Prop:=Same G b/\∀a o,b a=some o->(∃u,G a=some u)\/H a=none
def Gr.refl {G H:Hp}:Gr G H G:=⟨Same.refl',λa o e =>.inl ⟨o,e⟩⟩
def Gr.trans {G H b d G2:Hp}(h:Gr G H b)(k:Same H d)(h':Gr b d G2):Gr G H G2:=⟨z02 h.1 h'.1,λa o e=>by
 rcases h'.2 a o e with ⟨u,q⟩ | q
 .exact h.2 a u q
 .refine .inr ?_
  cases z:H a with
  | none=>rfl
  | some w=>rw[k a w z] at q;cases q⟩
def Gr.new {G H:Hp}{p:Addr}{o:HO}(g:Same G H)(b:H p=none):Gr G H (upd G p o):=by
 have f:G p=none:=by
  cases e:G p with
  | none=>rfl
  | some u=>rw[g p u e] at b;cases b
 refine⟨z0j f o,λa u e =>?_⟩
 by_cases d:a=p
 .subst d;exact .inr b
 .rw[z08 d] at e;exact .inl ⟨u,e⟩
def Kt (K:W.Frag)(mg:WmP)(G H:Hp)(Q0:DK)(Q:VK):Prop:=∀d v a b,Q0 d->Gr G H a->Same a b->Same H b->RD K mg a d v->Q v b
def Kts (K:W.Frag)(mg:WmP)(G H:Hp)(Q0:List D->Prop)(Q:List V->Hp->Prop):Prop:=∀d vs a b,Q0 d->Gr G H a->Same a b->Same H b->RDs K mg a d vs->Q vs b
def Kx (mg:WmP)(H:Hp)(b:XP)(E:XK):Prop:=∀x C a,b x->mg x=some (.ref C)->Same H a->E (.ref C) none a
def tx (K:W.Frag)(mg:WmP)(E:XK)(e:Ex):TE:=λd H Q=>∃G b Q0 a,Same G H/\AbE K mg G b d/\e.run b Q0 a/\Kt K mg G H Q0 Q/\Kx mg H a E
def txa (K:W.Frag)(mg:WmP)(E:XK)(es:List Ex):TA:=λd H Q=>∃G b Q0 a,Same G H/\AbE K mg G b d/\runs es b Q0 a/\Kts K mg G H Q0 Q/\Kx mg H a E
def tt (K:W.Frag)(mg:WmP)(E:XK)(e:Ex):TT:=λi H Q=>∃G h Q0 g,Same G H/\AbE K mg G h i/\e.run h Q0 g/\(∀d f a,Q0 d->Gr G H f->Same f a->Same H a->∃b,d = .bl b/\Q b a)/\Kx mg H g E
section
variable {K:W.Frag}{mg:WmP}{G G' H H':Hp}{ρ:Pu.Env}{σ:L2.St}{Q0:DK}{Q:VK}{X0:XP}{E:XK}
theorem AbE.same (h:AbE K mg G ρ σ)(g:Same G G'):AbE K mg G' ρ σ:=λi d e=>by
 obtain⟨v,a,b⟩:=h i d e;exact⟨v,a,b.same g⟩
def Kt.same (h:Kt K mg G H Q0 Q)(g:Gr G H G')(k:Same H H'):Kt K mg G' H' Q0 Q:=λd v e f q a b c r=>h d v e f q (g.trans k a) b (z02 k c) r
def Kx.same (h:Kx mg H X0 E)(k:Same H H'):Kx mg H' X0 E:=λx C a q m c=>h x C a q m (z02 k c)
def Kx.no:Kx mg H (λ_=>False) E:=λ_ _ _ z=>z.elim
def Kt.now {d:D}{v:V}(h:Kt K mg G H Q0 Q)(g:Same G H)(q:Q0 d)(r:RD K mg G d v):Q v H:=h d v G H q Gr.refl g Same.refl' r
theorem Kt.new {d:D}{p:Addr}{o:HO}{v:V}(h:Kt K mg G H Q0 Q)(g:Same G H)(f:H p=none)(q:Q0 d)(r:RD K mg (upd G p o) d v):Q v (upd H p o):=by
 refine h d v _ _ q (Gr.new g f) (λb u e =>?_) (z0j f o) r
 by_cases a:b=p
 .subst a;rw[z0c] at e ⊢;exact e
 .rw[z08 a] at e ⊢;exact g b u e
def z0Z (g:Same G H){p:Addr}(a:H p=none):G p=none:=by
 cases e:G p with
 | none=>rfl
 | some u=>rw[g p u e] at a;cases a
end
def Lk2 (K:W.Frag)(mg:WmP)(F:Fn)(r:R2):Prop:=∀G H a b d e Q0 f Q,Same G H->RD K mg G a d->RD K mg G b e->F.run [a,b] Q0 f->Kt K mg G H Q0 Q->r d e H Q
def Lk1 (K:W.Frag)(mg:WmP)(F:Fn)(r:V->Hp->VK->Prop):Prop:=∀G H d v Q0 a Q,Same G H->RD K mg G d v->F.run [d] Q0 a->Kt K mg G H Q0 Q->r v H Q
def LkN (K:W.Frag)(mg:WmP)(F:Fn)(r:List V->Hp->VK->Prop):Prop:=∀G H a vs Q0 b Q,Same G H->RDs K mg G a vs->F.run a Q0 b->Kt K mg G H Q0 Q->r vs H Q
section
variable {K:W.Frag}{mg:WmP}{E:XK}{σ:L2.St}{H:Hp}{Q:VK}{a b c:Ex}{F:Fn}{es:List Ex}
def tx2 (C:Lk2 K mg F r)(h:tx K mg E (.op F [a,b]) σ H Q):tOp r (tx K mg E a) (tx K mg E b) σ H Q:=by
 obtain⟨G,g,Q0,e,y,i,x,w,m⟩:=h;refine⟨G,g,λd=>b.run g _ e,e,y,i,x,?_,m⟩;intro d v o J u l s g3 rd;refine⟨o,g,λj=>F.run _ Q0 e,e,s,i.same l.1,u,?_,m.same g3⟩;intro j I p q t n z A f;exact C p q d j v I Q0 e Q z (rd.same n.1) f t (w.same (l.trans g3 n) (z02 g3 A))
def tx1 (q:Lk1 K mg F r)(h:tx K mg E (.op F [a]) σ H Q):tUn r (tx K mg E a) σ H Q:=by
 obtain⟨G,s,Q0,b,o,g,n,m,p⟩:=h;refine⟨G,s,λd=>F.run [d] Q0 b,b,o,g,n,?_,p⟩;intro d v e f l i j g3 rd;exact q e f d v Q0 b Q j rd l (m.same i g3)
def txN (p:LkN K mg F r)(h:tx K mg E (.op F es) σ H Q):tCB r (txa K mg E es) σ H Q:=by
 obtain⟨G,q,Q0,a,n,f,m,l,o⟩:=h;refine⟨G,q,λb=>F.run b Q0 a,a,n,f,m,?_,o⟩;intro b vs d e j g i g3 rd;exact p d e b vs Q0 a Q i rd j (l.same g g3)
end
theorem QE.imp {X:Cx}{e:Expr}{t t':TE}(h:QE X e t)(i:∀a H Q,t' a H Q->t a H Q):QE X e t':=⟨h.p.imp i⟩
def QT.imp {X:Cx}{e:Expr}{t t':TT}(h:QT X e t)(i:∀a H Q,t' a H Q->t a H Q):QT X e t':=⟨λb s a H Q I q=>h.p _ s a H Q I (i a H Q q)⟩
def QA.imp {X:Cx}{e:List Expr}{t t':TA}(h:QA X e t)(i:∀a H Q,t' a H Q->t a H Q):QA X e t':=⟨λb d s a H Q I q=>h.p b _ s a H Q I (i a H Q q)⟩
def QW.imp {X:Cx}{e:Expr}{t t':TT}(h:QW X e t)(i:∀a H Q,t' a H Q->t a H Q):QW X e t':=⟨λw b s a H Q I q=>h.p w _ s a H Q I (i a H Q q)⟩
def QS.imp {X:Cx}{e:Stmt}{t t':TS}(h:QS X e t)(i:∀D a H,t' D a H->t D a H):QS X e t':=⟨λb s a H D I q=>h.p _ s a H D I (i D a H q)⟩
def QSs.imp {X:Cx}{e:List Stmt}{t t':TS}(h:QSs X e t)(i:∀D a H,t' D a H->t D a H):QSs X e t':=⟨λb s a H D I q=>h.p _ s a H D I (i D a H q)⟩
def QI.imp {X:Cx}{d e:Expr}{t t':TI}(h:QI X d e t)(i:∀a H R,t' a H R->t a H R):QI X d e t':=⟨λb s a H R I q=>h.p _ s a H R I (i a H R q)⟩
abbrev QX (X:Cx)(E:XK)(e:Expr)(x:Ex):Prop:=QE X e (tx X.K X.mg E x)
abbrev QXT (X:Cx)(E:XK)(e:Expr)(x:Ex):Prop:=QT X e (tt X.K X.mg E x)
abbrev QXW (X:Cx)(E:XK)(e:Expr)(x:Ex):Prop:=QW X e (tt X.K X.mg E x)
abbrev QXA (X:Cx)(E:XK)(es:List Expr)(x:List Ex):Prop:=QA X es (txa X.K X.mg E x)
section
variable {X:Cx}{E:XK}{e a b c:Expr}{x y z:Ex}{pos:Pos}{es:List Expr}{xs:List Ex}{rest:List Expr}
def qx_c {v:V}(h:QE X e (tC v))(r:∀G,RD X.K X.mg G d v):QX X E e (.c d):=QE.imp h <| by rintro m H Q ⟨G,l,Q0,g,f,i,b,a,j⟩;exact a.now f b (r G)
def qx_v (h:QE X e (tVar i)):QX X E e (.v i):=QE.imp h <| by
 rintro r H Q ⟨G,n,Q0,o,m,b,l,j,p⟩;have a:onV _ Q0:=l
 cases q:n.get i with
 | none=>rw[q] at a;exact a.elim
 | some d=>
  rw[q] at a;obtain⟨v,f,g⟩:=b i d q;exact⟨v,f,j.now m a g⟩
def ziC:QX X E (.Constant (.int i) j pos) (.c (.int i)):=qx_c ziZ λ_=>by rw[RD]
def zln:QX X E (.Constant (.bool i) j pos) (.c (.bl i)):=qx_c zlx λ_=>by rw[RD]
def ziA:QX X E (.Constant .none j pos) (.c .non):=qx_c ziW λ_=>by rw[RD]
def ziz:QX X E (.Constant (.str i) j pos) (.c (.str i)):=qx_c ziV λ_=>by rw[RD]
def ziG {op:Operator}(f:OpR X (binaryOp op) r)(g:Lk2 X.K X.mg F r)(d:QX X E a x)(e:QX X E b y):QX X E (.BinOp a op b pos) (.op F [x,y]):=QE.imp (zlu f d e) λ_ _ _ h=>tx2 g h
def zlh {op:UnaryOp}(d:UnR X (unaryOp op) r)(e:Lk1 X.K X.mg F r)(b:QX X E a x):QX X E (.UnaryOp op a pos) (.op F [x]):=QE.imp (zls d b) λ_ _ _ h=>tx1 e h
def ziF {op:CmpOp}(g:OpR X (compareOp op) r)(i:Lk2 X.K X.mg F r)(d:QX X E a x)(e:QX X E b y)(f:behindInMarks op b=false):QX X E (.Compare a [op] [b] pos) (.op F [x,y]):=QE.imp (zgp g d e f) λ_ _ _ h=>tx2 i h
def zfI {t:TE}(m:∀Q,tx X.K X.mg E x σ H Q->t σ H Q)(h:tt X.K X.mg E x σ H Q):zfP t σ H Q:=by
 obtain⟨G,s,Q0,f,o,g,n,l,p⟩:=h;refine m _ ⟨G,s,Q0,f,o,g,n,λd v a e q i j g3 rd =>?_,p⟩;obtain⟨b,rfl,r⟩:=l d a e q i j g3;exact⟨b,rd,r⟩
def ziM {op:CmpOp}(g:OpR X (compareOp op) r)(i:Lk2 X.K X.mg F r)(d:QX X E a x)(e:QX X E b y)(f:behindInMarks op b=false):QXT X E (.Compare a [op] [b] pos) (.op F [x,y]):=QT.imp (zgg g d e f) λj H Q h=>zfI (λ_ h=>tx2 i h) h
def zgf (h:QX X E e x)(n:autoParam (∀a,isTrue e X.env a=(do let v <- a;standAt e.pos;holding [v] (truthy v))) jC1):QXT X E e x:=QT.imp (ziK h n) λw H Q h=>by
 obtain⟨G,u,Q0,i,r,j,p,o,s⟩:=h;refine⟨G,u,Q0,i,r,j,p,λd v f g q l m g3 rd =>?_,s⟩;obtain⟨b,rfl,t⟩:=o d f g q l m g3;exact⟨b,rd,t⟩
def zge (m:QXT X E a x):QXT X E (.UnaryOp .Not a pos) (.not x):=QT.imp (ziL m) <| by
 rintro w H Q ⟨G,t,Q0,h,p,i,o,n,r⟩;refine⟨G,t,_,h,p,i,o,λd f g q j l g3 =>?_,r⟩
 cases d with
 | bl b=>
  obtain⟨u,e,s⟩:=n _ f g q j l g3
  cases e
  exact⟨b,rfl,s⟩
 | _=>exact q.elim
def zdr (b:QXT X E a x):QXW X E (.BoolOp .And [a] pos) x:=zgd b
def zgb (b:QXT X E a x):QXW X E (.BoolOp .Or [a] pos) x:=ziI b
def zgc (s:QXT X E a x)(t:QXW X E (.BoolOp .And (b::rest) pos) y):QXW X E (.BoolOp .And (a::b::rest) pos) (.and x y):=QW.imp (ziJ s t) <| by
 rintro L H Q ⟨G,n,Q0,h,w,i,u,l,m⟩;refine⟨G,n,_,h,w,i,u,λd g p q f j g3 =>?_,m⟩;obtain⟨k,rfl,F,I⟩:=z90 q;refine⟨k,rfl,?_⟩
 cases k with
 | true=>exact iteT ⟨g,n,Q0,h,j,i.same f.1,F rfl,λd o r q z A C=>l d o r q (f.trans g3 z) A (z02 g3 C),m.same g3⟩
 | false=>
  obtain⟨J,e,K⟩:=l _ g p (I rfl) f j g3
  simp_all
def ziH (s:QXT X E a x)(t:QXW X E (.BoolOp .Or (b::rest) pos) y):QXW X E (.BoolOp .Or (a::b::rest) pos) (.or x y):=QW.imp (zlp s t) <| by
 rintro L H Q ⟨G,n,Q0,h,w,i,u,l,m⟩;refine⟨G,n,_,h,w,i,u,λd g p q f j g3 =>?_,m⟩;obtain⟨k,rfl,F,I⟩:=z90 q;refine⟨k,rfl,?_⟩
 cases k with
 | false=>exact iteF ⟨g,n,Q0,h,j,i.same f.1,I rfl,λd o r q z A C=>l d o r q (f.trans g3 z) A (z02 g3 C),m.same g3⟩
 | true=>
  obtain⟨J,e,K⟩:=l _ g p (F rfl) f j g3
  simp_all
def zg9:QXA X E [] []:=QA.imp z60 <| by rintro i H Q ⟨G,h,Q0,e,d,f,b,a,g⟩;exact a [] [] G H b Gr.refl d Same.refl' RDs.nil
def zdm (r:QX X E e x)(a:QXA X E es xs)(b:autoParam (sE e es X) jA1):QXA X E (e::es) (x::xs):=QA.imp (z3F r a b) <| by
 rintro A H Q ⟨G,l,Q0,f,b,g,a,s,i⟩;refine⟨G,l,_,f,b,g,a,λd v m y q h p g3 rd =>?_,i⟩;refine⟨m,l,_,f,p,g.same h.1,q,λz vs n o w j t u rds =>?_,i.same g3⟩;exact s _ _ n o w (h.trans g3 j) t (z02 g3 u) (RDs.cons (rd.same j.1) rds)
def spP (K:W.Frag)(mg:WmP)(F:Fn):Sp:=λvs H Q E=>∃G b Q0 a,Same G H/\RDs K mg G b vs/\F.run b Q0 a/\Kt K mg G H Q0 Q/\Kx mg H a E
def zlk {k:Nat}{ps:List Str}(C:Cal X.prog X.w X.K X.mg X.base CX k f ps (spP X.K X.mg F))(g:Room k X.A)(a:z2E CX X E)(p:QXA X E (e::es) xs)(s:autoParam (Gl X f) jA1)
  (b:autoParam (dB f) jB1) (r:autoParam (sE e es X) jA1) (d:autoParam (bT pos es X) jA1):QX X E (.Call (.Name f pp) (e::es) [] pos) (.op F xs):=
 QE.imp (zlw C g a p s b r d) <| by
  rintro y H Q ⟨G,x,Q0,h,u,l,g,t,a⟩;refine⟨G,x,_,h,u,l,g,λm vs i j q n o g3 rds =>?_,a⟩;show spP X.K _ F _ j Q E;rw[vk];exact⟨i,m,Q0,h,o,rds,q,t.same n g3,a.same g3⟩
def zll {f:Str}{id:String}(g:z0A X (.builtin id) r)(o:LkN X.K X.mg F r)(j:Gl X f)(l:X.mg f=none)(n:bootBuiltins f=some (.builtin id))(d:QXA X E (e::es) xs)(m:autoParam (f≠"__name__") jB1)(a:autoParam (dB f) jB1)
  (i:autoParam (sE e es X) jA1) (b:autoParam (bT pos es X) jA1):QX X E (.Call (.Name f pp) (e::es) [] pos) (.op F xs):=
 QE.imp (z3X g j l n d m a i b) λ_ _ _ h=>txN o h
def ziE {f:Str}{id:String}(g:z0A X (.type id) r)(o:LkN X.K X.mg F r)(j:Gl X f)(l:X.mg f=none)(n:bootBuiltins f=some (.type id))(d:QXA X E (e::es) xs)(m:autoParam (f≠"__name__") jB1)(a:autoParam (dB f) jB1)
  (i:autoParam (sE e es X) jA1) (b:autoParam (bT pos es X) jA1):QX X E (.Call (.Name f pp) (e::es) [] pos) (.op F xs):=
 QE.imp (z3W g j l n d m a i b) λ_ _ _ h=>txN o h
end
def z4C (K:W.Frag)(mg:WmP)(G H:Hp)(a:Addr):D->Prop
 | .lst f=>∃d,H a=some (.lst d)/\RDs K mg G f d
 | .dct e vs=>∃d,RDs K mg G vs d/\((∃b,H a=some (.dK b)/\e=b.map (λp=>kD p.1)/\d=b.map (·.2))\/∃b,H a=some (.dT b)/\b≠[]/\e=b.map (λp =>.tup (p.1.map kD))/\d=b.map (·.2))
 | _=>False
structure AbS (K:W.Frag)(mg:WmP)(H0 G0 G:Hp)(ρ:Pu.Env)(σ:L2.St)(H:Hp):Prop where
 len:σ.length=ρ.length
 s0:Same H0 H
 g0:Same G0 G
 g:Same G H
 nw:∀a o,G a=some o->(∃u,G0 a=some u)\/H0 a=none
 sh:∀(i:Nat) d,ρ[i]? = some (B.s d)->∃v,σ[i]? = some (some v)/\RD K mg G d v
 ow:∀(i:Nat) d,ρ[i]? = some (B.o d)->∃a,σ[i]? = some (some (V.ref a))/\G a=none/\H0 a=none/\z4C K mg G H a d
 ne:∀(i j:Nat) d d' a,i≠j->ρ[i]? = some (B.o d)->ρ[j]? = some (B.o d')->σ[i]? = some (some (V.ref a))->σ[j]? = some (some (V.ref a))->False
open Classical in
def plus (G H:Hp)(O:Addr->Prop):Hp:=λa=>if O a then H a else G a
open Classical in
def minus (G:Hp)(O:Addr->Prop):Hp:=λa=>if O a then none else G a
section
variable {K:W.Frag}{mg:WmP}{H0 G0 G G' H H' H1:Hp}{ρ:Pu.Env}{σ:L2.St}{O:Addr->Prop}
def z37 (g:Same G H):Same (plus G H O) H:=λa o e=>by
 unfold plus at e
 split at e
 .exact e
 .exact g a o e
def z2c (h:∀a,O a->G a=none):Same G (plus G H O):=λa o e=>by
 unfold plus
 grind
def zbo (h:O a):plus G H O a=H a:=by unfold plus;rw[if_pos h]
def z2n:Same (minus G O) G:=λa o e=>by
 unfold minus at e
 grind
def z4W (h:O a):minus G O a=none:=by unfold minus;rw[if_pos h]
def z7D (h:¬ O a):minus G O a=G a:=by unfold minus;rw[if_neg h]
def z2O (g:Same G G')(h:∀a,O a->G a=none):Same G (minus G' O):=λa o e=>by
 by_cases z:O a
 .grind
 .rw[z7D z];exact g a o e
theorem z4C.same {a:Addr}{d:D}(h:z4C K mg G H a d)(g:Same G G')(k:∀o,H a=some o->H1 a=some o):z4C K mg G' H1 a d:=by
 cases d with
 | lst j=>
  obtain⟨i,e,f⟩:=h;exact⟨i,k _ e,f.same g⟩
 | dct l vs=>
  obtain⟨i,e,f⟩:=h;refine⟨i,e.same g,?_⟩
  rcases f with ⟨b,q,r⟩ | ⟨b,q,r⟩
  .exact .inl ⟨b,k _ q,r⟩
  .exact .inr ⟨b,k _ q,r⟩
 | _=>exact h.elim
theorem z4C.some {a:Addr}{d:D}(h:z4C K mg G H a d):∃o,H a=some o:=by
 cases d with
 | lst i=>obtain⟨g,e,f⟩:=h;exact⟨_,e⟩
 | dct j vs=>
  obtain⟨g,e,f⟩:=h
  rcases f with ⟨b,q,r⟩ | ⟨b,q,r⟩ <;> exact⟨_,q⟩
 | _=>exact h.elim
def z4C.rd {a:Addr}{d:D}(h:z4C K mg G H a d)(g:Same G G')(e:G' a=H a):RD K mg G' d (.ref a):=by
 cases d with
 | lst l=>
  obtain⟨j,f,i⟩:=h;exact⟨a,j,rfl,SqL.of (e.trans f),i.same g⟩
 | dct m vs=>
  obtain⟨j,f,i⟩:=h;refine⟨a,j,rfl,f.same g,?_⟩
  rcases i with ⟨b,q,r⟩ | ⟨b,q,r⟩
  .exact .inl ⟨b,.inl (e.trans q),r⟩
  .exact .inr ⟨b,e.trans q,r⟩
 | _=>exact h.elim
def OK1 (G:Hp)(O:Addr->Prop)(e d:Prop):Prop:=∀a,O a->G a=none\/((∃f,G a=some (.lst f))/\e)\/(((∃b,G a=some (.dK b))\/∃b,G a=some (.dT b))/\d)
def z1P {o u:HO}(d:OK1 G O bL bD)(h:G a=some o)(e:∀xs,o = .lst xs->¬ bL)(f:∀k,o = .dK k->¬ bD)(g:∀k,o = .dT k->¬ bD):minus G O a=some o:=by
 by_cases z:O a
 .rcases d a z with q | ⟨⟨xs,q⟩,b⟩ | ⟨⟨k,q⟩ | ⟨k,q⟩,b⟩
  .grind
  .grind
  .grind
  grind
 .rw[z7D z];exact h
mutual
theorem RD.minus {bL bD:Prop}(f:OK1 G O bL bD):∀(d:D) {v:V},(bL->noL d=true)->(bD->noD d=true)->RD K mg G d v->RD K mg (Pu.minus G O) d v
 | .non,_,_,_,h=>by simpa[RD] using h
 | .bl _,_,_,_,h=>by simpa[RD] using h
 | .int _,_,_,_,h=>by simpa[RD] using h
 | .str _,_,_,_,h=>by simpa[RD] using h
 | .fn _,_,_,_,h=>by rw[RD] at h ⊢;exact h
 | .exc _,_,_,_,h=>by
  rw[RD] at h ⊢;obtain⟨A,C,g,e,j⟩:=h;exact⟨A,C,g,z1P (u :=.lst []) f e (λ_ z=>by cases z) (λ_ z=>by cases z) (λ_ z=>by cases z),j⟩
 | .ptr _,_,_,_,h=>by rw[RD] at h ⊢;exact h
 | .fz _ vs,_,m,l,h=>by
  rw[RD] at h ⊢;obtain⟨a,n,g,e,o,i,q,r⟩:=h;exact⟨a,n,g,RDs.minus f vs (λb=>by have:=m b;rw[noL] at this;cases this) (λb=>by have:=l b;rw[noD] at this;cases this) e,o,i,z1P (u :=.lst []) f q (λ_ z=>by cases z) (λ_ z=>by cases z) (λ_ z=>by cases z),r⟩
 | .ins _ _ x,_,m,l,h=>by
  rw[RD] at h ⊢;obtain⟨p,C,y,n,g,e,j,w⟩:=h;exact⟨p,C,y,n,g,z1P (u :=.lst []) f e (λ_ z=>by cases z) (λ_ z=>by cases z) (λ_ z=>by cases z),j,RDs.minus f x (λb=>by have:=m b;rw[noL] at this;cases this) (λb=>by have:=l b;rw[noD] at this;cases this) w⟩
 | .tup t,_,m,l,h=>by
  rw[RD] at h ⊢;obtain⟨a,n,g,e,j⟩:=h;refine⟨a,n,g,?_,RDs.minus f t (λb=>by have:=m b;rwa [noL] at this) (λb=>by have:=l b;rwa [noD] at this) j⟩
  rcases e with (e | ⟨o,e⟩) | e
  .exact .inl (.inl (z1P (u :=.lst []) f e (λ_ z=>by cases z) (λ_ z=>by cases z) (λ_ z=>by cases z)))
  .exact .inl (.inr ⟨o,z1P (u :=.lst []) f e (λ_ z=>by cases z) (λ_ z=>by cases z) (λ_ z=>by cases z)⟩)
  .exact .inr e
 | .lst t,_,m,l,h=>by
  rw[RD] at h ⊢;obtain⟨a,n,g,e,j⟩:=h;have s:¬ bL:=λb=>by have:=m b;rw[noL] at this;cases this
  refine⟨a,n,g,?_,RDs.minus f t (λb=>(s b).elim) (λb=>by have:=l b;rwa [noD] at this) j⟩
  rcases e with (e | ⟨o,e⟩) | e
  .exact .inl (.inl (z1P (u :=.lst []) f e (λ_ _=>s) (λ_ z=>by cases z) (λ_ z=>by cases z)))
  .exact .inl (.inr ⟨o,z1P (u :=.lst []) f e (λ_ z=>by cases z) (λ_ z=>by cases z) (λ_ z=>by cases z)⟩)
  .exact .inr e
 | .dct E vs,_,m,l,h=>by
  rw[RD] at h ⊢;obtain⟨a,n,g,j,w⟩:=h;have s:¬ bD:=λb=>by have:=l b;rw[noD] at this;cases this
  refine⟨a,n,g,RDs.minus f vs (λb=>by have:=m b;rwa [noL] at this) (λb=>(s b).elim) j,?_⟩
  rcases w with ⟨i,q,r⟩ | ⟨i,q,r⟩
  .exact .inl ⟨i,q.imp (λq=>z1P (u :=.lst []) f q (λ_ z=>by cases z) (λ_ _=>s) (λ_ _=>s)) λ⟨o,q⟩=>⟨o,z1P (u :=.lst []) f q (λ_ z=>by cases z) (λ_ z=>by cases z) (λ_ z=>by cases z)⟩,r⟩
  .exact .inr ⟨i,z1P (u :=.lst []) f q (λ_ z=>by cases z) (λ_ _=>s) (λ_ _=>s),r⟩
theorem RDs.minus {f e:Prop}(g:OK1 G O f e):∀(a:List D) {xs:List V},(f->noLs a=true)->(e->noDs a=true)->RDs K mg G a xs->RDs K mg (Pu.minus G O) a xs
 | [],_,_,_,h=>by simpa[RDs] using h
 | d::a,_,j,i,h=>by
  rw[RDs] at h ⊢;obtain⟨x,r,l,m,n⟩:=h;exact⟨x,r,l,RD.minus g d (λb=>by have:=j b;rw[noLs,vI] at this;exact this.1) (λb=>by have:=i b;rw[noDs,vI] at this;exact this.1) m,
   RDs.minus g a (λb=>by have:=j b;rw[noLs,vI] at this;exact this.2) (λb=>by have:=i b;rw[noDs,vI] at this;exact this.2) n⟩
end
def z3g (b:Pu.Env)(e:L2.St)(a:Addr):Prop:=∃(j:Nat) (d:D),b[j]? = some (B.o d)/\e[j]? = some (some (V.ref a))
def AbS.free (h:AbS K mg H0 G0 G ρ σ H):∀a,z3g ρ σ a->G a=none:=by
 rintro a ⟨j,d,e,q⟩;obtain⟨b,g,f,_⟩:=h.ow j d e
 grind
def AbS.owned0 (h:AbS K mg H0 G0 G ρ σ H):∀a,z3g ρ σ a->H0 a=none:=by
 rintro a ⟨j,d,e,q⟩;obtain⟨b,i,g,f,_⟩:=h.ow j d e
 grind
def AbS.nw1 (h:AbS K mg H0 G0 G ρ σ H)(g:Gr (plus G H (z3g ρ σ)) H G1):∀a o,G1 a=some o->(∃u,G0 a=some u)\/H0 a=none:=λa o e=>by
 rcases g.2 a o e with ⟨u,q⟩ | q
 .by_cases z:z3g ρ σ a
  .exact .inr (h.owned0 a z)
  .unfold plus at q;rw[if_neg z] at q;exact h.nw a u q
 .refine .inr ?_
  cases z:H0 a with
  | none=>rfl
  | some w=>rw[h.s0 a w z] at q;cases q
def AbS.nw2 (h:AbS K mg H0 G0 G ρ σ H)(g:Gr G H G1):∀a o,G1 a=some o->(∃u,G0 a=some u)\/H0 a=none:=λa o e=>by
 rcases g.2 a o e with ⟨u,q⟩ | q
 .exact h.nw a u q
 .refine .inr ?_
  cases z:H0 a with
  | none=>rfl
  | some w=>rw[h.s0 a w z] at q;cases q
def AbS.abe (h:AbS K mg H0 G0 G ρ σ H):AbE K mg (plus G H (z3g ρ σ)) ρ σ:=λi d e=>by
 rw[Env.get_eq] at e
 cases q:ρ[i]? with
 | none=>simp_all
 | some b=>
  rw[q] at e
  cases b with
  | n=>cases e
  | s j=>
   cases e
   obtain⟨v,f,g⟩:=h.sh i d q;exact⟨v,f,g.same (z2c h.free)⟩
  | o j=>
   cases e
   obtain⟨a,f,g,m,l⟩:=h.ow i d q;exact⟨.ref a,f,l.rd (z2c h.free) (zbo ⟨i,d,q,f⟩)⟩
theorem AbS.vis (h:AbS K mg H0 G0 G ρ σ H):AbE K mg G (vis ρ) σ:=λi d e=>by
 rw[Env.get_eq] at e;unfold Pu.vis at e;rw[wK] at e
 cases q:ρ[i]? with
 | none=>simp_all
 | some b=>
  rw[q] at e
  cases b with
  | n=>cases e
  | s a=>
   cases e
   exact h.sh i d q
  | o a=>cases e
theorem Safe.get {d:D}:∀{a:Pu.Env}{j:Nat}{b:B},Safe d a->a[j]? = some b->zi5 d b
 | [],_,_,_,e=>by simp at e
 | c::r,0,b,h,e=>by simp at e;subst e;exact h.1
 | c::r,j+1,b,h,e=>Safe.get h.2 (by simpa using e)
def zfc {d:D}{I:Nat->Prop}(h:AbS K mg H0 G0 G ρ σ H)(A:Same G1 H1)(g3:Same H H1):
  OK1 G1 (λa=>∃(j:Nat) (d:D),I j/\ρ[j]? = some (B.o d)/\σ[j]? = some (some (V.ref a))) (∃(j:Nat) (l:List D),I j/\ρ[j]? = some (B.o (.lst l))) (∃(j:Nat) (k v:List D),I j/\ρ[j]? = some (B.o (.dct k v))):=by
 rintro a ⟨j,n,i,e,q⟩;obtain⟨b,u,E,C,m⟩:=h.ow j n e;rw[q] at u;cases u
 cases y:G1 a with
 | none=>exact .inl rfl
 | some o=>
  have g:=A a o y
  cases n with
  | lst x=>
   obtain⟨w,p,s⟩:=m;rw[g3 a _ p] at g
   cases g
   exact .inr (.inl ⟨⟨w,rfl⟩,j,x,i,e⟩)
  | dct t vs=>
   obtain⟨w,p,s⟩:=m
   rcases s with ⟨f,z,r⟩ | ⟨f,z,r⟩
   .rw[g3 a _ z] at g
    cases g
    exact .inr (.inr ⟨.inl ⟨f,rfl⟩,j,t,vs,i,e⟩)
   .rw[g3 a _ z] at g
    cases g
    exact .inr (.inr ⟨.inr ⟨f,rfl⟩,j,t,vs,i,e⟩)
  | _=>exact m.elim
def z5V {d:D}{v:V}{i:Nat}(h:AbS K mg H0 G0 G ρ σ H)(g:Same G1 H1)(g3:Same H H1)(f:Safe d (ρ.set i .n))(rd:RD K mg G1 d v):
  RD K mg (Pu.minus G1 (λa=>∃(j:Nat) (d:D),j≠i/\ρ[j]? = some (B.o d)/\σ[j]? = some (some (V.ref a)))) d v:=by
 refine RD.minus (zfc (d:=d) h g g3) d (λ⟨j,l,b,e⟩ =>?_) (λ⟨j,k,v,b,e⟩ =>?_) rd
 .exact Safe.get f (by rw[wF (vQ b)];exact e)
 .exact Safe.get f (by rw[wF (vQ b)];exact e)
def z8k {d:D}{v:V}(h:AbS K mg H0 G0 G ρ σ H)(f:Same G1 H1)(g3:Same H H1)(b:Safe d ρ)(rd:RD K mg G1 d v):
  RD K mg (Pu.minus G1 (λa=>∃(j:Nat) (d:D),True/\ρ[j]? = some (B.o d)/\σ[j]? = some (some (V.ref a)))) d v:=by
 refine RD.minus (zfc (d:=d) h f g3) d (λ⟨j,l,g,e⟩ =>?_) (λ⟨j,k,v,g,e⟩ =>?_) rd
 .exact Safe.get b e
 .exact Safe.get b e
def AbS.put {l:Hp}{i:Nat}{d:D}{v:V}(h:AbS K mg H0 G0 G ρ σ H)(nw:∀a o,l a=some o->(∃u,G0 a=some u)\/H0 a=none)(n:Same G l)(z:Same l H1)(g3:Same H H1)(E:∀j d' a,j≠i->ρ[j]? = some (B.o d')->σ[j]? = some (some (V.ref a))->l a=none)(rd:RD K mg l d v):
  AbS K mg H0 G0 l (ρ.set i (.s d)) (σ.set i (some v)) H1 where
 len:=by simp[h.len]
 s0:=z02 h.s0 g3
 g0:=z02 h.g0 n
 g:=z
 nw:=nw
 sh:=λj e q=>by
  by_cases b:j=i
  .subst b;have f:j < ρ.length:=by
    have:=(wq.mp q).1;simpa using this
   rw[wR f] at q
   cases q
   exact⟨v,by rw[wR (by rw[h.len];exact f)],rd⟩
  .rw[wF (vQ b)] at q;obtain⟨w,m,t⟩:=h.sh j e q;exact⟨w,by rw[wF (vQ b)];exact m,t.same n⟩
 ow:=λj e q=>by
  by_cases b:j=i
  .subst b;have f:j < ρ.length:=by
    have:=(wq.mp q).1;simpa using this
   rw[wR f] at q
   cases q
  .rw[wF (vQ b)] at q;obtain⟨a,m,t,A,C⟩:=h.ow j e q;exact⟨a,by rw[wF (vQ b)];exact m,E j e a b q m,A,C.same n (g3 a)⟩
 ne:=λj k e y a p q r s x=>by
  have f:∀{j:Nat}{e:D},(ρ.set i (.s d))[j]? = some (B.o e)->j≠i:=λ{j e} q b=>by
   subst b;have f:j < ρ.length:=by
    have:=(wq.mp q).1;simpa using this
   rw[wR f] at q
   cases q
  have b:=f q;have F:=f r;rw[wF (vQ b)] at q s;rw[wF (vQ F)] at r x;exact h.ne j k e y a p q r s x
def AbS.own {l:Hp}{i:Nat}{d:D}{a:Addr}(h:AbS K mg H0 G0 G ρ σ H)(nw:∀a o,l a=some o->(∃u,G0 a=some u)\/H0 a=none)(y:Same G l)(N:Same l H1)(g3:Same H H1)(Q:∀j d' a,j≠i->ρ[j]? = some (B.o d')->σ[j]? = some (some (V.ref a))->l a=none)(J:H a=none)(O:l a=none)(S:z4C K mg l H1 a d):
  AbS K mg H0 G0 l (ρ.set i (.o d)) (σ.set i (some (.ref a))) H1 where
 len:=by simp[h.len]
 s0:=z02 h.s0 g3
 g0:=z02 h.g0 y
 g:=N
 nw:=nw
 sh:=λj e q=>by
  by_cases f:j=i
  .subst f;have n:j < ρ.length:=by
    have:=(wq.mp q).1;simpa using this
   rw[wR n] at q
   cases q
  .rw[wF (vQ f)] at q;obtain⟨w,m,A⟩:=h.sh j e q;exact⟨w,by rw[wF (vQ f)];exact m,A.same y⟩
 ow:=λj e q=>by
  by_cases f:j=i
  .subst f;have n:j < ρ.length:=by
    have:=(wq.mp q).1;simpa using this
   rw[wR n] at q
   cases q
   refine⟨a,by rw[wR (by rw[h.len];exact n)],O,?_,S⟩;exact z0Z h.s0 J
  .rw[wF (vQ f)] at q;obtain⟨b,m,A,I,C⟩:=h.ow j e q;exact⟨b,by rw[wF (vQ f)];exact m,Q j e b f q m,I,C.same y (g3 b)⟩
 ne:=λj k e M b p q E s F=>by
  have old:∀{j:Nat}{e:D},j≠i->(ρ.set i (.o d))[j]? = some (B.o e)->(σ.set i (some (.ref a)))[j]? = some (some (V.ref b))->ρ[j]? = some (B.o e)/\σ[j]? = some (some (V.ref b)):=λ{j e} f q s=>by
   rw[wF (vQ f)] at q s;exact⟨q,s⟩
  have new:∀{j:Nat}{e:D},j=i->(ρ.set i (.o d))[j]? = some (B.o e)->(σ.set i (some (.ref a)))[j]? = some (some (V.ref b))->b=a:=λ{j e} f q s=>by
   subst f;have n:j < σ.length:=by
    have:=(wq.mp s).1;simpa using this
   rw[wR n] at s
   cases s;rfl
  have none:∀{j:Nat}{e:D},ρ[j]? = some (B.o e)->σ[j]? = some (some (V.ref b))->b≠a:=λ{j e} q s z=>by
   obtain⟨W,m,A,I,C⟩:=h.ow j e q;rw[s] at m;cases m;obtain⟨o,L⟩:=C.some;rw[z,J] at L;cases L
  by_cases f:j=i
  .have R:=new f q s;have r:k≠i:=λz=>p (f.trans z.symm);obtain⟨t,x⟩:=old r E F;exact none t x R
  .obtain⟨t,x⟩:=old f q s
   by_cases r:k=i
   .exact none t x (new r E F)
   .obtain⟨T,U⟩:=old r E F;exact h.ne j k e M b p t T x U
def AbS.wr {g:Hp}{i:Nat}{d d':D}{a:Addr}{o:HO}(h:AbS K mg H0 G0 G ρ σ H)(R:∀a o,g a=some o->(∃u,G0 a=some u)\/H0 a=none)(t:Same G g)(L:Same g H1)(g3:Same H H1)(A:∀(j:Nat) d' a,ρ[j]? = some (B.o d')->σ[j]? = some (some (V.ref a))->g a=none)(l:ρ[i]? = some (B.o d))(r:σ[i]? = some (some (V.ref a)))
  (O:z4C K mg g (upd H1 a o) a d'):AbS K mg H0 G0 g (ρ.set i (.o d')) σ (upd H1 a o):=by
 obtain⟨X,F,Y,m,Q⟩:=h.ow i d l;rw[r] at F;cases F;have J:i < ρ.length:=(wq.mp l).1;refine⟨by simp[h.len],λb u e =>?_,z02 h.g0 t,λb u e =>?_,R,λj e q =>?_,λj e q =>?_,λj k e E b C q S s W =>?_⟩
 .have p:b≠a:=λz=>by rw[z,m] at e;cases e
  rw[z08 p];exact g3 b u (h.s0 b u e)
 .have p:b≠a:=λz=>by rw[z,A i d a l r] at e;cases e
  rw[z08 p];exact L b u e
 .by_cases f:j=i
  .subst f;rw[wR J] at q;cases q
  .rw[wF (vQ f)] at q;obtain⟨w,n,I⟩:=h.sh j e q;exact⟨w,n,I.same t⟩
 .by_cases f:j=i
  .subst f;rw[wR J] at q;cases q;exact⟨a,r,A j d a l r,m,O⟩
  .rw[wF (vQ f)] at q;obtain⟨b,n,I,M,N⟩:=h.ow j e q;have p:b≠a:=λz=>by subst z;exact h.ne j i e d b f q l n r
   exact⟨b,n,A j e b q n,M,N.same t (λu e=>by rw[z08 p];exact g3 b u e)⟩
 .have old:∀{j:Nat}{e:D},(ρ.set i (.o d'))[j]? = some (B.o e)->∃E,ρ[j]? = some (B.o E):=λ{j e} q=>by
   by_cases f:j=i
   .subst f;exact⟨d,l⟩
   .rw[wF (vQ f)] at q;exact⟨e,q⟩
  obtain⟨x,T⟩:=old q;obtain⟨y,U⟩:=old S;exact h.ne j k x y b C T U s W
def AbS.dem1 (h:AbS K mg H0 G0 G ρ σ H)(j:Nat):∃G',AbS K mg H0 G0 G' (ρ.set j (demB ((ρ[j]?).getD .n))) σ H/\Same G G':=by
 cases q:ρ[j]? with
 | none=>
  have:ρ.set j (demB (none.getD .n))=ρ:=by
   apply List.set_eq_of_length_le;exact List.getElem?_eq_none_iff.mp q
  rw[this];exact⟨G,h,Same.refl'⟩
 | some b=>
  have r:j < ρ.length:=(wq.mp q).1;have same:∀i,b=i->demB i=i->∃G',AbS K mg H0 G0 G' (ρ.set j (demB ((some b).getD .n))) σ H/\Same G G':=λi e t=>by
   subst e;have:ρ.set j (demB ((some b).getD .n))=ρ:=by
    show ρ.set j (demB b)=ρ;rw[t];apply List.ext_getElem?;intro k
    by_cases f:k=j
    .subst f;rw[wR r,q]
    .rw[wF (vQ f)]
   rw[this];exact⟨G,h,Same.refl'⟩
  cases b with
  | n=>exact same .n rfl rfl
  | s d=>exact same (.s d) rfl rfl
  | o d=>
   obtain⟨a,C,E,u,J⟩:=h.ow j d q;show ∃G',AbS K mg H0 G0 G' (ρ.set j (.s d)) σ H/\Same G G';have lp:Same G (plus G H (· = a)):=z2c (λb z=>by rw[z];exact E);refine⟨plus G H (· = a),⟨by simp[h.len],h.s0,z02 h.g0 lp,z37 h.g,λb o e=>(by
     by_cases p:b=a
     .exact .inr (by rw[p];exact u)
     .unfold plus at e;rw[if_neg p] at e;exact h.nw b o e),λk e z =>?_,λk e z =>?_,λk l e t b A z M s L =>?_⟩,lp⟩
   .by_cases f:k=j
    .subst f;rw[wR r] at z;cases z;exact⟨.ref a,C,J.rd lp (zbo rfl)⟩
    .rw[wF (vQ f)] at z;obtain⟨w,m,x⟩:=h.sh k e z;exact⟨w,m,x.same lp⟩
   .by_cases f:k=j
    .subst f;rw[wR r] at z;cases z
    .rw[wF (vQ f)] at z;obtain⟨b,m,x,F,I⟩:=h.ow k e z;have p:b≠a:=λy=>by subst y;exact h.ne k j e d b f z q m C
     refine⟨b,m,?_,F,I.same lp (λ_ e=>e)⟩;unfold plus;rw[if_neg p];exact x
   .have old:∀{k:Nat}{e:D},(ρ.set j (.s d))[k]? = some (B.o e)->ρ[k]? = some (B.o e):=λ{k e} z=>by
     by_cases f:k=j
     .subst f;rw[wR r] at z;cases z
     .rw[wF (vQ f)] at z;exact z
    exact h.ne k l e t b A (old z) (old M) s L
theorem AbS.dem (b:List Nat):∀{G:Hp}{a:Pu.Env},AbS K mg H0 G0 G a σ H->∃G',AbS K mg H0 G0 G' (dem b a) σ H/\Same G G':=by
 induction b with
 | nil=>intro G a h;exact⟨G,h,Same.refl'⟩
 | cons j b l=>
  intro G a h;obtain⟨m,g,e⟩:=h.dem1 j;obtain⟨d,i,f⟩:=l g;exact⟨d,i,z02 e f⟩
end
def Kn (K:W.Frag)(mg:WmP)(g f G:Hp)(h:Pu.Env->Prop)(N:L2.St->Hp->Prop):Prop:=∀a b e d,h a->AbS K mg g f d a b e->Same G d->N b e
def Kr (K:W.Frag)(mg:WmP)(e f:Hp)(g:DK)(R:VK):Prop:=∀d v a b,g d->Gr f e a->Same a b->Same e b->RD K mg a d v->R v b
def ts (K:W.Frag)(mg:WmP)(E:XK)(t:Sm):TS:=λD h H=>∃a b G g d e f,AbS K mg a b G g h H/\t.run g d e f/\Kn K mg a b G d D.nx/\Kr K mg a b e D.rt/\Kx mg a f E
def Kn.same {K:W.Frag}{mg:WmP}{j f G i:Hp}{l:Pu.Env->Prop}{N:L2.St->Hp->Prop}(h:Kn K mg j f G l N)(g:Same G i):Kn K mg j f i l N:=λd e n m a b c=>h d e n m a b (z02 g c)
abbrev QZ (X:Cx)(E:XK)(st:Stmt)(t:Sm):Prop:=QS X st (ts X.K X.mg E t)
abbrev QZs (X:Cx)(E:XK)(st:List Stmt)(t:Sm):Prop:=QSs X st (ts X.K X.mg E t)
section
variable {X:Cx}{E:XK}{st:Stmt}{rest body la lb:List Stmt}{t u:Sm}{e a b c:Expr}{x y z:Ex}{pos:Pos}
def ziu:QZs X E [] .skip:=QSs.imp zgi <| by rintro D f H ⟨h,g,G,e,i,j,l,a,d,b,m,n⟩;exact b e f H G d a Same.refl'
def z7i (h:QZ X E st t):QZs X E [st] t:=zgh h
def z6s (h:QZ X E st t)(h':QZs X E rest u):QZs X E (st::rest) (.seq t u):=QSs.imp (zds h h') λD y H ⟨i,f,G,s,j,b,d,o,r,p,l,m⟩=>
 ⟨i,f,G,s,λa=>u.run a j b d,b,d,o,r,λa w x n q e g=>⟨i,f,n,a,j,b,d,e,q,p.same g,l,m⟩,l,m⟩
def zcS {K:W.Frag}{mg:WmP}{f h G H:Hp}{a:Pu.Env}{e:L2.St}{Q0:DK}{b:XP}{Q:VK}(d:AbS K mg f h G a e H)(j:x.run a Q0 b)(l:Kx mg f b E)(i:Kt K mg (plus G H (z3g a e)) H Q0 Q):tx K mg E x e H Q:=
 ⟨plus G H _,a,Q0,b,z37 d.g,d.abe,j,i,l.same d.s0⟩
def AbS.back {K:W.Frag}{mg:WmP}{p n G h H m:Hp}{f:Pu.Env}{g:L2.St}(b:AbS K mg p n G f g H)(q:Gr (plus G H (z3g f g)) H h)(t:Same h m)(g3:Same H m):AbS K mg p n (minus h (z3g f g)) f g m/\Same G (minus h (z3g f g)):=by
 have s:=b.free;have l  := z2O (z02 (z2c s) q.1) s;exact⟨⟨b.len,z02 b.s0 g3,z02 b.g0 l,z02 z2n t,λa o e=>b.nw1 q a o (z2n a o e),λi d e=>by
   obtain⟨v,j,r⟩:=b.sh i d e;exact⟨v,j,r.same l⟩,λi d e=>by
   obtain⟨a,j,r,u,w⟩:=b.ow i d e;exact⟨a,j,z4W ⟨i,d,e,j⟩,u,w.same l (g3 a)⟩,b.ne⟩,l⟩
def zhL {K:W.Frag}{mg:WmP}{i m G H:Hp}{h:Pu.Env}{l:L2.St}{A B:Prop}{n:XP}{Q:Bool->Hp->Prop}(j:AbS K mg i m G h l H)(w:x.run h (λd=>tst d A B) n)(y:Kx mg i n E)
  (t:A->∀e a,AbS K mg i m a h l e->Same G a->Q true e) (u:B->∀e a,AbS K mg i m a h l e->Same G a->Q false e):tt K mg E x l H Q:=by
 refine⟨plus G H _,h,_,n,z37 j.g,j.abe,w,λd F o q r s g3 =>?_,y.same j.s0⟩;obtain⟨b,rfl,z,C⟩:=z90 q;refine⟨b,rfl,?_⟩;obtain⟨f,p⟩:=j.back r s g3
 cases b with
 | true=>exact t (z rfl) o _ f p
 | false=>exact u (C rfl) o _ f p
def zlg (w:QXT X E c z)(r:QZs X E la t)(s:QZs X E lb u):QZ X E (.If c la lb pos) (.ifs z t u):=QS.imp (zlq w r s) <| by
 rintro D y H ⟨f,e,G,n,h,i,j,p,x,m,l,d⟩;refine zhL p x d (λq o b a g =>?_) (λq o b a g =>?_)
 .exact iteT ⟨f,e,b,n,h,i,j,a,q,m.same g,l,d⟩
 .exact iteF ⟨f,e,b,n,h,i,j,a,q,m.same g,l,d⟩
def ziq (j:QX X E e x):QZ X E (.Return (some e) pos) (.ret x):=QS.imp (ziN j) λD w H ⟨o,n,G,u,p,r,s,a,l,t,i,m⟩=>
 zcS a l m λd v f g q b h g3 rd=>i d v f g q ⟨z02 a.g0 (z02 (z2c a.free) b.1),a.nw1 b⟩ h (z02 a.s0 g3) rd
def z4Z (i:Nat)(b:Pu.Env)(e:L2.St)(a:Addr):Prop:=∃(j:Nat) (d:D),j≠i/\b[j]? = some (B.o d)/\e[j]? = some (some (V.ref a))
def zf1 (h:QS X (.Assign [tg] e pos) (tAsg (tx X.K X.mg E x) (z2S i))):QZ X E (.Assign [tg] e pos) (.set i x):=QS.imp h λD C H ⟨J,F,G,A,L,M,N,b,y,w,O,z⟩=>
 zcS b y z λd v I m q f g g3 rd=>by
  have t:∀a,z4Z i A C a->G a=none:=λa ⟨j,d,_,p,r⟩=>b.free a ⟨j,d,p,r⟩;have l  := z2O (z02 (z2c b.free) f.1) t;exact w _ _ m _ q.2 (b.put (λa o e=>b.nw1 f a o (z2n a o e)) l (z02 z2n g) g3 (λj n a u e s=>z4W ⟨j,n,u,e,s⟩) (z5V b g g3 q.1 rd)) l
def zg8 (h:QS X (.Assign [tg] e pos) (tAsg (tx X.K X.mg E x) (z2S i))):QZ X E (.Assign [tg] e pos) (.setx js i x):=QS.imp h <| by
 rintro D σ H ⟨O,N,G,Z,Q,R,t,m,J,I,U,M⟩;obtain⟨n,f,C⟩:=m.dem js;refine⟨n,vis _,_,t,f.g,f.vis,J,λd v p r q l F g3 rd =>?_,M.same m.s0⟩;exact I _ _ r _ q (f.put (f.nw2 l) l.1 F g3 (λj y a W e s=>by
  obtain⟨b,A,S,T,L⟩:=f.ow j y e;rw[s] at A;cases z:p a with
  | none=>rfl
  | some o=>
   obtain⟨u,Y⟩:=L.some
   rcases l.2 a o z with ⟨w,q⟩ | q
   .grind
   grind) rd) (z02 C l.1)
def Kf (K:W.Frag)(mg:WmP)(G H:Hp)(Q0:DK)(Q:VK):Prop:=∀d a b e,Q0 d->Gr G H b->Same b e->Same H e->H a=none->b a=none->z4C K mg b e a d->Q (.ref a) e
def tf (K:W.Frag)(mg:WmP)(E:XK)(e:Ex):TE:=λd H Q=>∃G b Q0 a,Same G H/\AbE K mg G b d/\e.run b Q0 a/\Kf K mg G H Q0 Q/\Kx mg H a E
abbrev QF (X:Cx)(E:XK)(e:Expr)(x:Ex):Prop:=QE X e (tf X.K X.mg E x)
def Kt.kf {K:W.Frag}{mg:WmP}{G H:Hp}{Q0:DK}{Q:VK}(h:Kt K mg G H Q0 Q):Kf K mg G H Q0 Q:=λd a r l q g m g3 p n j=>by
 obtain⟨o,i⟩:=j.some;have lp  := z0j n o;refine h d _ _ l q ⟨z02 g.1 lp,λb u e =>?_⟩ (λb u e =>?_) g3 (j.rd lp (by rw[z0c];exact i.symm))
 .by_cases f:b=a
  .subst f;exact .inr p
  .rw[z08 f] at e;exact g.2 b u e
 .by_cases f:b=a
  .subst f;rw[z0c] at e;rw[i];exact e
  .rw[z08 f] at e;exact m b u e
def QF.qx (h:QF X E e x):QX X E e x:=QE.imp h λl H Q ⟨G,j,Q0,a,g,b,f,d,i⟩=>⟨G,j,Q0,a,g,b,f,d.kf,i⟩
def zit (h:QS X (.Assign [tg] e pos) (tAsg (tf X.K X.mg E x) (z2S i))):QZ X E (.Assign [tg] e pos) (.own i x):=QS.imp h <| by
 rintro D t H ⟨H0,G0,G,p,N0,R0,M,b,U,T,hR,W⟩;refine⟨plus G H (z3g p t),p,_,M,z37 b.g,b.abe,U,λd a u L q A C g3 Q ga I =>?_,W.same b.s0⟩;have R:∀a,z4Z i p t a->G a=none:=λa ⟨j,d,_,f,m⟩=>b.free a ⟨j,d,f,m⟩;have J  := z2O (z02 (z2c b.free) A.1) R;have z03:∀l xs,(∀x∈l,Safe x (p.set i .n))->RDs X.K X.mg u l xs->RDs X.K X.mg (minus u (z4Z i p t)) l xs:=by
  intro l
  induction l with
  | nil=>intro xs _ h;exact h
  | cons y l Z=>
   intro xs F h;obtain⟨v,r,f,m,O⟩:=h;exact⟨v,r,f,z5V b C g3 (F y wv) m,Z r (λz Y=>F z (wn _ Y)) O⟩
 have na:minus u (z4Z i p t) a=none:=by
  unfold minus
  simp_all
 refine T _ _ L _ q.2 (b.own (λa o e=>b.nw1 A a o (z2n a o e)) J (z02 z2n C) g3 (λj N a S e s=>z4W ⟨j,N,S,e,s⟩) Q na ?_) J;have w:=q.1
 cases d with
 | lst l=>
  obtain⟨xs,f,m⟩:=I;exact⟨xs,f,z03 l xs w m⟩
 | dct ks vs=>
  obtain⟨xs,f,m⟩:=I;exact⟨xs,z03 vs xs w f,m⟩
 | _=>exact w.elim
end
section
variable {X:Cx}{E:XK}{st:Stmt}{rest body la lb:List Stmt}{t u:Sm}{e a b c tg iter:Expr}{x y z:Ex}{pos:Pos}
def z9j (h:onL o Q):∃l,o=some l/\Q l:=by
 cases o with
 | none=>exact h.elim
 | some l=>exact⟨l,rfl,h⟩
def zdi (R:PassesOwn (model X.prog X.w) X.A X.env X.xe)(O:QXT X E c z)(N:QZs X E body t):QZ X E (.While c body [] pos) (.wh z t):=QS.imp (zdt R O N) <| by
 rintro D Y H ⟨o,j,G,T,p,h,i,J,⟨n,S⟩,Q,M,I⟩;refine⟨λm b f=>∃d a,AbS X.K _ o j d a b f/\Same G d/\wh z t p h i m a,⟨n,G,T,J,Same.refl',S⟩,?_⟩;rintro m x W ⟨U,g,s,C,F⟩
 cases m with
 | zero=>exact F.elim
 | succ m=>
  refine zhL s F I (λq y l e u =>?_) (λq y l e u =>?_)
  .refine iteT ⟨λb f=>∃d a,AbS X.K _ o j d a b f/\Same G d/\wh z t p h i m a,λb f w=>⟨m,uK _,w⟩,?_⟩;exact⟨o,j,l,g,wh z t p h i m,h,i,e,q,λa b f d w r L=>⟨d,a,r,z02 C (z02 u L),w⟩,M,I⟩
  .exact iteF (Q g x y l q e (z02 C u))
def Walk (K:W.Frag)(mg:WmP)(G:Hp)(l:List D)(J:It):Prop:=∀i a H,Same G a->Same a H->
 (∀d,l[i]? = some d->J.go i H/\∀v e,J.yld i H v e->Same H e/\∃b,Gr a H b/\Same b e/\RD K mg b d v)/\(l.length<=i->J.stop i H)
def ti (K:W.Frag)(mg:WmP)(E:XK)(e:Ex):TI:=λh H R=>∃G g Q0 f,Same G H/\AbE K mg G g h/\e.run g Q0 f/\(∀d,Q0 d->∃l,z03 d=some l)/\(∀d a b,Q0 d->Gr G H a->Same a b->Same H b->∀l J,z03 d=some l->Walk K mg a l J->R J b)/\Kx mg H f E
abbrev QXI (X:Cx)(E:XK)(tg e:Expr)(x:Ex):Prop:=QI X tg e (ti X.K X.mg E x)
def tgt (K:W.Frag):Tg->TG
 | .nm i=>z2S i
 | .tp is=>gTup K is.length (is.foldr (λi r=>zeh (z2S i) r) gNil)
theorem z5r {K:W.Frag}:∀(is:List Nat) vs a H Q,is.length=vs.length->Q ((is.zip vs).foldl (λa p=>a.set p.1 (some p.2)) a) H->(is.foldr (λi r=>zeh (z2S i) r) gNil) vs a H Q
 | [],[],_,_,_,_,q=>⟨rfl,q⟩
 | [],_::_,_,_,_,h,_=>by simp at h
 | _::_,[],_,_,_,h,_=>by simp at h
 | i::is,v::vs,a,H,Q,h,q=>⟨v,vs,rfl,z5r (K:=K) is vs _ H Q (by simpa using h) q⟩
theorem AbS.putAll {K:W.Frag}{mg:WmP}{q o H:Hp}:∀is l vs {G:Hp}{m:Pu.Env}{f:L2.St},is.length=l.length->RDs K mg G l vs->AbS K mg q o G m f H->
  AbS K mg q o G (z0l is l m) ((is.zip vs).foldl (λf p=>f.set p.1 (some p.2)) f) H
 | [],[],vs,G,m,f,_,h,b=>by exact b
 | [],_::_,_,_,_,_,h,_,_=>by simp at h
 | _::_,[],_,_,_,_,h,_,_=>by simp at h
 | i::is,d::l,vs,G,m,f,h,r,b=>by
  obtain⟨v,n,rfl,u,w⟩:=r;exact AbS.putAll is l n (by simpa using h) w (b.put b.nw Same.refl' b.g Same.refl' (λj t a x e s=>b.free a ⟨j,t,e,s⟩) u)
def zfO {K:W.Frag}{mg:WmP}{t r G H:Hp}{x:Pu.Env}{q:L2.St}{o:Tg}{d:D}{v:V}{u:Pu.Env->Prop}{N:L2.St->Hp->Prop}(b:AbS K mg t r G x q H)(rd:RD K mg G d v)(f:o.put d x u)(w:∀h l,u h->AbS K mg t r G h l H->N l H):tgt K o v q H N:=by
 cases o with
 | nm i=>exact w _ _ f (b.put b.nw Same.refl' b.g Same.refl' (λj y a C e s=>b.free a ⟨j,y,e,s⟩) rd)
 | tp is=>
  cases d with
  | tup z=>
   obtain⟨n,f⟩:=f;obtain⟨a,p,rfl,A,m⟩:=rd;exact⟨a,p,rfl,z0H b.g A,by rw[m.len,n],z5r (K:=K) is p q H N (by rw[m.len,n]) (w _ _ f (b.putAll is z p n m))⟩
  | _=>exact f.elim
def AbS.over {K:W.Frag}{mg:WmP}{n m G h H j:Hp}{t:Pu.Env}{x:L2.St}(b:AbS K mg n m G t x H)(f:Gr G H h)(A:Same h j)(s:Same H j):AbS K mg n m h t x j where
 len:=b.len
 s0:=z02 b.s0 s
 g0:=z02 b.g0 f.1
 g:=A
 nw:=b.nw2 f
 sh:=λi d e=>by
  obtain⟨v,l,p⟩:=b.sh i d e;exact⟨v,l,p.same f.1⟩
 ow:=λi d e=>by
  obtain⟨a,l,p,y,r⟩:=b.ow i d e;refine⟨a,l,?_,y,r.same f.1 (s a)⟩
  cases z:h a with
  | none=>rfl
  | some o=>
   obtain⟨u,C⟩:=r.some
   rcases f.2 a o z with ⟨w,q⟩ | q
   .grind
   grind
 ne:=b.ne
def z5t {K:W.Frag}{mg:WmP}{h o G H:Hp}{R:Pu.Env}{f:L2.St}{l:List D}{J:It}{F:Tg}{A:Pu.Env->Prop}{r:DK}{s:XP}{p:Ends}(ab:AbS K mg h o G R f H)(hw:Walk K mg G l J)(hr:forL F t A r s l R)
  (hn:Kn K mg h o G A p.nx) (hR:Kr K mg h o r p.rt) (hx:Kx mg h s E):
  ∃W:Nat->Nat->L2.St->Hp->Prop,(∃m,W 0 m f H)/\∀i m f H,W i m f H->
   (J.stop i H/\p.nx f H)\/(J.go i H/\∃N,(∀a b,N a b->∃m',m'<m/\W (i+1) m' a b)/\∀x b,J.yld i H x b->tgt K F x f b λX I=>ts K mg E t { p with nx:=N,ct:=N,bk:=p.nx } X I):=by
 refine⟨λi m f H=>Aa3 (m=l.length - i) (i<=l.length) (∃q d,AbS K mg h o q d f H/\Same G q/\forL F t A r s (l.drop i) d),⟨l.length,by simp,vG _,G,R,ab,Same.refl',by simpa using hr⟩,?_⟩;rintro i m U Y ⟨rfl,hi,q,d,j,Q,C⟩;obtain⟨w1,w2⟩:=hw i q Y Q j.g
 by_cases n:i<l.length
 .have e:l[i]? = some l[i]:=by simp[n]
  obtain⟨go,yl⟩:=w1 _ e;rw[u8 n] at C;refine .inr ⟨go,λa b=>∃z u,AbS K mg h o z u a b/\Same G z/\forL F t A r s _ u,λa b w=>⟨l.length - (i+1),by omega,rfl,n,w⟩,λv I y =>?_⟩;obtain⟨s2,z,Z,k2,rd⟩:=yl v I y;have M:=j.over Z k2 s2;refine zfO M rd C λT a0 hb O =>?_;exact⟨h,o,z,T,_,r,s,O,hb,λS a b G' w L g'=>⟨G',S,L,z02 Q (z02 Z.1 g'),w⟩,hR,hx⟩
 .have e:i=l.length:=by omega
  subst e;rw[List.drop_length] at C;exact .inl ⟨w2 (wt _),hn d U Y q C j Q⟩
def ziv (F:PassesOwn (model X.prog X.w) X.A X.env X.xe)(s:X.calm=true)(y:QXI X E tg iter x)(u:QG X tg (tgt X.K g))(r:QZs X E body t)(L:autoParam (fI iter X) jC1):
  QZ X E (.For tg iter body [] pos) (.for_ js g x t):=QS.imp (zf3 F s y u r L) <| by
 rintro D W H ⟨Q,N,G,U,S,T,j,b,I,C,p,f⟩;obtain⟨i,a,n⟩:=b.dem js;refine⟨i,vis _,_,j,a.g,a.vis,I,λd q=>(z9j q).imp λ_ z=>z.1,λd O R q e o g3 l J m M =>?_,f.same b.s0⟩;have h  := q;rw[m] at h;exact z5t (a.over e o g3) M h (C.same (z02 n e.1)) p f
def z3i {K:W.Frag}{mg:WmP}{G:Hp}{b:Int}{n:Nat}:Walk K mg G ((List.range n).map λ(k:Nat)=>D.int (b+k)) (Itr b n):=λi f H m j=>by
 refine⟨λd e =>?_,λa=>(show n<=i by simpa using a)⟩;obtain⟨h,g⟩:=wq.mp e;have a  := by simpa using h
 refine⟨a,λv l y =>?_⟩;obtain⟨rfl,rfl⟩:=y;refine⟨Same.refl',f,Gr.refl,j,?_⟩;rw[<- g];simp[List.getElem_map,List.getElem_range];rw[RD]
def z4H:Fn:=⟨λa Q _=>onR a λl=>Q (.lst l),λa Q b X d m _ q=>z9i (λ_ q=>m _ q) q⟩
def z0B {K:W.Frag}{mg:WmP}{G:Hp}{i:Int}{v:V}(h:RD K mg G (.int i) v):v = .int i:=by exact h
def rds1 {K:W.Frag}{mg:WmP}{G:Hp}{d:D}{vs:List V}(h:RDs K mg G [d] vs):∃v,vs=[v]/\RD K mg G d v:=by
 obtain⟨x,r,rfl,a,b⟩:=h;subst b;exact⟨x,rfl,a⟩
def rds2 {K:W.Frag}{mg:WmP}{G:Hp}{d e:D}{vs:List V}(h:RDs K mg G [d,e] vs):∃v w,vs=[v,w]/\RD K mg G d v/\RD K mg G e w:=by
 obtain⟨x,r,rfl,a,b⟩:=h;obtain⟨y,rfl,f⟩:=rds1 b;exact⟨x,y,rfl,a,f⟩
def z9h {K:W.Frag}{mg:WmP}{G:Hp}{b:List D}{vs:List V}{a:List D->Prop}(rds:RDs K mg G b vs)(h:onR b a):
  (∃j,vs=[.int j] /\ -(2 ^ 62)<=j/\j<2 ^ 62/\a ((List.range j.toNat).map λ(k:Nat)=>D.int (0+k)))\/∃i j,vs=[.int i,.int j]/\(-(2 ^ 62)<=i/\i<2 ^ 62 /\ -(2 ^ 62)<=j/\j<2 ^ 62)/\a ((List.range (j - i).toNat).map λ(k:Nat)=>D.int (i+k)):=by
 unfold onR at h
 split at h
 .obtain⟨v,rfl,r1⟩:=rds1 rds;refine .inl ⟨_,by rw[z0B r1],h.1.1,h.1.2,?_⟩;simpa using h.2
 .obtain⟨v,w,rfl,r1,r2⟩:=rds2 rds;exact .inr ⟨_,_,by rw[z0B r1,z0B r2],⟨h.1.1.1,h.1.1.2,h.1.2.1,h.1.2.2⟩,h.2⟩
 .exact h.elim
def zcU {K:W.Frag}{mg:WmP}{es:List Ex}{p:L2.St}{H:Hp}{R:It->Hp->Prop}(h:ti K mg E (.op z4H es) p H R):txa K mg E es p H λvs H1=>(∃j,vs=[.int j] /\ -(2 ^ 62)<=j/\j<2 ^ 62/\R (Itr 0 j.toNat) H1)\/∃i j,vs=[.int i,.int j]/\(-(2 ^ 62)<=i/\i<2 ^ 62 /\ -(2 ^ 62)<=j/\j<2 ^ 62)/\R (Itr i (j - i).toNat) H1:=by
 obtain⟨G,x,Q0,g,u,r,t,_,o,w⟩:=h;refine⟨G,x,λa=>z4H.run a Q0 g,g,u,r,t,λa vs f H1 q m n g3 rds =>?_,w⟩
 rcases z9h rds (show onR a (λl=>Q0 _) from q) with ⟨j,e,b,s,d⟩ | ⟨i,j,e,b,d⟩
 .exact .inl ⟨j,e,b,s,o _ f H1 d m n g3 _ _ rfl z3i⟩
 .exact .inr ⟨i,j,e,b,o _ f H1 d m n g3 _ _ rfl z3i⟩
def zaH {K:W.Frag}{mg:WmP}{es:List Ex}{n:Nat}{g:L2.St}{H:Hp}{Q Q':List V->Hp->Prop}(r:es.length=n)(m:∀vs a,vs.length=n->Q vs a->Q' vs a)(h:txa K mg E es g H Q):txa K mg E es g H Q':=by
 obtain⟨G,f,Q0,X0,t,j,s,p,u⟩:=h;have len:∀es Q,runs es f Q X0->runs es f (λb=>b.length=es.length/\Q b) X0:=by
  intro es
  induction es with
  | nil=>intro Q h;exact⟨rfl,h⟩
  | cons e es w=>
   intro Q h;exact e.mono f _ _ X0 X0 (λd q=>z2C es f _ _ X0 X0 (λb q=>⟨by simp[q.1],q.2⟩) (λ_ z=>z) (w _ q)) (λ_ z=>z) h
 exact⟨G,f,_,X0,t,j,len es Q0 s,λb vs i a q l o g3 rds=>m vs a (by rw[rds.len,q.1,r]) (p b vs i a q.2 l o g3 rds),u⟩
def za5 {p:Pos}(d:Gl X "range")(f:X.mg "range"=none)(b:QXA X E [a] [x])(g:autoParam (starEach [a] X.env=[(false,eval a X.env)]) jA1):QXI X E tg (.Call (.Name "range" p) [a] [] pos) (.op z4H [x]):=QI.imp (z7j d f b g) λn H R h=>
 zaH rfl (λvs l m q=>by
  rcases q with q | ⟨i,j,e,_⟩
  .exact q
  simp_all) (zcU h)
def zg6 {g:Tg}{es:List Ex}{y:TI}(N:PassesOwn (model X.prog X.w) X.A X.env X.xe)(L:X.calm=true)(M:QG X tg (tgt X.K g))(J:QZs X E body t)
  (m:∀d H R,(txa X.K X.mg E es d H λvs f=>(∃j,vs=[.int j] /\ -(2 ^ 62)<=j/\j<2 ^ 62/\R (Itr 0 j.toNat) f)\/∃i j,vs=[.int i,.int j]/\(-(2 ^ 62)<=i/\i<2 ^ 62 /\ -(2 ^ 62)<=j/\j<2 ^ 62)/\R (Itr i (j - i).toNat) f)->y d H R) (l:QI X tg iter y)
  (Q:autoParam (fI iter X) jC1):
  QZ X E (.For tg iter body [] pos) (.forr es g t):=QS.imp (zf3 N L l M J Q) <| by
 rintro T d H ⟨Y,U,G,S,Z,R0,z,b,O,s,r,n⟩;refine m d H _ ⟨plus G H _,S,λp=>onR p _,z,z37 b.g,b.abe,O,λp vs W f q C F g3 rds =>?_,n.same b.s0⟩;obtain⟨a,u⟩:=b.back C F g3
 rcases z9h rds q with ⟨j,e,h,I,o⟩ | ⟨i,j,e,h,o⟩
 .exact .inl ⟨j,e,h,I,z5t a z3i o (s.same u) r n⟩
 .exact .inr ⟨i,j,e,h,z5t a z3i o (s.same u) r n⟩
def zdl {g:Tg}{p b:Pos}(s:PassesOwn (model X.prog X.w) X.A X.env X.xe)(n:X.calm=true)(d:Gl X "range")(r:X.mg "range"=none)(l:QXA X E [a] [x])(o:QG X tg (tgt X.K g))(m:QZs X E body t)(f:autoParam (starEach [a] X.env=[(false,eval a X.env)]) jA1)
  (u:autoParam (∀x,foldedSetIterable (.Call (.Name "range" p) [a] [] b) X.env x=pure x) jC1):QZ X E (.For tg (.Call (.Name "range" p) [a] [] b) body [] pos) (.forr [x] g t):=
 zg6 s n o m (λC H R h=>zaH rfl (λvs y z q=>by
  rcases q with q | ⟨i,j,e,_⟩
  .exact q
  simp_all) h) (z7j d r l f) u
def iAny (K:W.Frag)(tl:TE):TI:=λe H R=>tl e H λx b=>(∃a,x = .ref a/\(∃d,SqL K b a d)/\R (Itl K a) b)\/(∃a,x = .ref a/\(∃d,SqT K b a d)/\R (Itt K a) b)\/∃y,x = .str y/\R (Its y) b
def ziQ {tl:TE}(G:QE X l tl):QI X tg l (iAny X.K tl):=by
 constructor
 intro g s S H R I h;refine thn (G.p g s S H _ I h) λv d O =>?_;obtain⟨x,j,f,r1,L⟩:=O;have n:∀b∈[d.heap.objs.size],FpOk X g j b:=λb F=>by
  have e:b=d.heap.objs.size:=by simpa using F
  subst e;exact f.fpOk (wt _) (f.hok.fresh (wt _))
 rcases L with ⟨a,e,⟨N,u⟩,q⟩ | ⟨a,e,⟨N,u⟩,q⟩ | ⟨y,rfl,q⟩
 .subst e
  cases r1
  obtain⟨m,M,p,J⟩:=f.list u;refine wpAny_pyIter_list p.isList ?_;exact⟨d.heap.objs.size,[d.heap.objs.size],_,_,j,rfl,f.kept (t':=d.toks) λb o e=>wf _ e,zaJ a _,⟨_,wp _ rfl,rfl,rfl⟩,n,q⟩
 .subst e
  cases r1
  obtain⟨m,M,p,J⟩:=f.tuple u;refine u4 (show d.heap.IsTuple a m.toArray from p) ?_;exact⟨d.heap.objs.size,[d.heap.objs.size],_,_,j,rfl,f.kept (t':=d.toks) λb o e=>wf _ e,z9M a _,⟨_,wp _ rfl,rfl,rfl⟩,n,q⟩
 .obtain⟨t,rfl⟩:=r1
  cases z:y.cps.all (· < 128)
  .exact wpAny_pyIter_wide z ⟨d.heap.objs.size,[d.heap.objs.size],_,_,j,rfl,f.kept (t':=d.toks) λb o e=>wf _ e,z8Z y t _ (by decide) (λC r=>Walks.strWide r _ y t) (λA i s Q E w h=>wpAny_pyIter_striter_wide w h),⟨vG _,_,wp _ rfl,rfl,rfl⟩,n,q⟩
  .exact wpAny_pyIter_ascii z ⟨d.heap.objs.size,[d.heap.objs.size],_,_,j,rfl,f.kept (t':=d.toks) λb o e=>wf _ e,z8Z y t _ (by decide) (λC r=>Walks.strAscii r _ y t) (λA i s Q E w h=>wpAny_pyIter_striter_ascii w h),⟨vG _,_,wp _ rfl,rfl,rfl⟩,n,q⟩
def zaF {K:W.Frag}{mg:WmP}{G:Hp}{a:Addr}{xs:List V}{l:List D}(h:SqL K G a xs)(r:RDs K mg G l xs):Walk K mg G l (Itl K a):=λi m H g j=>by
 have b:=z1o (z02 g j) h;refine⟨λd e =>?_,λn=>⟨xs,b,by rw[r.len];exact n⟩⟩;obtain⟨v,f,o⟩:=r.get e;refine⟨⟨xs,v,b,f⟩,λq p y =>?_⟩;obtain⟨rfl,y⟩:=y;have:=y xs b;rw[f] at this
 cases this
 exact⟨Same.refl',m,Gr.refl,j,o.same g⟩
def zcL {K:W.Frag}{mg:WmP}{G:Hp}{a:Addr}{xs:List V}{l:List D}(h:SqT K G a xs)(r:RDs K mg G l xs):Walk K mg G l (Itt K a):=λi m H g j=>by
 have b:=z0H (z02 g j) h;refine⟨λd e =>?_,λn=>⟨xs,b,by rw[r.len];exact n⟩⟩;obtain⟨v,f,o⟩:=r.get e;refine⟨⟨xs,v,b,f⟩,λq p y =>?_⟩;obtain⟨rfl,y⟩:=y;have:=y xs b;rw[f] at this
 cases this
 exact⟨Same.refl',m,Gr.refl,j,o.same g⟩
def zcM {K:W.Frag}{mg:WmP}{G:Hp}{y:Str}:Walk K mg G (y.cps.toList.map λc =>.str ⟨#[c]⟩) (Its y):=λi b H m g=>by
 refine⟨λd e =>?_,λa=>(show y.cps.size<=i by simpa using a)⟩;rw[wK] at e
 cases q:y.cps.toList[i]? with
 | none=>simp_all
 | some c=>
  rw[q] at e
  cases e
  have a  := by
   have:=(wq.mp q).1;omega
  refine⟨a,λv j h =>?_⟩;obtain⟨rfl,f,l,rfl⟩:=h;have:f=c:=by
   simp_all
  subst this;exact⟨Same.refl',b,Gr.refl,g,by rw[RD]⟩
def qi_x (h:QX X E iter x):QXI X E tg iter x:=QI.imp (ziQ h) <| by
 rintro A H R ⟨G,z,Q0,p,t,r,s,w,n,u⟩;refine⟨G,z,Q0,p,t,r,s,λd v g i q j b g3 rd =>?_,u⟩
 cases d with
 | lst l=>
  obtain⟨a,o,rfl,f,m⟩:=rd;exact .inl ⟨a,rfl,⟨o,z1o b f⟩,n _ g i q j b g3 l _ rfl (zaF f m)⟩
 | tup l=>
  obtain⟨a,o,rfl,f,m⟩:=rd;exact .inr (.inl ⟨a,rfl,⟨o,z0H b f⟩,n _ g i q j b g3 l _ rfl (zcL f m)⟩)
 | str y=>
  subst rd;exact .inr (.inr ⟨y,rfl,n _ g i q j b g3 _ _ rfl zcM⟩)
 | _=>
  obtain⟨l,e⟩:=w _ q
  cases e
end
section
variable {K:W.Frag}{mg:WmP}{H0 G0 G G1 H H1:Hp}{ρ:Pu.Env}{σ:L2.St}{i:Nat}
set_option tactic.hygienic true in
def z38 {a:List D->Prop}(h:ownL ρ i a):∃l,ρ[i]? = some (B.o (.lst l))/\a l:=by
 unfold ownL at h
 split at h
 .rename_i l e;exact⟨l,e,h⟩
 .exact h.elim
def zdP:(λa=>∃(j:Nat) (d:D),True/\ρ[j]? = some (B.o d)/\σ[j]? = some (some (V.ref a)))=z3g ρ σ:=by
 funext a
 exact propext ⟨λ⟨j,d,_,h⟩=>⟨j,d,h⟩,λ⟨j,d,h⟩=>⟨j,d,trivial,h⟩⟩
def z3n {v:V}(h:AbS K mg H0 G0 G ρ σ H)(a:Same G1 H1)(g3:Same H H1)(b:Safe d ρ)(rd:RD K mg G1 d v):RD K mg (minus G1 (z3g ρ σ)) d v:=by
 have:=z8k h a g3 b rd;rw[zdP] at this;exact this
def zd2 (h:AbS K mg H0 G0 G ρ σ H)(b:Same G1 H1)(g3:Same H H1):∀{xs:List V},(∀x∈l,Safe x ρ)->RDs K mg G1 l xs->RDs K mg (minus G1 (z3g ρ σ)) l xs:=by
 induction l with
 | nil=>intro xs _ h;exact h
 | cons y l j=>
  intro xs a g;obtain⟨v,r,d,e,f⟩:=g;exact⟨v,r,d,z3n h b g3 (a y wv) e,j (λz i=>a z (wn _ i)) f⟩
def AbS.wrB (b:AbS K mg H0 G0 G ρ σ H)(d:Gr (plus G H (z3g ρ σ)) H G1)(h:Same G1 H1)(g3:Same H H1)(m:ρ[i]? = some (B.o (.lst l)))(p:σ[i]? = some (some (V.ref a)))(n:RDs K mg (minus G1 (z3g ρ σ)) l' ys):
  AbS K mg H0 G0 (minus G1 (z3g ρ σ)) (ρ.set i (.o (.lst l'))) σ (upd H1 a (.lst ys))/\Same G (minus G1 (z3g ρ σ)):=by
 have f  := z2O (z02 (z2c b.free) d.1) b.free;exact⟨b.wr (λa o e=>b.nw1 d a o (z2n a o e)) f (z02 z2n h) g3 (λj g a e s=>z4W ⟨j,g,e,s⟩) m p ⟨ys,z0c,n⟩,f⟩
end
section
variable {X:Cx}{E:XK}{st:Stmt}{t:Sm}{e o tg:Expr}{x y z:Ex}{pos cpos apos:Pos}{i j:Nat}
def zix (S:QE X o (tVar i))(Q:QXA X E [e] [x])
  (T:autoParam (swapsWith (.Call (.Attribute o "append" apos) [e] [] cpos) none pos.line X.env=pure false) jA1)
  (h:autoParam (aB o "append" X) jA1)
  (m:autoParam (aG cpos [e] X) jA1)
  (j:autoParam (aL apos cpos) jA1) (u:autoParam (sE e [] X) jA1) (b:autoParam (bT cpos [] X) jA1):
  QZ X E (.Expr (.Call (.Attribute o "append" apos) [e] [] cpos) pos) (.app i x):=
 QS.imp (z8p (zgq uL PySem.F.slot_list_append PySem.F.type_list_append z5P S Q h m j u b) T) <| by
  rintro De Z H ⟨H0,G0,G,p,M,R0,r,f,t,R,hR,U⟩;obtain⟨l,I,t⟩:=z38 t;obtain⟨a,K,ga,h0,L,J,n⟩:=f.ow i _ I;refine⟨.ref a,K,.inl ⟨rfl,L,SqL.of J⟩,?_⟩;refine⟨plus G H _,p,λy=>∃d,y=[d]/\l.length<sizeLine/\Safe d p/\M (p.set i (.o (.lst (l++[d])))),r,z37 f.g,f.abe,x.mono p _ _ r r (λd q=>⟨d,rfl,q⟩) (λ_ z=>z) t,?_,U.same f.s0⟩;rintro y vs G1 H1 ⟨d,rfl,w,Y,O⟩ A C g3 rds;obtain⟨v,rfl,rd⟩:=rds1 rds;refine⟨a,L,v,rfl,rfl,g3 _ _ J,by rw[n.len];exact w,?_⟩;have W  := z2O (z02 (z2c f.free) A.1) f.free;obtain⟨s,N⟩:=f.wrB A C g3 I K ((n.same W).app (RDs.cons (z3n f C g3 Y rd) RDs.nil));exact R _ Z _ _ O s N
def ziw (Q:QE X o (tVar i))(N:QF X E e x)
  (R:autoParam (swapsWith (.Call (.Attribute o "extend" apos) [e] [] cpos) none pos.line X.env=pure false) jA1)
  (j:autoParam (aB o "extend" X) jA1)
  (p:autoParam (aG cpos [e] X) jA1)
  (n:autoParam (aL apos cpos) jA1) (s:autoParam (sE e [] X) jA1) (f:autoParam (bT cpos [] X) jA1):
  QZ X E (.Expr (.Call (.Attribute o "extend" apos) [e] [] cpos) pos) (.ext i x):=by
 refine QS.imp (z8p (zgq uL PySem.F.slot_list_extend PySem.F.type_list_extend zbN Q (z3F N z60 s) j p n s f) R) λDe σ H z9 =>?_;obtain⟨H0,G0,G,ρ,N0,R0,L,h,y,O,hR,S⟩:=z9;obtain⟨l,C,y⟩:=z38 y;obtain⟨a,J,ga,h0,K,I,r⟩:=h.ow i _ C;refine⟨.ref a,J,.inl ⟨rfl,K,SqL.of I⟩,?_⟩;refine⟨plus G H _,ρ,_,L,z37 h.g,h.abe,y,λd b G1 H1 q z A g3 hb gb w =>?_,S.same h.s0⟩
 cases d with
 | lst m=>
  obtain⟨zs,T,t⟩:=w;obtain⟨W,Y,Z⟩:=q;refine⟨a,b,K,zs,rfl,rfl,g3 _ _ I,T,by rw[r.len,t.len];exact W,?_⟩;have U  := z2O (z02 (z2c h.free) z.1) h.free;obtain⟨u,M⟩:=h.wrB z A g3 C J ((r.same U).app (zd2 h A g3 Y t));exact O _ σ _ _ Z u M
 | _=>exact q.elim
def RDs.last {K:W.Frag}{mg:WmP}{G:Hp}{l:List D}{xs:List V}(h:RDs K mg G l xs):RDs K mg G l.dropLast xs.dropLast:=by
 rw[List.dropLast_eq_take,List.dropLast_eq_take,h.len];exact h.take _
set_option tactic.hygienic true in
def z7l {l:List D}{a:List D->D->Prop}(h:popL l a):∃d,l[l.length - 1]? = some d/\a l.dropLast d:=by
 unfold popL at h
 split at h
 .rename_i d e;exact⟨d,e,h⟩
 .exact h.elim
def zeJ {K:W.Frag}{mg:WmP}{m h G H:Hp}{d:Pu.Env}{f:L2.St}{l l':List D}{a:Addr}{ys:List V}(b:AbS K mg m h G d f H)(p:d[i]? = some (B.o (.lst l)))(r:f[i]? = some (some (V.ref a)))(q:RDs K mg G l' ys):AbS K mg m h G (d.set i (.o (.lst l'))) f (upd H a (.lst ys)):=
 b.wr b.nw Same.refl' b.g Same.refl' (λj n a e s=>b.free a ⟨j,n,e,s⟩) p r ⟨ys,z0c,q⟩
def zis (t:QE X o (tVar i))(u:autoParam (swapsWith (.Call (.Attribute o "pop" apos) [] [] cpos) none pos.line X.env=pure false) jA1)(b:autoParam (aB o "pop" X) jA1)(e:autoParam (aL apos cpos) jA1):
  QZ X E (.Expr (.Call (.Attribute o "pop" apos) [] [] cpos) pos) (.pop i):=
 QS.imp (z8p (zf4 uL PySem.F.slot_list_pop PySem.F.type_list_pop zfg t b e) u) <| by
  rintro y x H ⟨A,z,G,Q,C,I,J,h,g,s,M,N⟩;obtain⟨l,j,g⟩:=z38 g;obtain⟨d,r,q⟩:=z7l g;obtain⟨a,n,K,L,p,m,f⟩:=h.ow i _ j;refine⟨.ref a,n,.inl ⟨rfl,p,SqL.of m⟩,?_⟩;obtain⟨v,w,O⟩:=f.get r;exact⟨a,p,v,rfl,rfl,m,by rw[f.len];exact w,s _ x _ G q (zeJ h j n f.last) Same.refl'⟩
def zdj (I:QE X o (tVar i))(h:∀{w:TE},QE X (.Call (.Attribute o "pop" apos) [] [] cpos) w->QS X (.Assign [tg] (.Call (.Attribute o "pop" apos) [] [] cpos) pos) (tAsg w (z2S j)))(f:autoParam (aB o "pop" X) jA1)(m:autoParam (aL apos cpos) jA1):
  QZ X E (.Assign [tg] (.Call (.Attribute o "pop" apos) [] [] cpos) pos) (.popTo j i):=
 QS.imp (h (zf4 uL PySem.F.slot_list_pop PySem.F.type_list_pop zfg I f m)) <| by
  rintro L σ H ⟨N,M,G,Z,O,Q,R,q,p,C,U,Y⟩;obtain⟨l,r,p⟩:=z38 p;obtain⟨d,A,z⟩:=z7l p;obtain⟨a,u,S,T,x,t,n⟩:=q.ow i _ r;refine⟨.ref a,u,.inl ⟨rfl,x,SqL.of t⟩,?_⟩;obtain⟨v,J,K⟩:=n.get A;refine⟨a,x,v,rfl,rfl,t,by rw[n.len];exact J,?_⟩;have b:=zeJ q r u n.last;exact C _ _ _ G z (b.put b.nw Same.refl' b.g Same.refl' (λj y a W e s=>b.free a ⟨j,y,e,s⟩) K) Same.refl'
def z9r (h:isI d Kk):∃k,d = .int k/\Kk k:=by
 cases d with
 | int k=>exact⟨k,rfl,h⟩
 | _=>exact h.elim
def zdT {o:Option Nat}{a:Nat->Prop}(h:onN o a):∃k,o=some k/\a k:=by
 cases o with
 | none=>exact h.elim
 | some k=>exact⟨k,rfl,h⟩
def zir {k:Expr}(Z:QE X o (tVar i))(W:QX X E k y)(U:QX X E e x)(h:∀{L:TE}{g:TG},QE X e L->QG X (.Subscript o k p2) g->QS X (.Assign [.Subscript o k p2] e pos) (tAsg L g))
  (T:autoParam (∀v,assign (.Subscript o k p2) X.env v=(do
   let n <- holding [v] (eval o X.env)
   let t <- holding [v,n] (eval k X.env)
   standAt p2
   holding [v,n,t] (setItem n t v)
   release [v,n,t] [])) jC1):QZ X E (.Assign [.Subscript o k p2] e pos) (.put i y x):=
 QS.imp (h U ⟨zje Z.p W.p zd0 T⟩) <| by
  rintro De σ H ⟨H0,G0,G,M,N0,R0,w,b,s,Y,hR,C⟩;obtain⟨l,A,s⟩:=z38 s;obtain⟨a,K,ga,h0,xs,hw,m⟩:=b.ow i _ A;refine⟨plus G H _,M,_,w,z37 b.g,b.abe,s,λd v N H1 q z R g3 rd =>?_,C.same b.s0⟩;obtain⟨sf,q⟩:=q;refine⟨.ref a,K,?_⟩;refine⟨N,M,_,w,R,b.abe.same z.1,q,λkd kv G2 H2 u I J k3 rk =>?_,C.same (z02 b.s0 g3)⟩;obtain⟨kk,rfl,u⟩:=z9r u;obtain⟨F,O,S⟩:=zdT u;have j  := z.trans g3 I;have f  := z02 g3 k3;have lm  := z2O (z02 (z2c b.free) j.1) b.free;refine⟨a,xs,kk,F,rfl,z0B rk,f _ _ hw,by rw[m.len];exact O,?_⟩;obtain⟨r,Q⟩:=b.wrB j J f A K (RDs.set (z3n b J f sf (rd.same I.1)) F (m.same lm));exact Y _ σ _ _ S r Q
end
section
variable {P:Program}{w:World}{K:W.Frag}{mg:WmP}{base:Heap}{N:List Str}{qual:Str}{f:Addr}
def z6k {vs:List V}(w:Same G H)(r:RDs K mg G ds vs)(u:ds.length=np)(t:N.length=nn):AbS K mg H G G (ds.map B.s++List.replicate (nn - np) .n) (L2.z35 N vs) H:=by
 have q:∀(i:Nat) b,(ds.map B.s++List.replicate (nn - np) .n)[i]? = some b->(∃d,b = .s d/\ds[i]? = some d)\/b = .n:=λi b e=>by
  by_cases g:i<ds.length
  .rw[wN (by simpa using g),wK] at e;rw[wo g] at e ⊢
   cases e
   exact .inl ⟨_,rfl,rfl⟩
  .rw[wQ (by simpa using g)] at e;have:=wq.mp e;obtain⟨p,h⟩:=this;simp at h;exact .inr h.symm
 refine⟨?_,Same.refl',Same.refl',w,λa o e =>.inl ⟨o,e⟩,λi d e =>?_,λi d e =>?_,λi j d l a _ e =>?_⟩
 .unfold L2.z35;rw[wD,wD,wd,wd,uo,uo,r.len,u,t]
 .rcases q i _ e with ⟨l,f,m⟩ | f
  .cases f
   obtain⟨v,p,h⟩:=r.get m;refine⟨v,?_,h⟩;unfold L2.z35;have g:i<vs.length:=(wq.mp p).1;rw[wN (by simpa using g),wK,p]
   rfl
  .cases f
 .rcases q i _ e with ⟨l,f,m⟩ | f <;> cases f
 .rcases q i _ e with ⟨l,f,m⟩ | f <;> cases f
def fnN {st:Stmt}{ps:List Str}{k o n:Nat}(F:Fun K x qual st f fd)(S:z3h N ps (z07 st))(C:ps.length=o)(y:N.length=n)
  (z:∀d A a s H E,Room k (A.deeper (envOfC qual (z07 st) s.heap.objs.size f d))->QZs ((cxOf (CXe P w) P w K mg base N qual (z07 st) f d A a s H E).wish λ_ _=>False) E0 (z0N st) b):
  FnOk P w K mg base (CXe P w) (k+1) f fd ps (spP K mg (Fn.mkN o n b)):=by
 refine F.okN S (λvs H Q E ⟨G,u,Q0,t,m,rds,⟨j,l⟩,i,I⟩=>by rw[rds.len,j,C]) λd A a s H vs Q E e ⟨G,u,Q0,t,m,rds,⟨j,l⟩,i,I⟩=>⟨_,z d A _ s H E e,?_⟩
 refine⟨H,G,G,_,λ_=>Q0 _,Q0,λ_=>False,z6k m rds j y,l,λJ L r p q h _ =>?_,i,Kx.no⟩;exact i _ _ p r q ⟨h.g0,h.nw⟩ h.g h.s0 (by rw[RD])
end
def Tg.slots:Tg->List Nat
 | .nm i=>[i]
 | .tp is=>is
section
variable {K:W.Frag}{mg:WmP}{G G1 H H1:Hp}{ρ:Pu.Env}{σ:L2.St}
def AbE.put {i:Nat}{d:D}{v:V}(h:AbE K mg G ρ σ)(l:i < σ.length)(r:RD K mg G d v):AbE K mg G (ρ.set i (.s d)) (σ.set i (some v)):=λj e q=>by
 rw[Env.get_eq] at q
 by_cases a:j=i
 .subst a
  cases z:(ρ.set j (.s d))[j]? with
  | none=>simp_all
  | some b=>
   have m  := by
    have:=(wq.mp z).1;simpa using this
   rw[wR m] at q
   cases q
   exact⟨v,by rw[wR l],r⟩
 .rw[wF (vQ a), <- Env.get_eq] at q;obtain⟨w,f,g⟩:=h j e q;exact⟨w,by rw[wF (vQ a)];exact f,g⟩
def AbE.keep {i:Nat}{v:V}(h:AbE K mg G ρ σ)(f:ρ.get i=none):AbE K mg G ρ (σ.set i (some v)):=λj e q=>by
 have d:j≠i:=λz=>by grind
 obtain⟨w,a,b⟩:=h j e q;exact⟨w,by rw[wF (vQ d)];exact a,b⟩
theorem AbE.putAll:∀is b vs {e:Pu.Env}{a:L2.St},is.length=b.length->RDs K mg G b vs->(∀i∈is,i < a.length)->(∀i∈is,base.get i=none)->AbE K mg G e a->AbE K mg G base a->
  AbE K mg G (z0l is b e) ((is.zip vs).foldl (λa p=>a.set p.1 (some p.2)) a)/\AbE K mg G base ((is.zip vs).foldl (λa p=>a.set p.1 (some p.2)) a)/\((is.zip vs).foldl (λa p=>a.set p.1 (some p.2)) a).length=a.length
 | [],[],vs,e,a,_,h,_,_,f,g=>by exact⟨f,g,rfl⟩
 | [],_::_,_,_,_,h,_,_,_,_,_=>by simp at h
 | _::_,[],_,_,_,h,_,_,_,_,_=>by simp at h
 | i::is,d::b,vs,e,a,h,r,u,n,f,g=>by
  obtain⟨v,l,rfl,s,t⟩:=r;obtain⟨o,q,w⟩:=AbE.putAll is b l (by simpa using h) t (λj m=>by simp_all) (λj m=>n j (wn _ m)) (f.put (u i wv) s) (g.keep (n i wv));exact⟨o,q,by simp_all⟩
def zcV {v:V}(l:AbE K mg G ρ σ)(g:Same G H)(rd:RD K mg G d v)(p:∀i∈tg.slots,i < σ.length)(o:∀i∈tg.slots,ρ.get i=none)(h:tg.put d ρ N0)
  (q:∀j b,N0 j->AbE K mg G j b->AbE K mg G ρ b->b.length=σ.length->N b H):tgt K tg v σ H N:=by
 cases tg with
 | nm i=>
  have m:=p i (by simp[Tg.slots]);have f:=o i (by simp[Tg.slots]);exact q _ _ h (l.put m rd) (l.keep f) (by simp)
 | tp is=>
  cases d with
  | tup u=>
   obtain⟨e,h⟩:=h;obtain⟨a,n,rfl,m,f⟩:=rd;obtain⟨r,s,t⟩:=AbE.putAll is u n e f p o l l;exact⟨a,n,rfl,z0H g m,by rw[f.len,e],z5r (K:=K) is n σ H N (by rw[f.len,e]) (q _ _ h r s t)⟩
  | _=>exact h.elim
def zax (h:AbE K mg G ρ σ):AbE K mg G (z1a nt js ρ) (List.replicate nt none++js.map λj=>(σ[j]?).getD none):=λi d e=>by
 rw[Env.get_eq] at e;unfold z1a at e
 by_cases f:i<nt
 .rw[wN (by simpa using f),ji,if_pos f] at e
  cases e
 .rw[wQ (by simpa using f),uo,wK] at e;rw[wQ (by simpa using f),wK]
  cases q:js[i - nt]? with
  | none=>simp_all
  | some j=>
   rw[q] at e;have a:((ρ[j]?).getD .n).get=some d:=e;have g:ρ.get j=some d:=by
    rw[Env.get_eq]
    cases z:ρ[j]? with
    | none=>rw[z] at a;cases a
    | some b=>rw[z] at a;exact a
   obtain⟨v,l,m⟩:=h j d g
   simp_all
def z7Z (a:i<nt):(z1a nt js ρ).get i=none:=by
 rw[Env.get_eq];unfold z1a;rw[wN (by simpa using a),ji,if_pos a]
 rfl
def TcOk (K:W.Frag)(mg:WmP)(c:Option Ex)(a:TT):Prop:=match c with
 | none=>a=z56
 | some c=>a=tt K mg E0 c
def ze6 {c:Option Ex}{Q0:List D->Prop}(M:∀i∈tg.slots,i<nt)(ab:AbE K mg G ρ σ)(g:Same G H)(hw:Walk K mg G l J)(hsz:l.length<sizeLine)
  (hr:z4h (z4A tg c elt (z1a nt js ρ)) l Q0)
  (L:TcOk K mg c tc)
  (hk:∀a ys p z t,Q0 a->Gr G H z->Same z t->Same H t->RDs K mg z a ys->t p=none->Q (.ref p) (upd t p (.lst ys))):
  LcG J (tgt K tg) tc (tx K mg E0 elt) Q (List.replicate nt none++js.map λj=>(σ[j]?).getD none) H:=by
 refine⟨λi m ys S H'=>m=l.length - i/\i<=l.length/\ys.length<=i/\S.length=nt+js.length/\∃f a,Gr G H f/\Same f H'/\Same H H'/\RDs K mg f a ys/\AbE K mg f (z1a nt js ρ) S/\z4h (z4A tg c elt (z1a nt js ρ)) (l.drop i) λr=>Q0 (a++r),
  ⟨l.length,by simp,vG _,by simp,by simp,G,[],Gr.refl,g,Same.refl',RDs.nil,zax ab,by simpa using hr⟩,?_⟩
 rintro i m ys a2 H1 ⟨rfl,hi,a1,u,G1,a,T,g2,g3,rds,Z,U⟩;refine⟨by lia,?_⟩;obtain⟨w1,w2⟩:=hw i G1 H1 T.1 g2
 by_cases n:i<l.length
 .have e:l[i]? = some l[i]:=by simp[n]
  obtain⟨go,yl⟩:=w1 _ e;rw[u8 n] at U;have h:z4A tg c elt (z1a nt js ρ) l[i] (λo=>z4h (z4A tg c elt (z1a nt js ρ)) (l.drop (i+1)) λr=>Q0 (a++(o.toList++r))):=U;unfold z4A at h;refine .inr ⟨go,λv t y =>?_⟩;obtain⟨X,z,N,k2,rd⟩:=yl v t y;refine zcV (Z.same N.1) k2 rd (λj hj=>by rw[u];have:=M j hj;lia) (λj hj=>z7Z (M j hj)) h λw x hb E F I =>?_;have el:∀{A C:Hp},Gr z t A->Same A C->Same t C->(elt.run w (λd=>z4h (z4A tg c elt (z1a nt js ρ)) (l.drop (i+1)) λr=>Q0 (a++((some d).toList++r))) λ_=>False)->
    tx K mg E0 elt x C λy Y=>∃m',m'<l.length - i/\m'=l.length - (i+1)/\i+1<=l.length/\(ys++[y]).length<=i+1/\x.length=nt+js.length/\∃f R,Gr G H f/\Same f Y/\Same H Y/\RDs K mg f R (ys++[y])/\AbE K mg f (z1a nt js ρ) x/\z4h (z4A tg c elt (z1a nt js ρ)) (l.drop (i+1)) λr=>Q0 (R++r):=λ{A C} s W O he=>by
   refine⟨A,w,_,λ_=>False,W,E.same s.1,he,λd v' G4 Y q n1 n2 n3 a0 =>?_,Kx.no⟩;refine⟨l.length - (i+1),by lia,rfl,n,by simp;lia,by rw[I,u],G4,a++[d],T.trans g3 (N.trans X (s.trans O n1)),n2,z02 g3 (z02 X (z02 O n3)),((rds.same (z02 N.1 (z02 s.1 n1.1))).app (RDs.cons a0 RDs.nil)),F.same (z02 s.1 n1.1),?_⟩;refine z3w z4z _ _ _ (λr q =>?_) q;simpa using q
  cases c with
  | none=>
   have:tc=z56:=L;subst this;unfold z56;dsimp only;rw[if_pos rfl];exact el Gr.refl k2 Same.refl' hb
  | some c=>
   have:tc=tt K mg E0 c:=L;subst this;refine⟨z,w,_,λ_=>False,k2,E,hb,λd A C q s W O =>?_,Kx.no⟩;obtain⟨b,rfl,q1,q2⟩:=z90 q;refine⟨b,rfl,?_⟩
   cases b with
   | true=>exact iteT (el s W O (q1 rfl))
   | false=>
    refine iteF ⟨l.length - (i+1),by lia,rfl,n,by lia,by rw[I,u],A,a,T.trans g3 (N.trans X s),W,z02 g3 (z02 X O),rds.same (z02 N.1 s.1),F.same s.1,?_⟩;refine z3w z4z _ _ _ (λr q =>?_) (q2 rfl);simpa using q
 .have e:i=l.length:=by lia
  subst e;rw[List.drop_length] at U;refine .inl ⟨w2 (wt _),λp hp=>hk a ys p G1 H1 ?_ T g2 g3 rds hp⟩;have h:Q0 (a++[]):=U;simpa using h
def zaN {c:Option Ex}(e:∀i∈tg.slots,i<nt)(b:TcOk K mg c tc)(h:tf K mg E (.comp nt js tg src c elt) σ H Q):tLcG (ti K mg E src) (tgt K tg) tc (tx K mg E0 elt) nt js σ H Q:=by
 obtain⟨G,R,Q0,u,I,g,F,y,M⟩:=h;refine⟨G,R,_,u,I,g,F,λd q=>(z9j q).imp λ_ z=>z.1,λd S T q j x g3 l J w L =>?_,M⟩;have f  := q;rw[w] at f;refine ze6 e (g.same j.1) x L f.1 f.2 b λU O p r t C N n o rds a =>?_;have m:∀{A:Hp},Same A t->A p=none:=λs=>z0Z s a;refine y _ p r _ C (j.trans g3 N) (z02 n (z0j a _)) (z02 g3 (z02 o (z0j a _))) (m (z02 g3 o)) (m n) ⟨O,z0c,rds⟩
end
section
variable {X:Cx}{E:XK}{elt iter target:Expr}{ct:Option Expr}{pos spos py:Pos}{scope:Scope}{N':List Str}{nt:Nat}{js:List Nat}{tg:Tg}{src x:Ex}{c:Option Ex}{y:Str}{iy:Nat}
def CtOk (X:Cx)(a:Scope)(b:List Str)(ct:Option Expr)(c:Option Ex):Prop:=match ct,c with
 | none,none=>True
 | some e,some x=>∀C s H d,QXT (X.compG a b C s H d) E0 e x
 | _,_=>False
def CtQ (X:Cx)(a:Scope)(d:List Str)(ct:Option Expr)(b:TT):Prop:=match ct with
      | none=>b=z56
      | some c=>∀C s H e,QT (X.compG a d C s H e) c b
def z9F (h:CtOk X scope N' ct c):∃tc,CtQ X scope N' ct tc/\TcOk X.K X.mg c tc:=by
 cases ct with
 | none=>
  cases c with
  | none=>exact⟨z56,rfl,rfl⟩
  | some c=>exact h.elim
 | some e=>
  cases c with
  | none=>exact h.elim
  | some c=>exact⟨tt X.K _ E0 c,h,rfl⟩
def zbi (j:X.calm=true)(b:QXI X E target iter src)(n:scope.kind = .function)(e:z3I X N' nt js scope)(d:tg.slots.all (· < nt)=true)
  (m:∀C s H a,QG (X.compG scope N' C s H a) target (tgt X.K tg)) (p:CtOk X scope N' ct c)
  (l:∀C s H a,QX (X.compG scope N' C s H a) E0 elt x) (o:autoParam (fI iter X) jC1):QF X E (.ListComp elt [⟨target,iter,ct.toList,0⟩] scope pos) (.comp nt js tg src c x):=by
 obtain⟨q,f,g⟩:=z9F p;exact QE.imp (ziY j b n e m f l o) λr H Q h=>zaN (λi b=>ue (List.all_eq_true.mp d i b)) g h
def zbh (n:X.N.Nodup)(d:X.N[iy]? = some y)(e:X.env.scope.names.lookup y=some .local)(o:X.calm=true)(b:QXI X E target iter src)(r:scope.kind = .function)(j:z3I X N' nt js scope)(g:tg.slots.all (· < nt)=true)
  (q:∀C s H a,QG (X.compG scope N' C s H a) target (tgt X.K tg)) (u:CtOk X scope N' ct c)
  (p:∀C s H a,QX (X.compG scope N' C s H a) E0 elt x) (f:autoParam (swapsWith (.ListComp elt [⟨target,iter,ct.toList,0⟩] scope pos) (some (.Name y py)) spos.line X.env=pure true) jA1) (t:autoParam (fI iter X) jC1):
  QS X (.Assign [.Name y py] (.ListComp elt [⟨target,iter,ct.toList,0⟩] scope pos) spos) (tAsg (tf X.K X.mg E (.comp nt js tg src c x)) (z2S iy)):=by
 obtain⟨w,l,m⟩:=z9F u;exact QS.imp (ziO n d e o b r j q l p f t) λD z H h=>zaN (λi b=>ue (List.all_eq_true.mp g i b)) m h
def zcW {K:W.Frag}{mg:WmP}{a:L2.St}{H:Hp}{Q:VK}(h:tx K mg E x a H Q):tf K mg E x a H Q:=by
 obtain⟨G,j,Q0,b,g,d,f,e,i⟩:=h;exact⟨G,j,Q0,b,g,d,f,e.kf,i⟩
def QS.sh {st:Stmt}(h:QS X st (tAsg (tf X.K X.mg E x) (z2S iy))):QS X st (tAsg (tx X.K X.mg E x) (z2S iy)):=QS.imp h λD a H h=>zcW h
def ziS {a:Pos}(b:X.N.Nodup)(d:X.N[i]? = some z)(e:X.env.scope.names.lookup z=some .local):QG X (.Name z a) (tgt X.K (.nm i)):=ziT b d e
def pTup:Fn:=⟨λa Q _=>a.length<=sizeLine/\Q (.tup a),λa Q b X d m _ q=>⟨q.1,m _ q.2⟩⟩
def pLst:Fn:=⟨λa Q _=>a.length<=sizeLine/\Q (.lst a),λa Q b X d m _ q=>⟨q.1,m _ q.2⟩⟩
def ziy {m}(h:QXA X E es xs):QX X E (.Tuple es m pos) (.op pTup xs):=QE.imp (⟨zjf h.p⟩) <| by
 rintro t H Q ⟨G,n,Q0,d,j,e,i,g,l⟩;refine⟨G,n,_,d,j,e,i,λs vs o r q f a g3 rds=>⟨by rw[rds.len];exact q.1,λp b =>?_⟩,l⟩;refine(g.same f g3).new a b q.2 ?_;exact⟨p,vs,rfl,SqT.of z0c,rds.same (z0j (z0Z a b) _)⟩
def ziU (h:QXA X E es xs):QF X E (.List es pos) (.op pLst xs):=QE.imp (ziX h) <| by
 rintro s H Q ⟨G,n,Q0,e,l,f,j,i,m⟩;refine⟨G,n,_,e,l,f,j,λr vs d o q g b g3 rds=>⟨by rw[rds.len];exact q.1,λp a =>?_⟩,m⟩;exact i _ p d _ q.2 g (z02 b (z0j a _)) (z02 g3 (z0j a _)) (z0Z g3 a) (z0Z b a) ⟨vs,z0c,rds⟩
end
def fn2 (g:D->D->DK->Prop)(m:∀a b Q Q',(∀d,Q d->Q' d)->g a b Q->g a b Q'):Fn:=⟨λe Q _=>match e with
 | [a,b]=>g a b Q
 | _=>False,λe Q Q' X h f _ q=>by
 match e,q with
 | [a,b],q=>exact m a b Q Q' f q
 | [],q=>exact q.elim
 | [_],q=>exact q.elim
 | _::_::_::_,q=>exact q.elim⟩
def fn1 (g:D->DK->Prop)(m:∀a Q Q',(∀d,Q d->Q' d)->g a Q->g a Q'):Fn:=⟨λb Q _=>match b with
 | [a]=>g a Q
 | _=>False,λb Q Q' X f e _ q=>by
 match b,q with
 | [a],q=>exact m a Q Q' e q
 | [],q=>exact q.elim
 | _::_::_,q=>exact q.elim⟩
def z9g (m:∀d,Q d->Q' d)(h:onV o Q):onV o Q':=by
 cases o with
 | none=>exact h
 | some d=>exact m _ h
def z9f (h:onV o Q):∃d,o=some d/\Q d:=by
 cases o with
 | none=>exact h.elim
 | some d=>exact⟨d,rfl,h⟩
def gAdd (a b:D)(Q:DK):Prop:=match a,b with
 | .int i,.int j=>Q (.int (i+j))
 | .str x,.str y=>x.length+y.length<=sizeLine/\Q (.str (x++y))
 | .lst l,.lst m=>l.length+m.length<=sizeLine/\Q (.lst (l++m))
 | .tup l,.tup m=>l.length+m.length<=sizeLine/\Q (.tup (l++m))
 | _,_=>False
def zcf (a b:D)(Q Q':DK)(m:∀d,Q d->Q' d)(h:gAdd a b Q):gAdd a b Q':=by
 unfold gAdd at h ⊢
 split at h
 .exact m _ h
 .simp_all
 .simp_all
 .simp_all
 omega
def pAdd:Fn:=fn2 gAdd zcf
def gI (g:Int->Int->DK->Prop)(a b:D)(Q:DK):Prop:=match a,b with
 | .int i,.int j=>g i j Q
 | _,_=>False
def zhi (e:∀i j Q Q',(∀d,Q d->Q' d)->g i j Q->g i j Q')(a b:D)(Q Q':DK)(m:∀d,Q d->Q' d)(h:gI g a b Q):gI g a b Q':=by
 unfold gI at h ⊢
 split at h
 .exact e _ _ _ _ m h
 omega
def fnI (g:Int->Int->DK->Prop)(a:∀i j Q Q',(∀d,Q d->Q' d)->g i j Q->g i j Q'):Fn:=fn2 (gI g) (zhi a)
def pSub:Fn:=fnI (λi j Q=>Q (.int (i - j))) λ_ _ _ _ m h=>m _ h
def z1G:Fn:=fnI (λi j Q=>zkS i j/\Q (.int (i.fdiv j))) λ_ _ _ _ m h=>⟨h.1,m _ h.2⟩
def pMod:Fn:=fnI (λi j Q=>j≠0/\Q (.int (i.fmod j))) λ_ _ _ _ m h=>⟨h.1,m _ h.2⟩
def pPow:Fn:=fnI (λi j Q=>CPow i j/\Q (.int (i ^ j.toNat))) λ_ _ _ _ m h=>⟨h.1,m _ h.2⟩
def gNeg (a:D)(Q:DK):Prop:=match a with
 | .int i=>Q (.int (-i))
 | _=>False
def pNeg:Fn:=fn1 gNeg λa Q b m h=>by
 unfold gNeg at h ⊢
 split at h
 .exact m _ h
 .exact h.elim
section
variable {X:Cx}{K:W.Frag}{mg:WmP}
def r2 (K:W.Frag)(mg:WmP)(F:Fn):R2:=λe f H Q=>∃G a b Q0 d,Same G H/\RD K mg G a e/\RD K mg G b f/\F.run [a,b] Q0 d/\Kt K mg G H Q0 Q
def r1 (K:W.Frag)(mg:WmP)(F:Fn):V->Hp->VK->Prop:=λv H Q=>∃G d Q0 a,Same G H/\RD K mg G d v/\F.run [d] Q0 a/\Kt K mg G H Q0 Q
def rN (K:W.Frag)(mg:WmP)(F:Fn):List V->Hp->VK->Prop:=λvs H Q=>∃G a Q0 b,Same G H/\RDs K mg G a vs/\F.run a Q0 b/\Kt K mg G H Q0 Q
def lk2:Lk2 K mg F (r2 K mg F):=λG H g h i j Q0 f Q a b c d e=>⟨G,g,h,Q0,f,a,b,c,d,e⟩
def lk1:Lk1 K mg F (r1 K mg F):=λG H d v Q0 e Q a b c d=>⟨G,_,Q0,e,a,b,c,d⟩
def lkN:LkN K mg F (rN K mg F):=λG H d v Q0 e Q a b c d=>⟨G,_,Q0,e,a,b,c,d⟩
def zey {E:WvP}{s:Shared}{t b:Addr}{ws:List Value}{Q:WvP}(x:IsTup s.heap t ([]).toArray)(q:IsTup s.heap b ws.toArray)(h:Q (.ref b) s):wpAny (model prog w) A (binaryOp .Add (.ref t) (.ref b)) Q E s:=by
 obtain⟨⟨o,p,l,sl⟩,m,r,n,u⟩:=id x;obtain⟨⟨j,e,d,i⟩,a,f,y,g⟩:=id q;subst r u f g;exact concat_meets ⟨_,m,rfl⟩ ⟨_,a,rfl⟩ noFill_tuple_add seq_tuple_add PySem.F.slot_tuple_add PySem.F.entry_tuple_add (PySem.F.args_tuple_add_2 _ _)
   (tuple_addW0 t b _ _ n y p e sl i (by simp)) ⟨m,a,h⟩
def zdS:OpR X (binaryOp .Add) (λx y H Q=>∃a b ys,x = .ref a/\y = .ref b/\SqT X.K H a []/\SqT X.K H b ys/\Q (.ref b) H):=by
 intro e s o H x y v u Q I m n h;obtain⟨a,b,ys,rfl,rfl,f,g,q⟩:=h
 cases m
 cases n
 obtain⟨i,r1,j,_⟩:=I.tuple f;obtain⟨d,r2,l,_⟩:=I.tuple g
 cases r1
 exact zey j l ⟨.ref b,H,I,rfl,q⟩
def zlf (K:W.Frag):R2:=λx y H Q=>∃l b a d,x = .ref l/\y = .ref b/\SqL K H l a/\SqL K H b d/\a.length+d.length<=sizeLine/\∀p,H p=none->Q (.ref p) (upd H p (.lst (a++d)))
def zgQ:OpR X (binaryOp .Add) (zlf X.K):=by
 intro w s σ H x y v u Q I N O h;obtain⟨l,b,U,Z,rfl,rfl,G,E,R,q⟩:=h
 cases N
 cases O
 obtain⟨d,r,⟨⟨z,A,p,sl⟩,n,e,J,_,L⟩,W⟩:=I.list G;obtain⟨a,r2,⟨⟨o,g,f,m⟩,M,t,i,_,j⟩,Y⟩:=I.list E;subst J L i j;have S:=r.length;have T:=r2.length;have C:d.toArray++a.toArray=(d++a).toArray:=by simp
 refine concat_meets ⟨_,e,rfl⟩ ⟨_,t,rfl⟩ noFill_list_add seq_list_add PySem.F.slot_list_add PySem.F.entry_list_add (PySem.F.args_list_add_2 _ _) (list_addW l b _ _ n M A g sl m (by grind)) ⟨e,t,?_⟩;rw[C];exact⟨.ref _,_,I.lnew (r.append r2) (by simp_all),rfl,q _ I.fresh⟩
def z1B {G:Hp}{l:List D}{v:V}(h:RD K mg G (.tup l) v):∃a xs,v = .ref a/\SqT K G a xs/\RDs K mg G l xs:=by exact h
def z1Y {G:Hp}{l:List D}{v:V}(h:RD K mg G (.lst l) v):∃a xs,v = .ref a/\SqL K G a xs/\RDs K mg G l xs:=by exact h
def z2Y {v:V}(h:RD K mg G (.str x) v):v = .str x:=by exact h
def z7h {v:V}(h:RD K mg G (.bl x) v):v = .bl x:=by exact h
def z5Z {v:V}(h:RD K mg G .non v):v = .non:=by exact h
def RD.newT (r:RDs K mg G l xs)(g:Same G H)(a:H p=none):RD K mg (upd G p (.tup xs)) (.tup l) (.ref p):=by
 exact⟨p,xs,rfl,SqT.of z0c,r.same (z0j (z0Z g a) _)⟩
def RD.newL (r:RDs K mg G l xs)(g:Same G H)(a:H p=none):RD K mg (upd G p (.lst xs)) (.lst l) (.ref p):=by
 exact⟨p,xs,rfl,SqL.of z0c,r.same (z0j (z0Z g a) _)⟩
def RD.ofT (h:SqT K G a xs)(r:RDs K mg G l xs):RD K mg G (.tup l) (.ref a):=by exact⟨a,xs,rfl,h,r⟩
def RD.ofL (h:SqL K G a xs)(r:RDs K mg G l xs):RD K mg G (.lst l) (.ref a):=by exact⟨a,xs,rfl,h,r⟩
def RD.int' {G:Hp}{i:Int}:RD K mg G (.int i) (.int i):=by rw[RD]
def RD.bl' {G:Hp}{i:Bool}:RD K mg G (.bl i) (.bl i):=by rw[RD]
def RD.str':RD K mg G (.str i) (.str i):=by rw[RD]
def RDs.ne_nil (r:RDs K mg G l xs):xs=[]↔l=[]:=by
 have:=r.len
 constructor
 .rintro rfl;exact uM.mp this.symm
 .rintro rfl;simp_all
def zjK:OpR X (binaryOp .Add) (r2 X.K X.mg pAdd):=by
 rintro f s n H x y v u Q I j l ⟨G,A,C,Q0,F,g,o,q,E,h⟩;have d:gAdd A C Q0:=E;unfold gAdd at d
 split at d
 .exact zjD f s n H x y v u Q I j l ⟨_,_,z0B o,z0B q,h.now g d RD.int'⟩
 .exact zab f s n H x y v u Q I j l ⟨_,_,z2Y o,z2Y q,d.1,h.now g d.2 RD.str'⟩
 .obtain⟨a,t,rfl,r,r1⟩:=z1Y o;obtain⟨b,w,rfl,m,r2⟩:=z1Y q;exact zgQ f s n H _ _ v u Q I j l ⟨a,b,t,w,rfl,rfl,z1o g r,z1o g m,by rw[r1.len,r2.len];exact d.1,λp i=>h.new g i d.2 (RD.newL (r1.app r2) g i)⟩
 .obtain⟨a,t,rfl,r,r1⟩:=z1B o;obtain⟨b,w,rfl,m,r2⟩:=z1B q
  by_cases z:t=[]
  .subst z;have e:=r1.ne_nil.mp rfl;subst e;exact zdS f s n H _ _ v u Q I j l ⟨a,b,w,rfl,rfl,z0H g r,z0H g m,h.now g d.2 (RD.ofT m r2)⟩
  .refine zgP f s n H _ _ v u Q I j l ⟨a,b,t,w,rfl,rfl,z0H g r,z0H g m,z,by rw[r1.len,r2.len];exact d.1,λe =>?_,λe p i=>h.new g i d.2 (RD.newT (r1.app r2) g i)⟩;have e:=r2.ne_nil.mp e;refine h.now g d.2 ?_
   simp_all
 .exact d.elim
def z6Q (h:gI g a b Q):∃i j,a = .int i/\b = .int j/\g i j Q:=by
 unfold gI at h
 split at h
 .exact⟨_,_,rfl,rfl,h⟩
 .exact h.elim
def zdY {f:Value->Value->Sem Value}{C:Int->Int->Prop}{a:Int->Int->Int}{m}(h:OpR X f (rI C λi j =>.int (a i j))):OpR X f (r2 X.K X.mg (fnI (λi j Q=>C i j/\Q (.int (a i j))) m)):=h.imp <| by
 rintro x y H Q ⟨G,b,d,Q0,p,g,e,l,o,n⟩;obtain⟨i,j,rfl,rfl,c,q⟩:=z6Q (show gI (λi j Q=>C i j/\Q _) b d Q0 from o);exact⟨i,j,z0B e,z0B l,c,n.now g q RD.int'⟩
def zjG:OpR X (binaryOp .Sub) (r2 X.K X.mg pSub):=zjw.imp <| by
 rintro x y H Q ⟨G,a,b,Q0,l,g,d,e,h,f⟩;obtain⟨i,j,rfl,rfl,q⟩:=z6Q (show gI (λi j Q=>Q _) a b Q0 from h);exact⟨i,j,z0B d,z0B e,f.now g q RD.int'⟩
def zgS:OpR X (binaryOp .FloorDiv) (r2 X.K X.mg z1G):=zdY zdR
def zjJ:OpR X (binaryOp .Mod) (r2 X.K X.mg pMod):=zdY zgO
def zjH:OpR X (binaryOp .Pow) (r2 X.K X.mg pPow):=zdY zjx
def zjv:UnR X (unaryOp .USub) (r1 X.K X.mg pNeg):=by
 rintro b s j H x v Q I i ⟨G,d,Q0,l,g,e,h,f⟩;have a:gNeg d Q0:=h;unfold gNeg at a
 split at a
 .exact zhI _ s j H x v Q I i ⟨_,z0B e,f.now g a RD.int'⟩
 .exact a.elim
def z0d:Fn:=fnI (λi j Q=>zhD i j/\Q (.int (i*j))) λ_ _ _ _ m h=>⟨h.1,m _ h.2⟩
def zjI:OpR X (binaryOp .Mult) (r2 X.K X.mg z0d):=zdY zgN
end
end Pu
namespace HT
open PySem PyProof.Rows
section
open PySem.SeqAt
open PySem.AutoSeq1 (wpAny_loadPart')
open PySem.MeetsSeq PySem.MeetsSeq2 PySem.MeetsSeq3
def zde (A:Around)(s:Shared)(a:Int)(t:Tok)(c:Int)(u:Tok)(prog:Program)(w:World)(E:WvP)(Q:WvP)(h:Q (.bool (decide (c<a))) s):
  wpAny (model prog w) A (richCompare .Gt (.int a t) (.int c u)) Q E s:=
 (PyProof.Rows.gt_int h)
def z6e (l b:Addr)(z03 f:Array Value)(n n2:Nat)(dd Q:Option Addr)(sl W:Array (Option Value))(ns L:List Int)(X:IntsAre z03.toList ns)(Y:IntsAre f.toList L):
  Meets (Builtin.«tuple.__gt__» ⟨[.ref l,.ref b],[]⟩)
   (λ_ R s=>s.heap.get? l=some { cls :=.type "tuple",dict:=dd,data :=.seq z03 n,slots:=sl }/\s.heap.get? b=some { cls :=.type "tuple",dict:=Q,data :=.seq f n2,slots:=W }/\
    R (.ok (.ret (.bool (z0q L ns)))) s):=
 .of_wp λC w A R s h=>by
  obtain⟨K,g,d,N,M⟩:=s;obtain⟨hl,hb,h⟩:=h;have f2:=AutoSeq1.sub_tuple_tuple;have z1:z03.size=ns.length:=by rw[<- X.length];simp
  have z2:f.size=L.length:=by rw[<- Y.length];simp
  wp_walk using jd hl,jd hb,jo _ (λE b U=>Aa3 (b.1=none) (U=⟨K,g,d,N,M⟩) (∃(vs O:List Value) (m j:List Int),E=vs.zip O/\
   IntsAre vs m/\IntsAre O j/\m.length+f.size=j.length+z03.size/\R (.ok (.ret (.bool (z0q j m)))) ⟨K,g,d,N,M⟩)) _
  case turn=>
   rintro⟨y,x⟩ E b U ⟨F,rfl,vs,O,m,j,p,H,o,i,r⟩
   cases H with
   | nil=>rw[List.zip_nil_left] at p;cases p
   | cons a t I=>
    cases o with
    | nil=>rw[List.zip_nil_right] at p;cases p
    | cons c u J=>
     rw[ju] at p
     injection p with T G
     injection T with hy hx
     subst hy hx;rw[z0R] at r;simp only[wU] at i;obtain⟨e,he,z⟩:=z9B A.in1 ⟨K,g,d,N,M⟩ a t c u;refine wc (he C w _ _ ?_)
     cases e with
     | true=>
      rw[if_pos (z.mp rfl).symm] at r
      wp_walk
      exact⟨rfl,rfl,_,_,_,_,G,I,J,by omega,r⟩
     | false=>
      rw[if_neg (λq=>absurd (z.mpr (Eq.symm q)) wT)] at r;have S:=zde A.in1 ⟨K,g,d,N,M⟩ a t c u C w
      wp_walk using S
      exact⟨_,rfl,by simpa using r⟩
  case fin=>
   rintro⟨b1,b2⟩ U ⟨F,rfl,vs,O,m,j,p,H,o,i,r⟩;simp only at F;subst F;have Z:z0q j m=decide (f.size<z03.size):=by
    cases H with
    | nil=>
     cases o with
     | nil=>
      simp only[vZ] at i;rw[z2N];exact(wX (by omega)).symm
     | cons c u hw=>
      simp only[vZ,wU] at i;rw[z3A];exact(wX (by omega)).symm
    | cons a t Z=>
     cases o with
     | nil=>
      simp only[vZ,wU] at i;rw[z3z];exact(vz (by omega)).symm
     | cons c u hw=>
      rw[ju] at p
      cases p
   rw[Z] at r
   wp_walk
   exact⟨_,rfl,by simpa[Builtin.Tuple.tupleCompareSizes] using r⟩
  case h=>
   exact⟨rfl,rfl,z03.toList,f.toList,ns,L,rfl,X,Y,by omega,h⟩
end
section
variable {prog:Program}{w:World}{A:Around}{E:WvP}{s:Shared}
def z65 {z03 a:Array Value}(G:IsTup s.heap l z03)(t:IsTup s.heap b a)(z:IntsAre z03.toList ns)(C:IntsAre a.toList ms)
  (H:A.units<cLine) (h:Q (.bool (z0q ms ns)) s):wpAny (model prog w) A (compareOp .Gt (.ref l) (.ref b)) Q E s:=by
 obtain⟨⟨q,r,o,sl⟩,p,u,n,y⟩:=id G;obtain⟨⟨m,f,e,j⟩,d,g,I,i⟩:=id t;subst u y g i;exact richCompare_meets_room (op :=.Gt) ⟨_,p,rfl⟩ ⟨_,d,rfl⟩ PySem.F.slot_tuple_gt PySem.F.entry_tuple_gt (PySem.F.args_tuple_gt_2 _ _) (z6e l b _ _ n I r f sl j ns ms z C)
  ⟨p,d,⟨(λx=>nomatch x),h⟩⟩ H
end
end HT
namespace Pu
open PySem PySem.Spec PyProof.Rows L2
noncomputable def ints? : List D->Option (List Int)
 | []=>some []
 | .int i::r=>match ints? r with
  | some l=>some (i::l)
  | none=>none
 | _::_=>none
theorem z3d:∀{l:List D}{ns:List Int},ints? l=some ns->l=ns.map D.int
 | [],ns,h=>by
  have  := by simpa[ints?] using h.symm
  subst this;rfl
 | .int i::r,ns,h=>by
  unfold ints? at h
  cases q:ints? r with
  | none=>simp_all
  | some l=>
   rw[q] at h
   cases h
   rw[z3d q];rfl
 | .non::_,_,h=>by simp[ints?] at h
 | .bl _::_,_,h=>by simp[ints?] at h
 | .str _::_,_,h=>by simp[ints?] at h
 | .tup _::_,_,h=>by simp[ints?] at h
 | .lst _::_,_,h=>by simp[ints?] at h
 | .dct _ _::_,_,h=>by simp[ints?] at h
 | .fn _::_,_,h=>by simp[ints?] at h
 | .exc _::_,_,h=>by simp[ints?] at h
 | .ptr _::_,_,h=>by simp[ints?] at h
 | .fz _ _::_,_,h=>by simp[ints?] at h
 | .ins _ _ _::_,_,h=>by simp[ints?] at h
def z9t (ns:List Int):ints? (ns.map D.int)=some ns:=by
 induction ns with
 | nil=>rfl
 | cons n ns a=>rw[wI,ints?, a]
def onI (o:Option (List Int))(Q:List Int->Prop):Prop:=match o with
 | some l=>Q l
 | none=>False
def z4V (m:∀d,Q d->Q' d)(h:onI o Q):onI o Q':=by
 cases o with
 | none=>exact h
 | some d=>exact m _ h
def z4U (h:onI o Q):∃d,o=some d/\Q d:=by
 cases o with
 | none=>exact h.elim
 | some d=>exact⟨d,rfl,h⟩
def gCmp (f:Int->Int->Bool)(t:List Int->List Int->Bool)(a b:D)(Q:DK):Prop:=match a,b with
 | .int i,.int j=>Q (.bl (f i j))
 | .tup l,.tup m=>onI (ints? l) λe=>onI (ints? m) λd=>Q (.bl (t e d))
 | _,_=>False
def z7P {t:List Int->List Int->Bool}(a b:D)(Q Q':DK)(m:∀d,Q d->Q' d)(h:gCmp f t a b Q):gCmp f t a b Q':=by
 unfold gCmp at h ⊢
 split at h
 .exact m _ h
 .exact z4V (λ_ h=>z4V (λ_ h=>m _ h) h) h
 grind
def pLt:Fn:=fn2 (gCmp (λi j=>decide (i<j)) λb a=>HT.z0q b a) z7P
def pGt:Fn:=fn2 (gCmp (λi j=>decide (j<i)) λb a=>HT.z0q a b) z7P
def pLe:Fn:=fnI (λi j Q=>Q (.bl (decide (i<=j)))) λ_ _ _ _ m h=>m _ h
section
variable {X:Cx}{K:W.Frag}{mg:WmP}
theorem z3q:∀(ns:List Int) {xs:List V},RDs K mg G (ns.map D.int) xs->xs=ns.map V.int
 | [],xs,h=>by subst h;rfl
 | n::ns,xs,h=>by
  obtain⟨x,r,rfl,a,b⟩:=h;rw[z0B a,z3q ns b];rfl
theorem z4X:∀(ns:List Int),RDs K mg G (ns.map D.int) (ns.map V.int)
 | []=>RDs.nil
 | n::ns=>RDs.cons RD.int' (z4X ns)
def zjF {op:CmpOp}{t:List Int->List Int->Bool}{J}(F:OpR X (compareOp op) (rI0 λi j =>.bl (f i j)))(M:OpR X (compareOp op) (λx y H Q=>∃a b ns e,x = .ref a/\y = .ref b/\SqT X.K H a (ns.map V.int)/\SqT X.K H b (e.map V.int)/\Q (.bl (t ns e)) H)):
  OpR X (compareOp op) (r2 X.K X.mg (fn2 (gCmp f t) J)):=by
 rintro n s w H x y v u Q I o p ⟨G,z,A,Q0,N,g,h,l,L,m⟩;have d:gCmp f t z A Q0:=L;unfold gCmp at d
 split at d
 .exact F _ s w H x y v u Q I o p ⟨_,_,z0B h,z0B l,m.now g d RD.bl'⟩
 .obtain⟨ns,C,d⟩:=z4U d;obtain⟨e,E,d⟩:=z4U d;obtain⟨a,O,rfl,q,r1⟩:=z1B h;obtain⟨b,R,rfl,r,r2⟩:=z1B l;rw[z3d C] at r1;rw[z3d E] at r2;rw[z3q ns r1] at q;rw[z3q e r2] at r;exact M _ s w H _ _ v u Q I o p ⟨a,b,ns,e,rfl,rfl,z0H g q,z0H g r,m.now g d RD.bl'⟩
 .exact d.elim
def zlP (a:X.A.units+64<cLine):OpR X (compareOp .Lt) (r2 X.K X.mg pLt):=zjF zlI (zjz (by omega))
def zjB (j:X.A.units<cLine):OpR X (compareOp .Gt) (λx y H Q=>∃a b ns d,x = .ref a/\y = .ref b/\SqT X.K H a (ns.map V.int)/\SqT X.K H b (d.map V.int)/\Q (.bl (HT.z0q d ns)) H):=by
 intro f s r H x y v u Q I o p h;obtain⟨a,b,ns,d,rfl,rfl,g,i,q⟩:=h
 cases o
 cases p
 obtain⟨l,r1,m,_⟩:=I.tuple g;obtain⟨e,r2,n,_⟩:=I.tuple i;exact HT.z65 m n (z3t r1) (z3t r2) j ⟨.bl _,H,I,rfl,q⟩
def zlS (a:X.A.units+64<cLine):OpR X (compareOp .Gt) (r2 X.K X.mg pGt):=zjF zlK (zjB (by omega))
def zlQ (_:X.A.units+64<cLine):OpR X (compareOp .LtE) (r2 X.K X.mg pLe):=zlJ.imp <| by
 rintro x y H Q ⟨G,a,b,Q0,l,g,d,e,h,f⟩;obtain⟨i,j,rfl,rfl,q⟩:=z6Q (show gI (λi j Q=>Q _) a b Q0 from h);exact⟨i,j,z0B d,z0B e,f.now g q RD.bl'⟩
end
mutual
def py:D->PyData
 | .non =>.none
 | .bl b =>.bool b
 | .int i =>.int i
 | .str x =>.str x
 | .tup l =>.tuple (pys l)
 | .lst l =>.list (pys l)
 | _ =>.none
def pys:List D->List PyData
 | []=>[]
 | d::a=>py d::pys a
end
def Da:Nat->D->Prop
 | _,.non=>True
 | _,.bl _=>True
 | _,.int _=>True
 | _,.str x=>PyData.strOk x=true
 | 0,.tup _=>False
 | n+1,.tup l=>∀d∈l,Da n d
 | 0,.lst _=>False
 | n+1,.lst l=>∀d∈l,Da n d
 | _,.dct _ _=>False
 | _,.fn _=>False
 | _,.exc _=>False
 | _,.ptr _=>False
 | _,.fz _ _=>False
 | _,.ins _ _ _=>False
section
variable {X:Cx}{K:W.Frag}{mg:WmP}
theorem Da.tup {n:Nat}{l:List D}:Da (n+1) (.tup l)↔∀d∈l,Da n d:=by rw[Da]
theorem Da.lst {n:Nat}{l:List D}:Da (n+1) (.lst l)↔∀d∈l,Da n d:=by rw[Da]
theorem Da.int {n:Nat}{i:Int}:Da n (.int i):=by cases n <;> (trivial)
theorem Da.str {n:Nat}{x:Str}:Da n (.str x)↔PyData.strOk x=true:=by cases n <;> rw[Da]
def Da.canLay:∀n d,Da n d->(py d).canLay0=true/\(py d).depth<=n:=by
 intro n
 induction n with
 | zero=>
  intro d h
  cases d with
  | non=>exact⟨rfl,wt _⟩
  | bl _=>exact⟨rfl,wt _⟩
  | int _=>exact⟨rfl,wt _⟩
  | str x=>exact⟨by exact Da.str.mp h,by rw[py,PyData.depth];exact wt _⟩
  | _=>rw[Da] at h;exact h.elim
 | succ n o=>
  have all:∀l:List D,(∀d∈l,Da n d)->PyData.canLayAll0 (pys l)=true/\PyData.depthAll (pys l)<=n:=by
   intro l
   induction l with
   | nil=>intro _;exact⟨rfl,vG _⟩
   | cons d l e=>
    intro h;obtain⟨f,g⟩:=o d (h d wv);obtain⟨i,j⟩:=e λx m=>h x (wn _ m);rw[pys,PyData.canLayAll0,PyData.depthAll,f,i];exact⟨rfl,Nat.max_le.mpr ⟨g,j⟩⟩
  intro d h
  cases d with
  | non=>exact⟨rfl,vG _⟩
  | bl _=>exact⟨rfl,vG _⟩
  | int _=>exact⟨rfl,vG _⟩
  | str x=>exact⟨by exact Da.str.mp h,by rw[py,PyData.depth];exact vG _⟩
  | tup l=>
   obtain⟨a,b⟩:=all l (Da.tup.mp h);exact⟨by rw[py,PyData.canLay0];exact a,by rw[py,PyData.depth];omega⟩
  | lst l=>
   obtain⟨a,b⟩:=all l (Da.lst.mp h);exact⟨by rw[py,PyData.canLay0];exact a,by rw[py,PyData.depth];omega⟩
  | _=>rw[Da] at h;exact h.elim
theorem Da.shaped (h:Da n d)(e:n<=64):PySem.SeqAt.shaped (py d)=true:=by
 obtain⟨a,b⟩:=Da.canLay n d h;unfold PySem.SeqAt.shaped;rw[a,vz (wO b e)]
 rfl
def Da.rp:∀n d {v:V},Da n d->RD K mg G d v->Rp K G (py d) v:=by
 intro n
 induction n with
 | zero=>
  intro d v h r
  cases d with
  | non=>rw[py,Rp];exact z5Z r
  | bl _=>rw[py,Rp];exact z7h r
  | int _=>rw[py,Rp];exact z0B r
  | str x=>rw[py,Rp];exact z2Y r
  | _=>rw[Da] at h;exact h.elim
 | succ n i=>
  have all:∀l {xs:List V},(∀d∈l,Da n d)->RDs K mg G l xs->RpL K G (pys l) xs:=by
   intro l
   induction l with
   | nil=>intro xs _ r;rw[RDs] at r;subst r;rw[pys,RpL]
   | cons d l f=>
    intro xs h r;obtain⟨x,j,rfl,r1,r2⟩:=r;exact⟨x,j,rfl,i d (h d wv) r1,f (λx g=>h x (wn _ g)) r2⟩
  intro d v h r
  cases d with
  | non=>rw[py,Rp];exact z5Z r
  | bl _=>rw[py,Rp];exact z7h r
  | int _=>rw[py,Rp];exact z0B r
  | str x=>rw[py,Rp];exact z2Y r
  | tup l=>
   obtain⟨a,xs,rfl,b,e⟩:=z1B r;rw[py,Rp];exact⟨a,xs,rfl,b,all l (Da.tup.mp h) e⟩
  | lst l=>
   obtain⟨a,xs,rfl,b,e⟩:=z1Y r;rw[py,Rp];exact⟨a,xs,rfl,b,all l (Da.lst.mp h) e⟩
  | _=>rw[Da] at h;exact h.elim
end
def deq (a b:D):Bool:=PyData.eqv (py a) (py b)
def gEq (neg:Bool)(a b:D)(Q:DK):Prop:=match a,b with
 | .int i,.int j=>Q (.bl (if neg then !decide (i=j) else decide (i=j)))
 | .str x,.str y=>Q (.bl (if neg then !decide (x=y) else decide (x=y)))
 | .bl x,.bl y=>Q (.bl (if neg then !decide (x=y) else decide (x=y)))
 | a,b=>Da 60 a/\Da 60 b/\Q (.bl (if neg then !deq a b else deq a b))
def z6R {neg:Bool}(a b:D)(Q Q':DK)(m:∀d,Q d->Q' d)(h:gEq neg a b Q):gEq neg a b Q':=by
 unfold gEq at h ⊢
 split at h
 .exact m _ h
 .exact m _ h
 .exact m _ h
 simp_all
def pEq:Fn:=fn2 (gEq false) z6R
def pNe:Fn:=fn2 (gEq true) z6R
section
variable {X:Cx}{K:W.Frag}{mg:WmP}
def z8O [Decidable p][Decidable q](h:p↔q):decide p=decide q:=by simp_all
def zfd {op:CmpOp}{neg:Bool}(l:OpR X (compareOp op) (λx y H Q=>scal x y=true/\Q (.bl (if neg then !decide (x=y) else decide (x=y))) H))(t:OpR X (compareOp op) (rEqD X.K neg)):OpR X (compareOp op) (r2 X.K X.mg (fn2 (gEq neg) z6R)):=by
 rintro o s j H x y v u Q I f i ⟨G,p,r,Q0,z,g,r1,r2,w,e⟩;have a:gEq neg p r Q0:=w;unfold gEq at a
 split at a
 .have b:=z0B r1;have d:=z0B r2;subst b;subst d;refine l _ s j H _ _ v u Q I f i ⟨rfl,?_⟩;rw[z8O (⟨λh=>V.int.inj h,λh=>congrArg V.int h⟩)];exact e.now g a RD.bl'
 .have b:=z2Y r1;have d:=z2Y r2;subst b;subst d;refine l _ s j H _ _ v u Q I f i ⟨rfl,?_⟩;rw[z8O (⟨λh=>V.str.inj h,λh=>congrArg V.str h⟩)];exact e.now g a RD.bl'
 .have b:=z7h r1;have d:=z7h r2;subst b;subst d;refine l _ s j H _ _ v u Q I f i ⟨rfl,?_⟩;rw[z8O (⟨λh=>V.bl.inj h,λh=>congrArg V.bl h⟩)];exact e.now g a RD.bl'
 .obtain⟨m,n,q⟩:=a;exact t _ s j H x y v u Q I f i ⟨_,_,(Da.rp 60 _ m r1).same g,(Da.rp 60 _ n r2).same g,m.shaped (by decide),n.shaped (by decide),e.now g q RD.bl'⟩
def zlT (a:X.A.units+64<cLine):OpR X (compareOp .Eq) (r2 X.K X.mg pEq):=zfd (zlL.imp λ_ _ _ _ h=>h) (zjC a)
def zlO (a:X.A.units+64<cLine):OpR X (compareOp .NotEq) (r2 X.K X.mg pNe):=zfd (zlH.imp λ_ _ _ _ h=>h) (zjy a)
def isN:D->Bool
 | .non=>true
 | _=>false
def gIs (neg:Bool)(a b:D)(Q:DK):Prop:=match b with
 | .non=>Q (.bl (if neg then !isN a else isN a))
 | _=>False
def z9v {neg:Bool}(a b:D)(Q Q':DK)(m:∀d,Q d->Q' d)(h:gIs neg a b Q):gIs neg a b Q':=by
 unfold gIs at h ⊢
 split at h
 .exact m _ h
 omega
def pIs:Fn:=fn2 (gIs false) z9v
def z7s:Fn:=fn2 (gIs true) z9v
def zf0 {v:V}(r:RD K mg G d v):decide (v = .non)=isN d:=by
 cases d with
 | non=>rw[z5Z r];rfl
 | bl b=>rw[z7h r];rfl
 | int b=>rw[z0B r];rfl
 | str b=>rw[z2Y r];rfl
 | tup l=>obtain⟨a,e,rfl,_⟩:=z1B r;rfl
 | lst l=>obtain⟨a,e,rfl,_⟩:=z1Y r;rfl
 | dct k v=>obtain⟨a,e,rfl,_⟩:=r;rfl
 | fn n=>obtain⟨a,rfl,_⟩:=r;rfl
 | exc n=>obtain⟨a,e,rfl,_⟩:=r;rfl
 | ptr a=>subst r;rfl
 | fz k v=>obtain⟨a,e,rfl,_⟩:=r;rfl
 | ins n fs f=>obtain⟨p,C,g,e,rfl,_⟩:=r;rfl
def zlR:OpR X (compareOp .Is) (r2 X.K X.mg pIs):=zjA.imp <| by
 rintro x y H Q ⟨G,b,d,Q0,h,g,r1,r2,f,e⟩;have a:gIs _ b d Q0:=f;unfold gIs at a
 split at a
 .exact⟨z5Z r2,by rw[zf0 r1];exact e.now g a RD.bl'⟩
 .exact a.elim
def zdZ:OpR X (compareOp .IsNot) (r2 X.K X.mg z7s):=zgM.imp <| by
 rintro x y H Q ⟨G,b,d,Q0,h,g,r1,r2,f,e⟩;have a:gIs _ b d Q0:=f;unfold gIs at a
 split at a
 .exact⟨z5Z r2,by rw[zf0 r1];exact e.now g a RD.bl'⟩
 .exact a.elim
def z1t {g:D->DK->Prop}{m}{b:List D}{Q:DK}{e:XP}(h:(fn1 g m).run b Q e):∃d,b=[d]/\g d Q:=by
 match b,h with
 | [a],h=>exact⟨a,rfl,h⟩
 | [],h=>exact h.elim
 | _::_::_,h=>exact h.elim
def zej {m}(h:(fn2 g m).run ds Q Xp):∃d e,ds=[d,e]/\g d e Q:=by
 match ds,h with
 | [a,b],h=>exact⟨a,b,rfl,h⟩
 | [],h=>exact h.elim
 | [_],h=>exact h.elim
 | _::_::_::_,h=>exact h.elim
def gLen (d:D)(Q:DK):Prop:=match d with
 | .lst l=>Q (.int l.length)
 | .tup l=>Q (.int l.length)
 | .str x=>x.length<=sizeLine/\Q (.int x.length)
 | _=>False
def pLen:Fn:=fn1 gLen λd Q a m h=>by
 unfold gLen at h ⊢
 split at h
 .exact m _ h
 .exact m _ h
 .exact⟨h.1,m _ h.2⟩
 .exact h.elim
def zkF:z0A X (.builtin "len") (rN X.K X.mg pLen):=(z0A.or z83 z82).imp <| by
 rintro vs H Q ⟨G,n,Q0,m,g,rds,l,i⟩;obtain⟨d,rfl,b⟩:=z1t l;obtain⟨v,rfl,rd⟩:=rds1 rds;unfold gLen at b
 split at b
 .obtain⟨a,j,rfl,f,h⟩:=z1Y rd;exact .inl ⟨a,j,rfl,.inl (z1o g f),by rw[h.len];exact i.now g b RD.int'⟩
 .obtain⟨a,j,rfl,f,h⟩:=z1B rd;exact .inl ⟨a,j,rfl,.inr (z0H g f),by rw[h.len];exact i.now g b RD.int'⟩
 .have e:=z2Y rd;subst e;exact .inr ⟨_,rfl,b.1,i.now g b.2 RD.int'⟩
 .exact b.elim
def gAbs (d:D)(Q:DK):Prop:=match d with
 | .int i=>Q (.int (if i<0 then -i else i))
 | _=>False
def pAbs:Fn:=fn1 gAbs λd Q a m h=>by
 unfold gAbs at h ⊢
 split at h
 .exact m _ h
 .exact h.elim
def zkH:z0A X (.builtin "abs") (rN X.K X.mg pAbs):=zeB.imp <| by
 rintro vs H Q ⟨G,i,Q0,h,g,rds,f,b⟩;obtain⟨d,rfl,a⟩:=z1t f;obtain⟨v,rfl,rd⟩:=rds1 rds;unfold gAbs at a
 split at a
 .have e:=z0B rd;subst e;exact⟨_,rfl,b.now g a RD.int'⟩
 .exact a.elim
def gInt (d:D)(Q:DK):Prop:=match d with
 | .int i=>Q (.int i)
 | .bl b=>Q (.int (if b then 1 else 0))
 | .str x=>∃n,PySem.intText? x=some n/\x.length<=640/\Q (.int n)
 | _=>False
def pInt:Fn:=fn1 gInt λd Q f m h=>by
 unfold gInt at h ⊢
 split at h
 .exact m _ h
 .exact m _ h
 .obtain⟨n,a,b,e⟩:=h;exact⟨n,a,b,m _ e⟩
 .exact h.elim
def zkz:z0A X (.type "int") (rN X.K X.mg pInt):=(z0A.or zcF zcE).imp <| by
 rintro vs H Q ⟨G,m,Q0,l,g,rds,j,b⟩;obtain⟨d,rfl,a⟩:=z1t j;obtain⟨v,rfl,rd⟩:=rds1 rds;unfold gInt at a
 split at a
 .have e:=z0B rd;subst e;exact .inl (.inl ⟨_,rfl,b.now g a RD.int'⟩)
 .have e:=z7h rd;subst e;exact .inl (.inr ⟨_,rfl,b.now g a RD.int'⟩)
 .have e:=z2Y rd;subst e;obtain⟨n,f,h,i⟩:=a;exact .inr ⟨_,n,rfl,f,h,b.now g i RD.int'⟩
 .exact a.elim
def zcc (d:D)(Q:DK):Prop:=match d with
 | .lst l=>Q (.tup l)
 | .tup l=>Q (.tup l)
 | _=>False
def z0Q:Fn:=fn1 zcc λd Q a m h=>by
 unfold zcc at h ⊢
 split at h
 .exact m _ h
 .exact m _ h
 .exact h.elim
def zeu:z0A X (.type "tuple") (rN X.K X.mg z0Q):=z6Y.imp <| by
 rintro vs H Q ⟨G,n,Q0,m,g,rds,l,i⟩;obtain⟨d,rfl,b⟩:=z1t l;obtain⟨v,rfl,rd⟩:=rds1 rds;unfold zcc at b
 split at b
 .obtain⟨a,h,rfl,e,f⟩:=z1Y rd;exact⟨a,h,rfl,.inl ⟨z1o g e,λp j=>i.new g j b (RD.newT f g j)⟩⟩
 .obtain⟨a,h,rfl,e,f⟩:=z1B rd;exact⟨a,h,rfl,.inr ⟨z0H g e,i.now g b (RD.ofT e f)⟩⟩
 .exact b.elim
def rNf (K:W.Frag)(mg:WmP)(F:Fn):List V->Hp->VK->Prop:=λvs H Q=>∃G a Q0 b,Same G H/\RDs K mg G a vs/\F.run a Q0 b/\Kf K mg G H Q0 Q
def Kf.same {G b H e:Hp}{Q0:DK}{Q:VK}(h:Kf K mg G H Q0 Q)(g:Gr G H b)(k:Same H e):Kf K mg b e Q0 Q:=λd a f i q j l g3 n m o=>h d a f i q (g.trans k j) l (z02 k g3) (z0Z k n) m o
def Kf.newL {Q0:DK}(h:Kf K mg G H Q0 Q)(g:Same G H)(a:H p=none)(q:Q0 (.lst l))(r:RDs K mg G l xs):Q (.ref p) (upd H p (.lst xs)):=
 h _ p G _ q Gr.refl (z02 g (z0j a _)) (z0j a _) a (z0Z g a) ⟨xs,z0c,r⟩
def tfN (h:tf K mg E (.op F es) σ H Q):tCB (rNf K mg F) (txa K mg E es) σ H Q:=by
 obtain⟨G,o,Q0,a,m,e,l,j,n⟩:=h;exact⟨G,o,λb=>F.run b Q0 a,a,m,e,l,λb vs d p i f g g3 rd=>⟨d,b,Q0,a,g,rd,i,j.same f g3⟩,n⟩
def zlr {a:Pos}{f:Str}{id:String}(i:z0A X (.builtin id) (rNf X.K X.mg F))(l:Gl X f)(m:X.mg f=none)(o:bootBuiltins f=some (.builtin id))(g:QXA X E (e::es) xs)(n:autoParam (f≠"__name__") jB1)(b:autoParam (dB f) jB1)
  (j:autoParam (sE e es X) jA1) (d:autoParam (bT a es X) jA1):QF X E (.Call (.Name f pp) (e::es) [] a) (.op F xs):=
 QE.imp (z3X i l m o g n b j d) λ_ _ _ h=>tfN h
def zce (d:D)(Q:DK):Prop:=match d with
 | .lst l=>onI (ints? l) λa=>a≠[]/\∀m,m∈a->(∀x∈a,x<=m)->Q (.int m)
 | _=>False
def zar (d:D)(Q Q':DK)(m:∀d,Q d->Q' d)(h:zce d Q):zce d Q':=by
 unfold zce at h ⊢
 split at h
 .exact z4V (λ_ q=>⟨q.1,λx a b=>m _ (q.2 x a b)⟩) h
 grind
def gSum (d:D)(Q:DK):Prop:=match d with
 | .lst l=>onI (ints? l) λa=>Q (.int a.sum)
 | _=>False
def pSum:Fn:=fn1 gSum λd Q a m h=>by
 unfold gSum at h ⊢
 split at h
 .exact z4V (λ_ q=>m _ q) h
 .exact h.elim
def zkE (j:X.calm=true):z0A X (.builtin "sum") (rN X.K X.mg pSum):=(zcz j).imp <| by
 rintro vs H Q ⟨G,o,Q0,n,g,rds,m,l⟩;obtain⟨d,rfl,b⟩:=z1t m;obtain⟨v,rfl,rd⟩:=rds1 rds;unfold gSum at b
 split at b
 .obtain⟨i,e,q⟩:=z4U b;obtain⟨a,p,rfl,f,h⟩:=z1Y rd;rw[z3d e] at h;rw[z3q i h] at f;exact⟨a,i,rfl,z1o g f,l.now g q RD.int'⟩
 .exact b.elim
def gIx (a b:D)(Q:DK):Prop:=match a,b with
 | .lst l,.int i=>onV (atI l i) Q
 | .tup l,.int i=>onV (atI l i) Q
 | .str x,.int i=>x.length<=sizeLine/\∃c,atI x.cps.toList i=some c/\Q (.str ⟨#[c]⟩)
 | _,_=>False
def zeg (a b:D)(Q Q':DK)(m:∀d,Q d->Q' d)(h:gIx a b Q):gIx a b Q':=by
 unfold gIx at h ⊢
 split at h
 .exact z9g m h
 .exact z9g m h
 .obtain⟨e,c,f,g⟩:=h;exact⟨e,c,f,m _ g⟩
 grind
def pIx:Fn:=fn2 gIx zeg
def IxR.imp {r r':R2}(h:IxR X r)(i:∀x y H Q,r' x y H Q->r x y H Q):IxR X r':=λb a d s j H x y v u Q I f g q e=>h _ _ _ s j H x y v u Q I f g (i x y H Q q) e
def ix_p:IxR X (r2 X.K X.mg pIx):=IxR.imp zkm <| by
 rintro x y H Q ⟨G,n,o,Q0,s,g,r1,r2,r,j⟩;have b:gIx n o Q0:=r;unfold gIx at b
 split at b
 .obtain⟨d,e,q⟩:=z9f b;obtain⟨a,m,rfl,f,h⟩:=z1Y r1;obtain⟨v,i,l⟩:=h.at e;exact .inl ⟨a,m,_,v,rfl,z0B r2,z1o g f,i,j.now g q l⟩
 .obtain⟨d,e,q⟩:=z9f b;obtain⟨a,m,rfl,f,h⟩:=z1B r1;obtain⟨v,i,l⟩:=h.at e;exact .inr (.inl ⟨a,m,_,v,rfl,z0B r2,z0H g f,i,j.now g q l⟩)
 .obtain⟨f,c,h,p⟩:=b;exact .inr (.inr ⟨_,_,c,z2Y r1,z0B r2,f,h,j.now g p RD.str'⟩)
 .exact b.elim
def zlj {d:Pos}(e:QX X E a x)(f:QX X E b y)(g:z8W b):QX X E (.Subscript a b d) (.op pIx [x,y]):=QE.imp (zlv ix_p e f g) λ_ _ _ h=>tx2 lk2 h
end
end Pu
namespace HT
open PySem PyProof.Rows
section
variable {prog:Program}{w:World}{A:Around}{E:WvP}{s:Shared}
def zaK {t sl:Addr}{z03:Array Value}{r u vs:Value}(d:IsTup s.heap t z03)(p:s.heap.IsSliceOf sl r u vs)
  (n:∀{A:Around}{E:WvP}{Q:Int × Int × Nat->Shared->Prop},Q R s->wpAny (model prog w) A (Builtin.Slice.sliceApplied (.ref sl) (pure z03.size)) Q E s) (hsz:R.2.2<=sizeLine)
  (e:(R.1 == 0 && R.2.1 == 1 && R.2.2 == z03.size)=true->Q (.ref t) s)
  (l:¬ (R.1 == 0 && R.2.1 == 1 && R.2.2 == z03.size)=true->Q (.ref s.heap.objs.size) { s with heap:=s.heap.push { cls :=.type "tuple",data :=.seq ((List.range R.2.2).filterMap λ(k:Nat)=>z03[(R.1+k*R.2.1).toNat]?).toArray } }):
  wpAny (model prog w) A (getItem (.ref t) (.ref sl)) Q E s:=by
 obtain⟨q,i,g,o⟩:=id p;have f:s.TypeIs (.ref sl) "slice":=⟨q,i,g⟩
 have a:sizeOk (.seq ((List.range R.2.2).filterMap λ(k:Nat)=>z03[(R.1+k*R.2.1).toNat]?).toArray):=by
  show ((List.range R.2.2).filterMap λ(k:Nat)=>z03[(R.1+k*R.2.1).toNat]?).toArray.size<=sizeLine;rw[wG];refine wO (List.length_filterMap_le _ _) ?_;rw[uf];exact hsz
 unfold getItem
 try with_reducible refine v8 ?_
 first | refine wc (wj ?_) | skip
 refine wc (wpAny_sequenceKey d.typeIs (by decide) ?_);refine wc (vX (name:=Str.ofString "__getitem__") d.typeIs vR
  (ub vR d.typeIs entry_tuple_getitem ?_ (args_tuple_getitem _ _)))
 show wpAny _ _ (Builtin.Tuple.tupleItemsOf (.ref t) >>= _) _ _ s;refine wc (tupleItemsOf_ d ?_);refine wc (jS f ?_);rw[if_pos (by decide)];refine wc (n ?_);obtain⟨r1,r2,j⟩:=R;show wpAny _ _ (if (r1 == 0 && r2 == 1 && j == z03.size)=true then _ else _) _ _ s
 by_cases b:(r1 == 0 && r2 == 1 && j == z03.size)=true
 .rw[if_pos b];refine wc (m:=Builtin.Tuple.tupleIsExact (.ref t)) ?_;refine wc (jS d.typeIs (wj ?_));rw[if_pos (by decide)]
  first
   | exact wc (wj (wj ⟨_,rfl,wj (e b)⟩))
   | exact wc (wpAny_rule (wj ⟨_,rfl,wj (e b)⟩))
   | exact wc (wpAny_rule (wc (wj (wj ⟨_,rfl,wj (e b)⟩))))
   | exact wj ⟨_,rfl,wj (e b)⟩
 .rw[if_neg b];have h:=l b
  first
   | exact wc (m:=Builtin.Tuple.tupleExact _) (vg (wj ⟨_,rfl,wj h⟩) a)
   | exact wc (m:=Builtin.Tuple.tupleExact _) (vg (wc (wj (wj ⟨_,rfl,wj h⟩))) a)
   | exact wc (wc (m:=Builtin.Tuple.tupleExact _) (vg (wj (wj ⟨_,rfl,wj h⟩)) a))
   | exact wc (wc (m:=Builtin.Tuple.tupleExact _) (vg (wj ⟨_,rfl,wj h⟩) a))
end
end HT
namespace Pu
open PySem PySem.Spec PyProof.Rows L2
def part (o:Option Ex)(a:Pu.Env)(K:Option Int->Prop)(X:XP):Prop:=match o with
 | none=>K none
 | some e=>e.run a (λd=>isI d λi=>K (some i)) X
def z7r {K a:Option Int->Prop}(m:∀i,K i->a i)(b:∀x,X x->X' x)(h:part o ρ K X):part o ρ a X':=by
 cases o with
 | none=>exact m _ h
 | some e=>exact e.mono ρ _ _ X X' (λd q=>z9s (λi q=>m _ q) q) b h
def cutD (l:List D)(a b:Option Int):List D:=(l.drop (HT.sIx l.length 0 a)).take (HT.sIx l.length l.length b - HT.sIx l.length 0 a)
def slcD (d:D)(b a:Option Int)(Q:DK):Prop:=match d with
 | .lst l=>Q (.lst (cutD l b a))
 | .tup l=>Q (.tup (cutD l b a))
 | .str x=>x.length<=sizeLine/\Q (.str (Txt.slice x b a))
 | _=>False
def zaU {b a:Option Int}(m:∀d,Q d->Q' d)(h:slcD d b a Q):slcD d b a Q':=by
 unfold slcD at h ⊢
 split at h
 .exact m _ h
 .exact m _ h
 .simp_all
 omega
def Ex.sl (e:Ex)(h g:Option Ex):Ex:=⟨λa Q X=>e.run a (λd=>part h a (λl=>part g a (λu=>slcD d l u Q) X) X) X,λa Q i X f m b q=>e.mono a _ _ X f (λd q=>z7r (λl q=>z7r (λu q=>zaU m q) b q) b q) b q⟩
def rSlP (K:W.Frag)(mg:WmP):V->Option Int->Option Int->Hp->VK->Prop:=λx b a H Q=>∃G d Q0,Same G H/\RD K mg G d x/\slcD d b a Q0/\Kt K mg G H Q0 Q
section
variable {X:Cx}{K:W.Frag}{mg:WmP}{E:XK}
def zcY:SlR X (λx i d H Q=>∃a xs,x = .ref a/\SqT X.K H a xs/\(HT.sIx xs.length 0 i=0/\HT.sIx xs.length xs.length d=xs.length)/\Q (.ref a) H):=by
 intro j s w H x v t u i d sl Q I n f pl m h;obtain⟨a,xs,rfl,l,o,q⟩:=h
 cases n
 obtain⟨b,r,g,p⟩:=I.tuple l;have e:b.toArray.size=xs.length:=by exact r.length.symm
 refine⟨"tuple",_,vR.lookup,g.typeIs,?_⟩;refine HT.zaK g f (λh=>HT.z2X f pl m h) ?_ (λ_=>⟨.ref a,H,I,rfl,q⟩) (λz =>?_)
 .simp_all
 simp_all
def zaw {b a:Option Int}(h:HT.sIx xs.length 0 b=0/\HT.sIx xs.length xs.length a=xs.length):cutD xs b a=xs:=by
 unfold cutD
 simp_all
def sl_p:SlR X (rSlP X.K X.mg):=((zfR.or (zi1.or zcY)).or zi2).imp <| by
 rintro x n m H Q ⟨G,d,Q0,g,rd,b,j⟩;unfold slcD at b
 split at b
 .obtain⟨a,e,rfl,h,i⟩:=z1Y rd;exact .inl (.inl ⟨a,e,rfl,z1o g h,λp f=>j.new g f b (RD.newL (i.cut n m) g f)⟩)
 .obtain⟨a,e,rfl,h,i⟩:=z1B rd
  by_cases l:HT.sIx e.length 0 n=0/\HT.sIx e.length e.length m=e.length
  .refine .inl (.inr (.inr ⟨a,e,rfl,z0H g h,l,j.now g b ?_⟩));rw[i.len] at l;rw[zaw l];omega
  .exact .inl (.inr (.inl ⟨a,e,rfl,z0H g h,l,λp f=>j.new g f b (RD.newT (i.cut n m) g f)⟩))
 .exact .inr ⟨_,z2Y rd,b.1,j.now g b.2 RD.str'⟩
 .exact b.elim
def z9O (K:W.Frag)(mg:WmP)(E:XK)(o:Option Ex):TO:=λf H Q=>∃G e Q0 d,Same G H/\AbE K mg G e f/\part o e Q0 d/\(∀i b a,Q0 i->Gr G H b->Same b a->Same H a->Q i a)/\Kx mg H d E
def QO.imp {e:Option Expr}{t t':TO}(h:QO X e t)(i:∀a H Q,t' a H Q->t a H Q):QO X e t':=⟨λb s a H Q I q=>h.p _ s a H Q I (i a H Q q)⟩
def zgk:QO X none (z9O X.K X.mg E none):=QO.imp zgm <| by rintro i H Q ⟨G,h,Q0,e,d,f,b,a,g⟩;exact a _ G H b Gr.refl d Same.refl'
def zgj (h:QX X E e x):QO X (some e) (z9O X.K X.mg E (some x)):=QO.imp (zgl h) <| by
 rintro s H Q ⟨G,r,Q0,f,o,g,n,m,p⟩;refine⟨G,r,_,f,o,g,n,λd v a b q j l g3 rd =>?_,p⟩;obtain⟨i,rfl,q⟩:=z9r q;exact⟨i,z0B rd,m _ a b q j l g3⟩
def zkU {o n:Option Ex}(h:tx K mg E (.sl e o n) σ H Q):tSl (rSlP K mg) (tx K mg E e) (z9O K mg E o) (z9O K mg E n) σ H Q:=by
 obtain⟨G,m,Q0,a,z,b,y,x,g⟩:=h;refine⟨G,m,_,a,z,b,y,λd v r I q f w g3 rd =>?_,g⟩;refine⟨r,m,_,a,w,b.same f.1,q,λl s J q i A j =>?_,g.same g3⟩;refine⟨s,m,_,a,A,b.same (z02 f.1 i.1),q,λu t L q p C F =>?_,g.same (z02 g3 j)⟩;exact⟨t,d,Q0,C,rd.same (z02 i.1 p.1),q,x.same (f.trans g3 (i.trans j p)) (z02 g3 (z02 j F))⟩
def zli {d b:Option Expr}{j a:Pos}(f:QX X E e x)(g:QO X d (z9O X.K X.mg E l))(i:QO X b (z9O X.K X.mg E u)):QX X E (.Subscript e (.Slice d b none j) a) (.sl x l u):=QE.imp (zdB sl_p f g i) λ_ _ _ h=>zkU h
noncomputable def isiD (T:String):D->Option Bool
 | .int _=>some (T == "int")
 | .bl _=>some (T == "int" || T == "bool")
 | .str _=>some (T == "str")
 | .tup _=>some (T == "tuple")
 | .lst _=>some (T == "list")
 | .non=>some false
 | _=>none
def onB (o:Option Bool)(Q:Bool->Prop):Prop:=match o with
 | some b=>Q b
 | none=>False
def zdW (m:∀b,Q b->Q' b)(h:onB o Q):onB o Q':=by
 cases o with
 | none=>exact h
 | some b=>exact m _ h
def zdV (h:onB o Q):∃b,o=some b/\Q b:=by
 cases o with
 | none=>exact h.elim
 | some b=>exact⟨b,rfl,h⟩
def pIsi (T:String):Fn:=fn1 (λd Q=>onB (isiD T d) λb=>Q (.bl b)) λd Q a m h=>zdW (λb q=>m _ q) h
def ze7:List String:=["int","bool","str","tuple","list"]
def zh8 (a:T∈ze7):W.kitOne K (.type "int") (.type T)=some (T == "int")/\W.kitOne K (.type "bool") (.type T)=some (T == "int" || T == "bool")/\W.kitOne K (.type "str") (.type T)=some (T == "str")/\
  W.kitOne K (.type "tuple") (.type T)=some (T == "tuple")/\W.kitOne K (.type "list") (.type T)=some (T == "list")/\W.kitOne K (.type "NoneType") (.type T)=some false:=by
 unfold ze7 at a;simp[wm,wz,vK] at a
 rcases a with rfl | rfl | rfl | rfl | rfl <;> exact⟨rfl,rfl,rfl,rfl,rfl,rfl⟩
def zlc (K:W.Frag)(mg:WmP)(T:String):List V->Hp->VK->Prop:=λvs H Q=>∃v G d Q0,vs=[v,.ty T]/\Same G H/\RD K mg G d v/\(onB (isiD T d) λb=>Q0 (.bl b))/\Kt K mg G H Q0 Q
def zkG (E:T∈ze7):z0A X (.builtin "isinstance") (zlc X.K X.mg T):=by
 rintro j s Z H vs us Q I L ⟨v,G,d,Q0,e,g,rd,J,F⟩;subst e;obtain⟨b,f,q⟩:=zdV J;obtain⟨u,w,rfl,h,y⟩:=zhH L
 cases (show w=Value.type T from y)
 obtain⟨M,N,O,R,S,U⟩:=zh8 (K:=X.K) E;have fin:∀A,EP X j Z Q (.bool b) { s with toks:=A }:=λA=>⟨.bl b,H,I.tok A,rfl,F.now g q RD.bl'⟩
 cases d with
 | int i=>
  have e:=z0B rd;subst e;rw[show isiD T (.int i)=some (T == "int") from rfl] at f;exact z4a I h (.int i) (M.trans f) fin
 | bl i=>
  have e:=z7h rd;subst e;exact z4a I h (.bl i) (N.trans f) fin
 | str i=>
  have e:=z2Y rd;subst e;rw[show isiD T (.str i)=some (T == "str") from rfl] at f;exact z4a I h (.str i) (O.trans f) fin
 | non=>
  have e:=z5Z rd;subst e;rw[show isiD T .non=some false from rfl] at f;exact z4a I h .non (U.trans f) fin
 | tup l=>
  obtain⟨a,Y,rfl,m,C⟩:=z1B rd
  cases h
  rw[show isiD T (.tup l)=some (T == "tuple") from rfl] at f;obtain⟨x,r,⟨o,t,p,_⟩,_⟩:=I.tuple (z0H g m);exact vY W.kitx_tuple I.kIn ⟨o,t,p⟩ (R.trans f) (λz=>nomatch z) fin
 | lst l=>
  obtain⟨a,Y,rfl,m,C⟩:=z1Y rd
  cases h
  rw[show isiD T (.lst l)=some (T == "list") from rfl] at f;obtain⟨x,r,⟨o,n,t,p,_⟩,_⟩:=I.list (z1o g m);exact vY W.kitx_list I.kIn ⟨o,t,p⟩ (S.trans f) (λz=>nomatch z) fin
 | _=>cases f
def ziB {e t:Expr}{I b:Pos}(o:T∈ze7)(r:Gl X "isinstance")(u:X.mg "isinstance"=none)(p:QX X E e x)(A:QE X t (tC (.ty T)))
  (a:autoParam (starEach [e,t] X.env=(false,eval e X.env)::starEach [t] X.env) jA1) (h:autoParam (sE t [] X) jA1) (g:autoParam ((backTo b (starEach [t] X.env)).any (·.1)=false) jA1)
  (C:autoParam (bootBuiltins "isinstance"=some (.builtin "isinstance")) jA1) (w:autoParam (("isinstance":Str)≠"__name__") jB1) (f:autoParam ((("isinstance":Str) == ("__debug__"))=false) jB1):QX X E (.Call (.Name "isinstance" I) [e,t] [] b) (.op (pIsi T) [x]):=
 QE.imp (z3X (zkG o) r u C (z3F p (z3F A z60 h) a) w f a g) <| by
  rintro L H Q ⟨G,J,Q0,j,z,l,y,s,F⟩;refine⟨G,J,_,j,z,l,y,λd v i K q m n g3 rd =>?_,F⟩;exact⟨v,i,d,Q0,rfl,n,rd,q,s.same m g3⟩
def zgL:Fn:=fn1 zce zar
def zhs (l:X.calm=true):z0A X (.builtin "max") (rN X.K X.mg zgL):=(zcD l).imp <| by
 rintro vs H Q ⟨G,t,Q0,s,g,rds,p,n⟩;obtain⟨d,rfl,b⟩:=z1t p;obtain⟨v,rfl,rd⟩:=rds1 rds;unfold zce at b
 split at b
 .obtain⟨j,e,f,q⟩:=z4U b;obtain⟨a,u,rfl,h,i⟩:=z1Y rd;rw[z3d e] at i;rw[z3q j i] at h;exact⟨a,j,rfl,z1o g h,f,λm o r=>n.now g (q m o r) RD.int'⟩
 .exact b.elim
def zei {b}(h:(fnI g b).run ds Q Xp):∃i j,ds=[.int i,.int j]/\g i j Q:=by
 obtain⟨d,e,rfl,a⟩:=zej h;obtain⟨i,j,rfl,rfl,q⟩:=z6Q a;exact⟨i,j,rfl,q⟩
def zaa:Fn:=fnI (λi j Q=>Q (.int (if j<i then j else i))) λ_ _ _ _ m h=>m _ h
def zhq (a:X.calm=true):z0A X (.builtin "min") (rN X.K X.mg zaa):=(zcB a).imp <| by
 rintro vs H Q ⟨G,f,Q0,e,g,rds,d,b⟩;obtain⟨i,j,rfl,q⟩:=zei d;obtain⟨v,w,rfl,r1,r2⟩:=rds2 rds;exact⟨i,j,by rw[z0B r1,z0B r2],b.now g q RD.int'⟩
end
structure Nm (sc:Scope)(x:Str):Prop where
 loc:Loc sc x
 hd:dB x
 hcd:(x == ("__classdict__"))=false
def Nm.vis {sc:Scope}(h:Nm sc x):Vis sc x:=h.loc.elim .inl λz =>.inr (.inl z)
end Pu
namespace Pu
open PySem L2
open Builtin.Int (intBits)
section
variable {ρ:Pu.Env}{Q:DK}{X:XP}{N:Pu.Env->Prop}{a b c e:Ex}{s t:Sm}{F:Fn}{d:D}{i j:Nat}
def z9l (q:Q d):onV (some d) Q:=q
def e_c (q:Q d):(Ex.c d).run ρ Q X:=q
def e_v (q:onV (ρ.get i) Q):(Ex.v i).run ρ Q X:=q
def zeo (q:a.run ρ (λx=>F.run [x] Q X) X):(Ex.op F [a]).run ρ Q X:=q
def zkr (q:a.run ρ (λx=>b.run ρ (λy=>F.run [x,y] Q X) X) X):(Ex.op F [a,b]).run ρ Q X:=q
def zmh (q:a.run ρ (λx=>b.run ρ (λy=>c.run ρ (λz=>F.run [x,y,z] Q X) X) X) X):(Ex.op F [a,b,c]).run ρ Q X:=q
def zmg (q:a.run ρ (λx=>b.run ρ (λy=>c.run ρ (λz=>e.run ρ (λu=>F.run [x,y,z,u] Q X) X) X) X) X):(Ex.op F [a,b,c,e]).run ρ Q X:=q
def zmf (q:runs es ρ (λa=>F.run a Q X) X):(Ex.op F es).run ρ Q X:=q
def zih {Q:List D->Prop}(q:Q []):runs [] ρ Q X:=q
def zg3 {Q:List D->Prop}(q:a.run ρ (λd=>runs es ρ (λb=>Q (d::b)) X) X):runs (a::es) ρ Q X:=q
def zmj (q:a.run ρ (λd=>tst d (b.run ρ Q X) (Q (.bl false))) X):(Ex.and a b).run ρ Q X:=q
def e_or (q:a.run ρ (λd=>tst d (Q (.bl true)) (b.run ρ Q X)) X):(Ex.or a b).run ρ Q X:=q
def notD (d:D)(Q:DK):Prop:=match d with
 | .bl b=>Q (.bl (!b))
 | _=>False
def zmi (q:a.run ρ (λd=>notD d Q) X):(Ex.not a).run ρ Q X:=q
def n_bl {k:Bool}(q:Q (.bl (!k))):notD (.bl k) Q:=q
def zfs (q:src.run ρ (λd=>onL (z03 d) λl=>l.length<sizeLine/\z4h (z4A tg ct elt (z1a nt js ρ)) l λr=>Q (.lst r)) X):(Ex.comp nt js tg src ct elt).run ρ Q X:=q
def zma (q:K l):onL (z03 (.lst l)) K:=q
def zm9 (q:K l):onL (z03 (.tup l)) K:=q
def e_sl {e b:Option Ex}(q:a.run ρ (λd=>part e ρ (λl=>part b ρ (λu=>slcD d l u Q) X) X) X):(Ex.sl a e b).run ρ Q X:=q
def zjp (q:K none):part none ρ K X:=q
def zjo (q:a.run ρ (λd=>isI d λi=>K (some i)) X):part (some a) ρ K X:=q
def zkn {k:Int}(q:K k):isI (.int k) K:=q
def zmq {b a:Option Int}(q:Q (.lst (cutD l b a))):slcD (.lst l) b a Q:=q
def zmp {b a:Option Int}(q:Q (.tup (cutD l b a))):slcD (.tup l) b a Q:=q
def zaO {A B:Prop}(h:A):tst (.bl true) A B:=⟨λ_=>h,(λz=>by cases z)⟩
def z3C {A B:Prop}(h:B):tst (.bl false) A B:=⟨(λz=>by cases z),λ_=>h⟩
def z0O {d:D}{a:Pu.Env}{B:Prop}(h:Safe d a)(q:B):Safe d a/\B:=⟨h,q⟩
def z1A {d:D}{a:Pu.Env}{B:Prop}(h:zeF d a)(q:B):zeF d a/\B:=⟨h,q⟩
def z0G {p:Prop}[Decidable p]{A B:Prop}(h:p->A)(h':¬ p->B):tst (.bl (decide p)) A B:=⟨λe=>h (ue e),λe=>h' (of_decide_eq_false e)⟩
def zkX {p:Prop}[Decidable p]{A B:Prop}(a:p)(h:A):tst (.bl (decide p)) A B:=z0G (λ_=>h) λn=>(n a).elim
def t_no {p:Prop}[Decidable p]{A B:Prop}(a:¬ p)(h:B):tst (.bl (decide p)) A B:=z0G (λy=>(a y).elim) λ_=>h
def z9R {k:Bool}{A B:Prop}(h:tst (.bl k) B A):tst (.bl (!k)) A B:=by
 cases k
 .exact zaO (h.2 rfl)
 .exact z3C (h.1 rfl)
def z6f {k:Bool}{A B:Prop}(e:k=true)(h:A):tst (.bl k) A B:=by rw[e];exact zaO h
def z9S {k:Bool}{A B:Prop}(e:k=false)(h:B):tst (.bl k) A B:=by rw[e];exact z3C h
def zeR (q:N ρ):Sm.skip.run ρ N Q X:=q
def z4k (q:s.run ρ (λa=>t.run a N Q X) Q X):(Sm.seq s t).run ρ N Q X:=q
def zl0 (q:a.run ρ (λd=>Safe d (ρ.set i .n)/\N (ρ.set i (.s d))) X):(Sm.set i a).run ρ N Q X:=q
def zd4 (q:a.run ρ (λd=>zeF d (ρ.set i .n)/\N (ρ.set i (.o d))) X):(Sm.own i a).run ρ N Q X:=q
def zi7 (q:a.run (vis (dem js ρ)) (λd=>N ((dem js ρ).set i (.s d))) X):(Sm.setx js i a).run ρ N Q X:=q
def s_if (q:c.run ρ (λd=>tst d (s.run ρ N Q X) (t.run ρ N Q X)) X):(Sm.ifs c s t).run ρ N Q X:=q
def zl1 (q:a.run ρ Q X):(Sm.ret a).run ρ N Q X:=q
def zl4 (q:a.run (vis (dem js ρ)) (λd=>onL (z03 d) λl=>forL tg s N Q X l (dem js ρ)) X):(Sm.for_ js tg a s).run ρ N Q X:=q
def zg0 (q:a.run ρ (λd=>onR [d] λl=>forL tg s N Q X l ρ) X):(Sm.forr [a] tg s).run ρ N Q X:=q
def z4l {l:List D}(h:ownL ρ i λl=>a.run ρ (λd=>l.length<sizeLine/\Safe d ρ/\N (ρ.set i (.o (.lst (l++[d]))))) X):(Sm.app i a).run ρ N Q X:=h
def zl2 (h:ownL ρ i λl=>popL l λl' _=>N (ρ.set i (.o (.lst l')))):(Sm.pop i).run ρ N Q X:=h
def zfW (h:ownL ρ i λl=>popL l λl' d=>N ((ρ.set i (.o (.lst l'))).set j (.s d))):(Sm.popTo j i).run ρ N Q X:=h
def zl5 (h:ownL ρ i λl=>a.run ρ (λd=>isLs d λm=>l.length+m.length<=sizeLine/\(∀x∈m,Safe x ρ)/\N (ρ.set i (.o (.lst (l++m))))) X):(Sm.ext i a).run ρ N Q X:=h
def zfV (h:ownL ρ i λl=>a.run ρ (λd=>Safe d ρ/\b.run ρ (λe=>isI e λz=>onN (ixN l.length z) λj=>N (ρ.set i (.o (.lst (l.set j d))))) X) X):(Sm.put i b a).run ρ N Q X:=h
def zl7 (h:ds.length=np)(q:s.run (ds.map B.s++List.replicate (nn - np) .n) (λ_=>Q .non) Q (λ_=>False)):(Fn.mkN np nn s).run ds Q X:=⟨h,q⟩
def zl8 (h:ds.length=np)(q:s.run (ds.map B.s++List.replicate (nn - np) .n) (λ_=>Q .non) Q X):(Fn.mk' np nn s).run ds Q X:=⟨h,q⟩
def Sm.cut (W:Pu.Env->Prop)(h:s.run ρ W Q X)(k:∀a,W a->t.run a N Q X):(Sm.seq s t).run ρ N Q X:=s.mono ρ W _ Q Q X X k (λ_ z=>z) (λ_ z=>z) h
def zhQ (W:Pu.Env->Prop)(h:tst d (s.run ρ W Q X) (t.run ρ W Q X))(k:∀a,W a->N a):tst d (s.run ρ N Q X) (t.run ρ N Q X):=z2F (s.mono ρ W N Q Q X X k (λ_ z=>z) (λ_ z=>z)) (t.mono ρ W N Q Q X X k (λ_ z=>z) (λ_ z=>z)) h
def nI (a:Pu.Env)(i:Nat):Int:=match a.get i with
 | some (.int s)=>s
 | _=>0
def nL (a:Pu.Env)(i:Nat):Nat:=match a.get i with
 | some (.lst k)=>k.length
 | _=>0
def z0J {j:Type}{f:j->D}{i:Tg}{l:List j}(I:List j->Pu.Env->Prop)(m:I [] ρ)(o:∀a x r ρ,l=a++x::r->I a ρ->i.put (f x) ρ λd=>s.run d (λb=>I (a++[x]) b) Q X)(n:∀ρ,I l ρ->N ρ):forL i s N Q X (l.map f) ρ:=by
 have g:∀r a ρ,l=a++r->I a ρ->forL i s N Q X (r.map f) ρ:=by
  intro r
  induction r with
  | nil=>
   intro a ρ e h;rw[vk] at e;subst e;exact n ρ h
  | cons x r p=>
   intro a ρ e h;exact Tg.put_mono (λd q=>s.mono d _ _ Q Q X X (λb q=>p _ _ (by rw[e];simp) q) (λ_ z=>z) (λ_ z=>z) q) (o a x r ρ e h)
 exact g l [] ρ rfl m
def z51 (I:Pu.Env->Prop)(e:Pu.Env->Nat)(f:I ρ)(h:∀ρ,I ρ->c.run ρ (λd=>tst d (s.run ρ (λa=>I a/\e a < e ρ) Q X) (N ρ)) X):(Sm.wh c s).run ρ N Q X:=by
 have b:∀n ρ,I ρ->e ρ < n->wh c s N Q X n ρ:=by
  intro n
  induction n with
  | zero=>simp_all
  | succ n i=>
   intro ρ g j;exact c.mono ρ _ _ X X (λd q=>z2F (s.mono ρ _ _ Q Q X X (λa q=>i a q.1 (by lia)) (λ_ z=>z) (λ_ z=>z)) (λz=>z) q) (λ_ z=>z) (h ρ g)
 exact⟨e ρ+1,b _ ρ f (uK _)⟩
theorem z13 {a:Type}{f g:a->D}{G:D->(Option D->Prop)->Prop}{M:List D->Prop}:∀{l:List a},(∀x∈l,∀K:Option D->Prop,K (some (g x))->G (f x) K)->M (l.map g)->z4h G (l.map f) M
 | [],_,q=>q
 | x::r,h,q=>h x wv _ (z13 (λy b=>h y (wn _ b)) q)
theorem z1X {b:Type}{f g:b->D}{p:b->Bool}{G:D->(Option D->Prop)->Prop}{M:List D->Prop}:∀{l:List b},(∀x∈l,∀K:Option D->Prop,(p x=true->K (some (g x)))->(p x=false->K none)->G (f x) K)->M ((l.filter p).map g)->z4h G (l.map f) M
 | [],_,q=>q
 | x::r,h,q=>by
  refine h x wv _ (λe =>?_) (λe =>?_)
  .refine z1X (λy a=>h y (wn _ a)) ?_
   simp_all
  .refine z1X (λy a=>h y (wn _ a)) ?_
   simp_all
theorem z4g {b d:Type}{f:b->D}{g:d->D}{P:b->d->Prop}{G:D->(Option D->Prop)->Prop}:∀{l:List b}{M:List D->Prop},(∀x∈l,∀K:Option D->Prop,(∀y,P x y->K (some (g y)))->G (f x) K)->(∀ys:List d,ys.length=l.length->(∀y∈ys,∃x∈l,P x y)->M (ys.map g))->z4h G (l.map f) M
 | [],_,_,q=>q [] rfl (λ_ z=>by simp at z)
 | x::r,M,h,q=>h x wv _ λy i=>z4g (λz a=>h z (wn _ a)) λys e j=>q (y::ys) (by simp[e]) λz a=>by
  rcases wm.mp a with rfl | a
  .exact⟨x,wv,i⟩
  simp_all
def zmn {k:Nat}(q:elt.run (ρ.set k (.s x)) (λd=>K (some d)) (λ_=>False)):z4A (.nm k) none elt ρ x K:=q
def zkD {k:Nat}(q:c.run (ρ.set k (.s x)) (λb=>tst b (elt.run (ρ.set k (.s x)) (λd=>K (some d)) (λ_=>False)) (K none)) (λ_=>False)):z4A (.nm k) (some c) elt ρ x K:=q
variable {m n:Int}
def zm3 (q:Q (.int (m+n))):pAdd.run [.int m,.int n] Q X:=q
def zlW (q:Q (.int (m - n))):pSub.run [.int m,.int n] Q X:=q
def zlZ (h:zhD m n)(q:Q (.int (m*n))):z0d.run [.int m,.int n] Q X:=⟨h,q⟩
def zlX (q:Q (.int (-m))):pNeg.run [.int m] Q X:=q
def zfe (h:0<n)(a:Bt 9000 n)(q:Q (.int (m / n))):z1G.run [.int m,.int n] Q X:=⟨⟨by lia,a⟩,by rw[Int.fdiv_eq_ediv_of_nonneg m (by lia)];exact q⟩
def zjP (h:0<n)(q:Q (.int (m % n))):pMod.run [.int m,.int n] Q X:=⟨by lia,by rw[Int.fmod_eq_emod_of_nonneg m (by lia)];exact q⟩
def zjO (h:CPow m n)(q:Q (.int (m ^ n.toNat))):pPow.run [.int m,.int n] Q X:=⟨h,q⟩
def o_lt (q:Q (.bl (decide (m<n)))):pLt.run [.int m,.int n] Q X:=q
def o_le (q:Q (.bl (decide (m<=n)))):pLe.run [.int m,.int n] Q X:=q
def o_gt (q:Q (.bl (decide (n<m)))):pGt.run [.int m,.int n] Q X:=q
def o_eq (q:Q (.bl (decide (m=n)))):pEq.run [.int m,.int n] Q X:=q
def o_ne (q:Q (.bl (!decide (m=n)))):pNe.run [.int m,.int n] Q X:=q
def zjX (a:Da 60 (.tup l))(b:Da 60 (.tup r))(q:Q (.bl (deq (.tup l) (.tup r)))):pEq.run [.tup l,.tup r] Q X:=⟨a,b,q⟩
def zgT (a:Da 60 (.tup l))(b:Da 60 (.tup r))(q:Q (.bl (!deq (.tup l) (.tup r)))):pNe.run [.tup l,.tup r] Q X:=⟨a,b,q⟩
def o_is (q:Q (.bl (isN d))):pIs.run [d,.non] Q X:=q
def zgU (q:Q (.bl (!isN d))):z7s.run [d,.non] Q X:=q
def zjT (q:Q (.int l.length)):pLen.run [.lst l] Q X:=q
def zjS (q:Q (.int l.length)):pLen.run [.tup l] Q X:=q
def zm2 (q:onV (atI l m) Q):pIx.run [.lst l,.int m] Q X:=q
def zm1 (q:onV (atI l m) Q):pIx.run [.tup l,.int m] Q X:=q
def zlU (h:ds.length<=sizeLine)(q:Q (.tup ds)):pTup.run ds Q X:=⟨h,q⟩
def zm0 (h:ds.length<=sizeLine)(q:Q (.lst ds)):pLst.run ds Q X:=⟨h,q⟩
def zjN (q:Q (.tup l)):z0Q.run [.lst l] Q X:=q
def zm4 (q:Q (.int (if m<0 then -m else m))):pAbs.run [.int m] Q X:=q
def zjV {k:Bool}(q:Q (.int (if k then 1 else 0))):pInt.run [.bl k] Q X:=q
def zjU (q:Q (.bl (T == "tuple"))):(pIsi T).run [.tup l] Q X:=q
def zjR (a:ns≠[])(q:∀k,k∈ns->(∀x∈ns,x<=k)->Q (.int k)):zgL.run [.lst (ns.map D.int)] Q X:=by
 show onI _ _;rw[z9t];exact⟨a,q⟩
def zjQ (q:Q (.int (if n<m then n else m))):zaa.run [.int m,.int n] Q X:=q
def zlV {ns:List Int}(q:Q (.int ns.sum)):pSum.run [.lst (ns.map D.int)] Q X:=by
 show onI _ _;rw[z9t];exact q
def zbI (h:l.length+r.length<=sizeLine)(q:Q (.lst (l++r))):pAdd.run [.lst l,.lst r] Q X:=⟨h,q⟩
def z7z (h:l.length+r.length<=sizeLine)(q:Q (.tup (l++r))):pAdd.run [.tup l,.tup r] Q X:=⟨h,q⟩
end
theorem Safe.of_noL {d:D}(a:noL d=true)(b:noD d=true):∀e:Pu.Env,Safe d e
 | []=>trivial
 | .n::r=>⟨trivial,Safe.of_noL a b r⟩
 | .s _::r=>⟨trivial,Safe.of_noL a b r⟩
 | .o x::r=>⟨by cases x <;> first | exact a | exact b | trivial,Safe.of_noL a b r⟩
def z0w {a:Pu.Env}{i:Nat}{l:List D}{K:List D->Prop}(h:a[i]? = some (B.o (.lst l)))(q:K l):ownL a i K:=by unfold ownL;rw[h];exact q
def z9c {k:Int}{K:List D->Prop}(h : -(2 ^ 62)<=k)(h':k<2 ^ 62)(q:K ((List.range k.toNat).map λ(j:Nat)=>D.int j)):onR [.int k] K:=⟨⟨h,h'⟩,q⟩
def z19 {l:List D}{k:Int}{d:D}{Q:DK}(e:atI l k=some d)(q:Q d):onV (atI l k) Q:=by rw[e];exact q
noncomputable abbrev vec (p:Int × Int):D :=.tup [.int p.1,.int p.2]
theorem z2L:∀{l:List D},(∀d∈l,noL d=true)->noLs l=true
 | [],_=>rfl
 | d::r,h=>by rw[noLs,h d wv,z2L λx a=>h x (wn _ a)];rfl
theorem z2M:∀{l:List D},(∀d∈l,noD d=true)->noDs l=true
 | [],_=>rfl
 | d::r,h=>by rw[noDs,h d wv,z2M λx a=>h x (wn _ a)];rfl
abbrev vecs (l:List (Int × Int)):D :=.tup (l.map vec)
def z17 (l:List (Int × Int)):noL (vecs l)=true:=by
 refine z2L λd a =>?_;obtain⟨p,_,rfl⟩:=we.mp a
 rfl
def z18 (l:List (Int × Int)):noD (vecs l)=true:=by
 refine z2M λd a =>?_;obtain⟨p,_,rfl⟩:=we.mp a
 rfl
def z0P {a:Type}{f:a->D}{l:List a}{k:Int}{x:a}(h:atI l k=some x):atI (l.map f) k=some (f x):=by
 unfold atI at h ⊢
 cases q:ixN l.length k with
 | none=>simp_all
 | some j=>
  simp_all
def menu {ns:List Int}{k:Int}{Q:DK}(a:0<=k)(b:k<ns.length)(q:∀v∈ns,Q (.int v)):onV (atI (ns.map D.int) k) Q:=by
 obtain⟨v,d,e⟩:=z4K a b;rw[z0P e];exact q v d
def z2W {d:Type}(f:d->D)(l:List d)(a b:Option Int):cutD (l.map f) a b=((l.drop (HT.sIx l.length 0 a)).take (HT.sIx l.length l.length b - HT.sIx l.length 0 a)).map f:=by
 unfold cutD
 simp_all
def z5y (p r:Int × Int):deq (vec p) (vec r)=decide (p=r):=by
 obtain⟨a,b⟩:=p;obtain⟨c,d⟩:=r;show PyData.eqv (.tuple [.int a,.int b]) (.tuple [.int c,.int d])=decide _;rw[eqv2,decide_eq_decide,Prod.mk.injEq]
theorem Da.vec (p:Int × Int){n:Nat}:Da (n+1) (vec p):=Da.tup.mpr λd a=>by
 simp[wm,wz,vK] at a
 rcases a with rfl | rfl <;> exact Da.int
end Pu
namespace Geo
abbrev P:=Int × Int
def Qa (a b c:P):Int:=(b.1 - a.1)*(c.2 - a.2) - (b.2 - a.2)*(c.1 - a.1)
def Lx (a b:P):Prop:=a.1<b.1\/(a.1=b.1/\a.2<b.2)
instance (a b:P):Decidable (Lx a b):=inferInstanceAs (Decidable (_\/_))
def Lx.irr:¬ Lx a a:=by unfold Lx;lia
def Lx.tr {a b c:P}(h:Lx a b)(q:Lx b c):Lx a c:=by unfold Lx at *;lia
def Lx.asym (h:Lx a b):¬ Lx b a:=by unfold Lx at *;lia
def Lx.tri (a b:P):Lx a b\/a=b\/Lx b a:=by
 obtain⟨d,e⟩:=a;obtain⟨f,g⟩:=b;unfold Lx
 grind
def Lx.ne {a b:P}(h:Lx a b):a≠b:=λz=>by subst z;exact Lx.irr h
def z7C (d:¬ Lx a b)(e:¬ Lx b a):a=b:=by
 rcases Lx.tri a b with h | h | h
 .exact absurd h d
 .exact h
 simp_all
def z3T {k m:Int}(h:0<k)(q:0<=m*k):0<=m:=by
 rcases(show m<0\/0<=m by lia) with z | z
 .have:=Int.mul_neg_of_neg_of_pos z h;lia
 .exact z
def zi3 {k m:Int}(h:0<k)(q:0<m*k):0<m:=by
 rcases(show m<=0\/0<m by lia) with z | z
 .have:=vF z (wC h);lia
 .exact z
def zfK {u1 u2 w1 w2 z1 z2:Int}(a:0<w1\/w1=0/\0<w2)(m:0<u1\/u1=0/\0<=u2)(b:0<z1\/z1=0/\0<=z2)(g:0<=u1*w2 - u2*w1)(h:0<=w1*z2 - w2*z1):0<=u1*z2 - u2*z1:=by
 rcases a with a | ⟨a,d⟩
 .refine z3T a ?_;have e:(u1*z2 - u2*z1)*w1=(u1*w2 - u2*w1)*z1+(w1*z2 - w2*z1)*u1:=by grind
  have j:=wS g (show 0<=z1 by lia);have l:=wS h (show 0<=u1 by lia);lia
 .subst a;have i:z1=0:=by
   rcases b with b | b
   .have:=w5 d b;lia
   .exact b.1
  have f:0<=z2:=by lia
  subst i;have:=wS (show 0<=u1 by lia) f;lia
def zkV {u1 u2 w1 w2 z1 z2:Int}(a:0<w1\/w1=0/\0<w2)(d:0<u1\/u1=0/\0<u2)(b:0<z1\/z1=0/\0<z2)(h:0<u1*w2 - u2*w1)(i:0<w1*z2 - w2*z1):0<u1*z2 - u2*z1:=by
 rcases a with a | ⟨a,g⟩
 .refine zi3 a ?_;have e:(u1*z2 - u2*z1)*w1=(u1*w2 - u2*w1)*z1+(w1*z2 - w2*z1)*u1:=by grind
  rcases d with d | ⟨d,f⟩
  .have j:=wS (wC h) (show 0<=z1 by lia);have l:=w5 i d;lia
  .have:=w5 f a;lia
 .subst a
  rcases b with b | ⟨b,_⟩
  .have:=w5 g b;lia
  .subst b;lia
def pops (v:P):List P->List P
 | b::a::r=>if Qa a b v<=0 then pops v (a::r) else b::a::r
 | s=>s
def z5S (S:P->Prop):List P->Prop
 | b::a::r=>(∀p,S p->0<=Qa a b p)/\Lx a b/\z5S S (a::r)
 | _=>True
def Conv:List P->Prop
 | c::b::a::r=>0<Qa a b c/\Conv (b::a::r)
 | _=>True
def z5S.tail (h:z5S S (b::r)):z5S S r:=by
 cases r with
 | nil=>trivial
 | cons a r=>exact h.2.2
def Conv.tail (h:Conv (b::r)):Conv r:=by
 match r,h with
 | [],_=>trivial
 | [_],_=>trivial
 | _::_::_,h=>exact h.2
theorem z7U {v:P}:∀{r:List P}{b a:P},z5S S (b::a::r)->Conv (b::a::r)->Lx b v->0<Qa a b v->z5S (λp=>p=v\/S p) (b::a::r)
 | [],b,a,e,g,j,h=>⟨λp f=>by
   rcases f with rfl | f
   .exact wC h
   .exact e.1 p f,e.2.1,trivial⟩
 | c::r,b,a,e,g,j,h=>by
  have i:=e.2.2.2.1;have d:=e.2.1;have m:0<Qa c a v:=by
   have l:0<Qa c a b:=g.1;have:=zkV (u1:=a.1 - c.1) (u2:=a.2 - c.2) (w1:=b.1 - a.1) (w2:=b.2 - a.2) (z1:=v.1 - b.1) (z2:=v.2 - b.2) (by unfold Lx at d;lia) (by unfold Lx at i;lia) (by unfold Lx at j;lia)
    (by unfold Qa at l;grind) (by unfold Qa at h;grind)
   unfold Qa at l ⊢
   grind
  exact⟨λp f=>by
   rcases f with rfl | f
   .exact wC h
   .exact e.1 p f,d,z7U e.2.2 g.2 (d.tr j) m⟩
theorem zbm {v:P}(w:∀p,S p->Lx p v):∀{r:List P}{b:P},(∀x∈b::r,S x)->z5S S (b::r)->Conv (b::r)->(∀p,S p->¬ Lx p b->0<=Qa b v p)->(∀z,(b::r).getLast? = some z->∀p,S p->¬ Lx p z)->
  ∃d l,pops v (b::r)=d::l/\(d::l) <:+ (b::r)/\(∀p,S p->0<=Qa d v p)/\z5S (λp=>p=v\/S p) (d::l)/\Conv (v::d::l)
 | [],b,s,j,m,t,q=>⟨b,[],rfl,List.suffix_refl _,λp i=>t p i (q b rfl p i),trivial,trivial⟩
 | a::r,b,s,j,m,t,q=>by
  have f:=j.2.1;have g:=w b (s b (by simp))
  by_cases h:Qa a b v<=0
  .have e:pops v (b::a::r)=pops v (a::r):=by rw[pops,if_pos h]
   obtain⟨d,l,y,A,C,E,F⟩:=zbm w (r:=r) (b:=a) (λx G=>s x (wn _ G)) j.tail m.tail (λp i n=>by
    have u:=j.1 p i;have:=zfK (u1:=v.1 - a.1) (u2:=v.2 - a.2) (w1:=b.1 - a.1) (w2:=b.2 - a.2) (z1:=p.1 - a.1) (z2:=p.2 - a.2) (by unfold Lx at f;lia) (by have:=f.tr g;unfold Lx at this;lia) (by unfold Lx at n;lia)
     (by unfold Qa at h;grind) (by unfold Qa at u;grind)
    unfold Qa
    grind) (λz H=>q z (by rw[jl];exact H))
   exact⟨d,l,e.trans y,A.trans (List.suffix_cons _ _),C,E,F⟩
  .have o:0<Qa a b v:=by lia
   have e:pops v (b::a::r)=b::a::r:=by rw[pops,if_neg h]
   refine⟨b,a::r,e,List.suffix_refl _,λp i =>?_,z7U j m g o,⟨o,m⟩⟩
   by_cases n:Lx p b
   .have u:=j.1 p i;have:=zfK (u1:=b.1 - p.1) (u2:=b.2 - p.2) (w1:=b.1 - a.1) (w2:=b.2 - a.2) (z1:=v.1 - b.1) (z2:=v.2 - b.2) (by unfold Lx at f;lia) (by unfold Lx at n;lia) (by unfold Lx at g;lia)
     (by unfold Qa at u;grind) (by unfold Qa at o;grind)
    unfold Qa
    grind
   .exact t p i n
structure Ok (S:P->Prop)(s:List P):Prop where
 sub:∀x∈s,S x
 desc:s.Pairwise λx y=>Lx y x
 top:∃b r,s=b::r/\∀p,S p->¬ Lx b p
 bot:∃z,s.getLast? = some z/\∀p,S p->¬ Lx p z
 edges:z5S S s
 conv:Conv s
def z59 {s t:List P}(h:(b::t) <:+ s):s.getLast? = (b::t).getLast? := by
 obtain⟨u,rfl⟩:=h;rw[List.getLast?_append]
 rfl
def Ok.push {S:P->Prop}{s:List P}{v:P}(o:Ok S s)(i:∀p,S p->Lx p v):Ok (λp=>p=v\/S p) (v::pops v s):=by
 obtain⟨b,r,rfl,h⟩:=o.top;obtain⟨z,m,f⟩:=o.bot;obtain⟨n,A,q,l,t,u,w⟩:=zbm i o.sub o.edges o.conv (λp a y=>by
  have:p=b:=z7C y (h p a);subst this;unfold Qa
  grind) (λC j=>by rw[m] at j;injection j with e;subst e;exact f)
 have d:∀x∈n::A,S x:=λx g=>o.sub x (l.subset g);rw[q];refine⟨λx g =>?_,?_,⟨v,_,rfl,λp a =>?_⟩,⟨z,?_,λp a =>?_⟩,⟨λp a =>?_,i n (d n (by simp)),u⟩,w⟩
 .rcases wm.mp g with rfl | g
  .exact .inl rfl
  .exact .inr (d x g)
 .exact vd.mpr ⟨λx g=>i x (d x g),o.desc.sublist l.sublist⟩
 .rcases a with rfl | a
  .exact Lx.irr
  .exact(i p a).asym
 .rw[jl, <- z59 l];exact m
 .rcases a with rfl | a
  .exact(i z (by rw[z59 l] at m;exact d z (List.mem_of_getLast? m))).asym
  .exact f p a
 .rcases a with rfl | a
  .unfold Qa;grind
  .exact t p a
def z2e (l:List P):List P:=l.foldl (λs v=>v::pops v s) []
def Ok.one (v:P):Ok (λp=>p=v) [v]:=⟨by simp,by simp,⟨v,[],rfl,λp a=>by subst a;exact Lx.irr⟩,⟨v,rfl,λp a=>by subst a;exact Lx.irr⟩,trivial,trivial⟩
def Ok.congr {S S':P->Prop}{s:List P}(o:Ok S s)(h:∀p,S p↔S' p):Ok S' s:=by
 have e  := funext λp=>propext (h p);subst e;exact o
theorem z9G:∀(l:List P) (S:P->Prop) (s:List P),Ok S s->(∀x∈l,∀p,S p->Lx p x)->l.Pairwise Lx->Ok (λp=>S p\/p∈l) (l.foldl (λs v=>v::pops v s) s)
 | [],S,s,o,_,_=>o.congr (by simp)
 | v::l,S,s,o,h,a=>by
  obtain⟨d,e⟩:=vd.mp a;have:=z9G l _ _ (o.push (h v (by simp))) (λx b p a=>by
   rcases a with rfl | a
   .exact d x b
   .exact h x (by simp[b]) p a) e
  refine this.congr λp =>?_;simp[wm]
  constructor
  .rintro((h | h) | h)
   .exact .inr (.inl h)
   .exact .inl h
   simp_all
  .rintro(h | h | h)
   .simp_all
   .exact .inl (.inl h)
   .exact .inr h
def z80 (e:l≠[])(a:l.Pairwise Lx):Ok (· ∈ l) (z2e l):=by
 match l,e with
 | v::l,_=>
  obtain⟨b,d⟩:=vd.mp a;have:=z9G l _ [v] (Ok.one v) (λx f p a=>by subst a;exact b x f) d;exact this.congr λp=>by simp
def ng (p:P):P:=(-p.1,-p.2)
def z48 (p:P):ng (ng p)=p:=by unfold ng;simp
def zev (a b c:P):Qa (ng a) (ng b) (ng c)=Qa a b c:=by unfold Qa ng;grind
def zam:Lx (ng a) (ng b)↔Lx b a:=by unfold Lx ng;simp;lia
theorem zbn (v:P):∀s:List P,pops (ng v) (s.map ng)=(pops v s).map ng
 | []=>rfl
 | [_]=>rfl
 | b::a::r=>by
  show (if Qa _ _ _<=0 then pops _ ((a::r).map ng) else _)=_;rw[zev,zbn v _,pops]
  by_cases h:Qa a b v<=0
  .simp_all
  .rw[if_neg h,if_neg h];rfl
theorem zcg:∀(l s:List P),(l.map ng).foldl (λs v=>v::pops v s) (s.map ng)=(l.foldl (λs v=>v::pops v s) s).map ng
 | [],_=>rfl
 | v::l,s=>by
  show (l.map ng).foldl _ (ng v::pops _ _)=_;rw[zbn];exact zcg l (v::pops v s)
def zcx (l:List P):z2e (l.map ng)=(z2e l).map ng:=zcg l []
def dot (a b p:P):Int:=(p.1 - a.1)*(b.1 - a.1)+(p.2 - a.2)*(b.2 - a.2)
structure Edge (S:P->Prop)(a b:P):Prop where
 sa:S a
 sb:S b
 ne:a≠b
 left:∀p,S p->0<=Qa a b p
 btw:∀p,S p->Qa a b p=0->0<=dot a b p/\0<=dot b a p
theorem Edge.ng (e:Edge (λp=>S (Geo.ng p)) a b):Edge S (Geo.ng a) (Geo.ng b):=by
 refine⟨e.sa,e.sb,λz=>e.ne (by have:=congrArg Geo.ng z;rwa [z48,z48] at this),λp d =>?_,λp d h =>?_⟩
 .have:=e.left _ (by rw[z48];exact d);rw[<- zev,z48] at this;exact this
 .have:=e.btw _ (by rw[z48];exact d) (by rw[<- zev,z48];exact h);unfold dot Geo.ng at*
  grind
def zhn (a b c:P):Qa a c b = -Qa a b c:=by unfold Qa;grind
def z0g (x:Int):0<=x*x:=by
 rcases(show x<=0\/0<=x by lia) with h | h
 .exact v3 h h
 .exact wS h h
def z3E {x y:Int}(h:x*x+y*y=0):x=0/\y=0:=by
 have d:=z0g x;have e:=z0g y;have a:x*x=0:=by omega
 have b:y*y=0:=by omega
 constructor
 .rcases wM.mp a with z | z <;> exact z
 .rcases wM.mp b with z | z <;> exact z
def Edge.det {a b c:P}(e:Edge S a b)(f:Edge S a c):b=c:=by
 have h1:=e.left c f.sb;have h2:=f.left b e.sb;have N:=zhn a b c;have q:Qa a b c=0:=by lia
 have r:Qa a c b=0:=by lia
 have u:=e.btw c f.sb q;have w:=f.btw b e.sb r;have a0:=e.ne;have a3:=f.ne;obtain⟨m,n⟩:=a;obtain⟨d,g⟩:=b;obtain⟨i,j⟩:=c;unfold Qa at q;unfold dot at u w;simp only[ne_eq,Prod.mk.injEq] at*;obtain⟨a4,s⟩:=u;obtain⟨a5,l⟩:=w;have U:(d - i)*(d - i)+(g - j)*(g - j)=0:=by
  generalize O:d - m=u1 at*;generalize Q:g - n=u2 at*;generalize R:i - m=w1 at*;generalize T:j - n=w2 at*;have y:d - i=u1 - w1:=by lia
  have G:g - j=u2 - w2:=by lia
  have H:i - d=w1 - u1:=by lia
  have I:j - g=w2 - u2:=by lia
  have J:m - d = -u1:=by lia
  have K:n - g = -u2:=by lia
  have L:m - i = -w1:=by lia
  have M:n - j = -w2:=by lia
  rw[y,G] at l ⊢;rw[H,I,J,K] at s;rw[L,M] at l;have A:0<=(u1*u1+u2*u2) - (u1*w1+u2*w2):=by grind
  have B:0<=(w1*w1+w2*w2) - (u1*w1+u2*w2):=by grind
  have C:(u1*u1+u2*u2)*(w1*w1+w2*w2)=(u1*w1+u2*w2)*(u1*w1+u2*w2):=by
   have:(u1*u1+u2*u2)*(w1*w1+w2*w2)=(u1*w1+u2*w2)*(u1*w1+u2*w2)+(u1*w2 - u2*w1)*(u1*w2 - u2*w1):=by grind
   rw[this,q];lia
  have D:0<=u1*w1+u2*w2:=by grind
  have PX:0<u1*u1+u2*u2:=by
   have W:=z0g u1;have n2:=z0g u2
   rcases(show u1*u1+u2*u2=0\/0<u1*u1+u2*u2 by lia) with z | z
   .have:=z3E z;lia
   .exact z
  have PY:0<w1*w1+w2*w2:=by
   have W:=z0g w1;have n2:=z0g w2
   rcases(show w1*w1+w2*w2=0\/0<w1*w1+w2*w2 by lia) with z | z
   .have:=z3E z;lia
   .exact z
  have E:(u1 - w1)*(u1 - w1)+(u2 - w2)*(u2 - w2)=((u1*u1+u2*u2) - (u1*w1+u2*w2))+((w1*w1+w2*w2) - (u1*w1+u2*w2)):=by grind
  rw[E];generalize u1*u1+u2*u2=X at*;generalize w1*w1+w2*w2=Y at*;generalize u1*w1+u2*w2=Z at*;have F:(X - Z)*Y+Z*(Y - Z)=0:=by grind
  have G1:=wS A (show 0<=Y by lia);have G2:=wS D B;have x:(X - Z)*Y=0:=by omega
  have t:Z*(Y - Z)=0:=by omega
  rcases wM.mp x with h | h
  .rcases wM.mp t with o | o
   .have:X*Y=0:=by rw[C,o];rfl
    rcases wM.mp this with p | p <;> lia
   .lia
  .rcases wM.mp t with o | o <;> lia
 have:=z3E U;lia
def Path (R:P->P->Prop):List P->Prop
 | a::b::r=>R a b/\Path R (b::r)
 | _=>True
theorem Path.join {t:List P}:∀{A:List P},Path R (A++[M])->Path R (M::t)->Path R (A++M::t)
 | [],_,h=>h
 | [a],h,q=>⟨h.1,q⟩
 | a::b::A,h,q=>⟨h.1,Path.join (A:=b::A) h.2 q⟩
def Path.snoc (h:Path R (A++[a]))(q:R a b):Path R (A++[a,b]):=Path.join h ⟨q,trivial⟩
theorem Path.rev:∀{l:List P},Path (λx y=>R y x) l->Path R l.reverse
 | [],_=>trivial
 | [_],_=>trivial
 | a::b::r,h=>by
  have:=Path.rev h.2;rw[uA] at this ⊢;rw[uA];rw[vS];exact Path.snoc this h.1
theorem Path.imp {R R':P->P->Prop}(i:∀a b,R a b->R' a b):∀{l:List P},Path R l->Path R' l
 | [],_=>trivial
 | [_],_=>trivial
 | _::_::_,h=>⟨i _ _ h.1,Path.imp i h.2⟩
theorem Path.map {R:P->P->Prop}{f:P->P}:∀{l:List P},Path (λa b=>R (f a) (f b)) l->Path R (l.map f)
 | [],_=>trivial
 | [_],_=>trivial
 | _::b::r,h=>⟨h.1,Path.map h.2⟩
def zff (h:Lx a b)(q:¬ Lx b p)(z:Qa a b p=0):0<=dot b a p:=by
 unfold Lx at h q;unfold Qa at z;unfold dot;have e:(p.1 - b.1)*(a.1 - b.1)+(p.2 - b.2)*(a.2 - b.2)=(b.1 - a.1)*(b.1 - p.1)+(b.2 - a.2)*(b.2 - p.2):=by grind
 rw[e];have u:(b.1 - a.1)*(b.2 - p.2)=(b.2 - a.2)*(b.1 - p.1):=by grind
 generalize m:b.1 - a.1=d at*;generalize n:b.2 - a.2=f at*;generalize o:b.1 - p.1=i at*;generalize r:b.2 - p.2=j at*
 rcases(show 0<d\/d=0/\0<f by lia) with g | ⟨g,l⟩
 .refine z3T g ?_;have:(d*i+f*j)*d=i*(d*d+f*f):=by grind
  rw[this];have s:=z0g d;have t:=z0g f;exact wS (by lia) (by lia)
 .subst g;have:f*i=0:=by lia
  rcases wM.mp this with z | z
  .lia
  .subst z;have:=wS (wC l) (show 0<=j by lia);lia
def zgZ (h:Lx a b)(q:¬ Lx p a)(z:Qa a b p=0):0<=dot a b p:=by
 have:=zff (zam.mpr h) (λy=>q (zam.mp y)) (by rw[zev];unfold Qa at *;grind);unfold dot ng at*;dsimp only at this
 grind
def zbL {a b c p:P}(h:0<Qa a b c)(q:0<=Qa b c p)(z:Qa a b p=0):0<=dot b a p:=by
 unfold Qa at h q z;unfold dot;have l:(p.1 - b.1)*(a.1 - b.1)+(p.2 - b.2)*(a.2 - b.2) = -((p.1 - b.1)*(b.1 - a.1)+(p.2 - b.2)*(b.2 - a.2)):=by grind
 rw[l];have m:0<(b.1 - a.1)*(c.2 - b.2) - (b.2 - a.2)*(c.1 - b.1):=by grind
 have n:(b.1 - a.1)*(p.2 - b.2) - (b.2 - a.2)*(p.1 - b.1)=0:=by grind
 generalize b.1 - a.1=d at*;generalize b.2 - a.2=e at*;generalize c.1 - b.1=f at*;generalize c.2 - b.2=g at*;generalize p.1 - b.1=i at*;generalize p.2 - b.2=j at*;refine z3T m ?_;have : -(i*d+j*e)*(d*g - e*f)=(f*j - g*i)*(d*d+e*e) - (d*j - e*i)*(f*d+g*e):=by grind
 rw[this,n,uE,Int.sub_zero];have o:=z0g d;have r:=z0g e;exact wS q (by lia)
def z9n (h:0<Qa y a b)(q:0<=Qa y a p)(z:Qa a b p=0):0<=dot a b p:=by
 unfold Qa at h q z;unfold dot;have l:0<(a.1 - y.1)*(b.2 - a.2) - (a.2 - y.2)*(b.1 - a.1):=by grind
 have m:0<=(a.1 - y.1)*(p.2 - a.2) - (a.2 - y.2)*(p.1 - a.1):=by grind
 generalize b.1 - a.1=d at*;generalize b.2 - a.2=e at*;generalize a.1 - y.1=f at*;generalize a.2 - y.2=g at*;generalize p.1 - a.1=i at*;generalize p.2 - a.2=j at*;refine z3T l ?_;have:(i*d+j*e)*(f*e - g*d)=(f*j - g*i)*(d*d+e*e) - (d*j - e*i)*(f*d+g*e):=by grind
 rw[this,z,uE,Int.sub_zero];have n:=z0g d;have o:=z0g e;exact wS m (by lia)
theorem z68:∀{r:List P}{b a:P},(∀x∈b::a::r,S x)->z5S S (b::a::r)->Conv (b::a::r)->(∀z,(b::a::r).getLast? = some z->∀p,S p->¬ Lx p z)->(∀p,S p->Qa a b p=0->0<=dot b a p)->Path (λx y=>Edge S y x) (b::a::r)
 | [],b,a,f,d,g,h,i=>⟨⟨f a (by simp),f b (by simp),d.2.1.ne,d.1,λp e z=>⟨zgZ d.2.1 (h a rfl p e) z,i p e z⟩⟩,trivial⟩
 | y::r,b,a,f,d,g,h,i=>by
  refine⟨⟨f a (by simp),f b (by simp),d.2.1.ne,d.1,λp e z=>⟨z9n g.1 (d.2.2.1 p e) z,i p e z⟩⟩,?_⟩;exact z68 (λx j=>f x (wn _ j)) d.2.2 g.2 (λz l=>h z (by simp_all)) λp e z=>zbL g.1 (d.1 p e) z
def Ok.path (o:Ok S s):Path (Edge S) s.reverse:=by
 refine Path.rev ?_;obtain⟨b,r,rfl,h⟩:=o.top;obtain⟨z,i,f⟩:=o.bot
 cases r with
 | nil=>trivial
 | cons a r=>exact z68 o.sub o.edges o.conv (λj d=>by rw[i] at d;injection d with e;subst e;exact f) λp g z=>zff o.edges.2.1 (h p g) z
def hull (l:List P):List P:=if l.length<=1 then l else (z2e l).reverse.dropLast++(z2e l.reverse).reverse.dropLast
structure z04 (S:P->Prop)(h:List P):Prop where
 ex:∃m t,h=m::t/\S m/\(∀p,S p->¬ Lx p m)/\m ∉ t/\((t=[]/\∀p,S p->p=m)\/(t≠[]/\Path (Edge S) (m::t++[m])))
theorem z3B (det:∀a b c,R a b->R a c->b=c):∀{t t':List P}{a:P},m ∉ t->m ∉ t'->Path R (a::t++[m])->Path R (a::t'++[m])->t=t'
 | [],[],_,_,_,_,_=>rfl
 | [],b::t',a,_,h,p,q=>by
  have  := det a b m q.1 p.1
  simp_all
 | b::t,[],a,h,_,p,q=>by
  have  := det a b m p.1 q.1
  simp_all
 | b::t,c::t',a,h,d,p,q=>by
  have e  := det a b c p.1 q.1;subst e;rw[z3B det (λz=>h (by simp[z])) (λz=>d (by simp[z])) p.2 q.2]
def z04.unique {S:P->Prop}{h h':List P}(x:z04 S h)(y:z04 S h'):h=h':=by
 obtain⟨m,t,rfl,E,z,C,e⟩:=x.ex;obtain⟨A,F,rfl,n,j,l,o⟩:=y.ex;have r  := z7C (j m E) (z A n);subst r;have one:∀{u:List P},u≠[]->Path (Edge S) (m::u++[m])->(∀p,S p->p=m)->False:=λ{u} w i f=>by
  match u,w with
  | b::u,_=>
   have e  := i.1;exact e.ne (f b e.sb).symm
 rcases e with ⟨rfl,f⟩ | ⟨s,i⟩
 .rcases o with ⟨rfl,_⟩ | ⟨g,d⟩
  .rfl
  .exact(one g d f).elim
 .rcases o with ⟨rfl,f⟩ | ⟨g,d⟩
  .exact(one s i f).elim
  .rw[z3B (R:=Edge S) (λa b c p q=>Edge.det p q) C l i d]
def z2Z (h:s.getLast? = some z):s.dropLast++[z]=s:=by
 have a:s≠[]:=λe=>by simp_all
 have e  := by
  rw[List.getLast?_eq_some_getLast a] at h;exact wY h
 rw[<- e];exact List.dropLast_concat_getLast a
def zhJ {l:List P}(b:2<=l.length)(a:l.Pairwise Lx):∃x y,x∈l/\y∈l/\Lx x y:=by
 match l,b,a with
 | x::y::r,_,a=>exact⟨x,y,by simp,by simp,(vd.mp a).1 y (by simp)⟩
def z64 {l:List P}(O:2<=l.length)(w:l.Pairwise Lx):∃m M A B,hull l=m::A++M::B/\m∈l/\M∈l/\Lx m M/\(∀p∈l,¬ Lx p m)/\(∀p∈l,¬ Lx M p)/\
  (m::A++[M]).Pairwise Lx/\(M::B++[m]).Pairwise (λx y=>Lx y x)/\Path (Edge (· ∈ l)) (m::A++[M])/\Path (Edge (· ∈ l)) (M::B++[m]):=by
 have F:l≠[]:=λz=>by rw[z] at O;simp at O
 have E:=z80 F w;have Q:(l.reverse.map ng).Pairwise Lx:=by
  rw[wZ,List.pairwise_reverse];exact w.imp λh=>zam.mpr h
 have s:=z80 (l:=l.reverse.map ng) (by simpa using F) Q;rw[zcx] at s;have d:∀p,p∈l.reverse.map ng↔ng p∈l:=λp=>by
  simp only[we,List.mem_reverse]
  constructor
  .rintro⟨q,Z,rfl⟩;rw[z48];exact Z
  .intro h;exact⟨ng p,h,z48 p⟩
 obtain⟨M,r1,U,G⟩:=E.top;obtain⟨m,t,i⟩:=E.bot;obtain⟨g,r2,J,t2⟩:=s.top;obtain⟨C,u,I⟩:=s.bot;have T:M∈l:=E.sub M (by rw[U];simp);have S:m∈l:=E.sub m (List.mem_of_getLast? t);have H:ng g∈l:=(d g).mp (s.sub g (by rw[J];simp));have R:ng C∈l:=(d C).mp (s.sub C (List.mem_of_getLast? u));have j:ng g=m:=by
  refine z7C (i _ H) λz =>?_;have:=t2 (ng m) ((d _).mpr (by rw[z48];exact S));exact this (by rw[<- z48 g];exact zam.mpr z)
 have o:ng C=M:=by
  refine z7C (λz =>?_) (G _ R);have:=I (ng M) ((d _).mpr (by rw[z48];exact T));exact this (by rw[<- z48 C];exact zam.mpr z)
 have n:Lx m M:=by
  rcases Lx.tri m M with h | h | h
  .exact h
  .exfalso
   subst h;have all:∀p∈l,p=m:=λp w=>z7C (i p w) (G p w);obtain⟨x,y,hx,hy,this⟩:=zhJ O w;rw[all x hx,all y hy] at this;exact Lx.irr this
  .exact absurd h (G m S)
 have there:∃A,(z2e l).reverse=m::A++[M]:=by
  rw[U] at t ⊢
  cases r1 with
  | nil=>simp at t;exact absurd (t ▸ n) Lx.irr
  | cons c r=>
   rw[jl] at t;refine⟨(c::r).dropLast.reverse,?_⟩;rw[uA, <- z2Z t];simp
 obtain⟨A,K⟩:=there;have N:z2e l.reverse=(g::r2).map ng:=by
  have:((z2e l.reverse).map ng).map ng=(g::r2).map ng:=by rw[J]
  rw[wP] at this;simpa[Function.comp_def,z48] using this
 have back:∃B,(z2e l.reverse).reverse=M::B++[m]:=by
  rw[J] at u;rw[N]
  cases r2 with
  | nil=>
   simp at u;rw[u] at j;rw[j] at o;exact absurd (o ▸ n) Lx.irr
  | cons c r=>
   rw[jl] at u;refine⟨((c::r).dropLast.map ng).reverse,?_⟩;have:(c::r)=(c::r).dropLast++[C]:=(z2Z u).symm;rw[wI,uA,j,this,wA];simp[o]
 obtain⟨B,L⟩:=back;refine⟨m,M,A,B,?_,S,T,n,i,G,?_,?_,?_,?_⟩
 .unfold hull;rw[if_neg (by lia),K,L,List.dropLast_concat,List.dropLast_concat]
 .rw[<- K,List.pairwise_reverse];exact E.desc
 .rw[<- L,List.pairwise_reverse];have q:=s.desc;rw[wZ] at q;exact q.imp λh=>zam.mp h
 .rw[<- K];exact E.path
 .rw[<- L];have q:=s.path;rw[<- List.map_reverse] at q;have Y:Path (λa b=>Edge (· ∈ l) (ng a) (ng b)) ((z2e l.reverse).map ng).reverse:=by
   rw[<- List.map_reverse];refine Path.imp (λa b e =>?_) q;refine Edge.ng ?_;have X:(λp=>ng p∈l)=(λp=>p∈l.reverse.map ng):=funext λp=>propext (d p).symm;rw[X];exact e
  have W:=Path.map (f:=ng) Y;rw[List.map_reverse,wP] at W;simpa[Function.comp_def,z48] using W
def zhe (h:l≠[])(b:l.Pairwise Lx):z04 (· ∈ l) (hull l):=by
 by_cases f:l.length<=1
 .match l,h,f with
  | [x],_,_=>exact⟨x,[],rfl,by simp,λp b=>by rw[wg.mp b];exact Lx.irr,by simp,.inl ⟨rfl,λp b=>wg.mp b⟩⟩
 .obtain⟨m,M,A,B,e,i,q,g,a,d,j,r,n,o⟩:=z64 (by lia) b;refine⟨m,A++M::B,e,i,a,λz =>?_,.inr ⟨by simp,?_⟩⟩
  .rcases wB.mp z with z | z
   .exact Lx.irr ((vd.mp j).1 m (by simp[z]))
   grind
  .have:m::(A++M::B)++[m]=(m::A)++M::(B++[m]):=by simp
   rw[this];exact Path.join n o
end Geo
open Geo
namespace Lcg
def orb (x:Nat):Nat->Nat
 | 0=>x
 | n+1=>orb x n*5+1
theorem z8q (x m:Nat):∀n,orb x (m+n)=orb (orb x m) n
 | 0=>rfl
 | n+1=>congrArg (· * 5+1) (z8q x m n)
theorem zbA:∀k:Nat,∃c d,∀y,orb y (2 ^ k)=y+2 ^ k*(2*d+1+4*c*y)
 | 0=>⟨1,0,λy=>by show y*5+1=_;lia⟩
 | k+1=>by
  obtain⟨c,d,h⟩:=zbA k;exact⟨c+2*c*c*2 ^ k,d+(2*d+1)*c*2 ^ k,λy=>by
   rw[Nat.pow_succ,Nat.mul_two,z8q,h,h]
   grind⟩
theorem zbB (x e:Nat):∀k,∃n,n<2 ^ k/\orb x n % 2 ^ k=e % 2 ^ k
 | 0=>⟨0,by decide,by lia⟩
 | k+1=>by
  obtain⟨n,h,g⟩:=zbB x e k;obtain⟨c,d,t⟩:=zbA k;simp[Nat.pow_succ,Nat.mod_mul]
  by_cases q:orb x n / 2 ^ k % 2=e / 2 ^ k % 2
  .exact⟨n,by lia,by rw[g,q]⟩
  .refine⟨n+2 ^ k,by lia,?_⟩;rw[z8q,t,Nat.add_mul_mod_self_left,Nat.add_mul_div_left _ _ (Nat.two_pow_pos k)]
   congr 2
   lia
end Lcg
namespace Tab
open PySem PySem.SetTable
theorem z70 (xs:Array Nat)(j:Nat)(m:∀a b,a<b->b<xs.size->xs.getD a 0<xs.getD b 0):∀fuel d hi,hi<=xs.size->hi - d<=fuel->d<=hi->(∀i,i<d->xs.getD i 0<j)->(∀i,hi<=i->i<xs.size->j<=xs.getD i 0)->
  below.go xs j fuel d hi<=xs.size/\(∀i,i<below.go xs j fuel d hi->xs.getD i 0<j)/\(∀i,below.go xs j fuel d hi<=i->i<xs.size->j<=xs.getD i 0)
 | 0,d,hi,g,r,s,h,l=>by
  have:d=hi:=by lia
  subst this;exact⟨g,h,l⟩
 | fuel+1,d,hi,g,r,s,h,l=>by
  rw[below.go]
  by_cases f:d<hi
  .rw[if_pos f];have q:(d+hi) / 2<xs.size:=by lia
   have e:xs.getD ((d+hi) / 2) j=xs.getD ((d+hi) / 2) 0:=by simp[Array.getD,q]
   dsimp only;rw[e]
   by_cases p:xs.getD ((d+hi) / 2) 0<j
   .rw[if_pos p];refine z70 xs j m fuel _ hi g (by lia) (by lia) (λi n =>?_) l
    rcases wW i ((d+hi) / 2) with z | z
    .have:=m i _ z q;lia
    .have:i=(d+hi) / 2:=by lia
     subst this;exact p
   .rw[if_neg p];refine z70 xs j m fuel d _ (by lia) (by lia) (by lia) h (λi n o =>?_)
    rcases wW ((d+hi) / 2) i with z | z
    .have:=m _ i z o;lia
    .have:i=(d+hi) / 2:=by lia
     subst this;lia
  .rw[if_neg f];have:d=hi:=by lia
   subst this;exact⟨g,h,l⟩
abbrev Rise (xs:Array Nat):Prop:=∀a b,a<b->b<xs.size->xs.getD a 0<xs.getD b 0
def z4B {xs:Array Nat}(b:Rise xs)(j:Nat):below xs j<=xs.size/\(∀i,i<below xs j->xs.getD i 0<j)/\(∀i,below xs j<=i->i<xs.size->j<=xs.getD i 0):=
 z70 xs j b _ 0 _ (wt _) (by lia) (vG _) (λ_ h=>absurd h (jy _)) (λi a d=>absurd a (by lia))
def zhh {xs:Array Nat}{i j:Nat}(h:xs[i]? = some j):i<xs.size/\xs.getD i 0=j:=by
 obtain⟨a,e⟩:=Array.getElem?_eq_some_iff.mp h
 simp_all
def zmx {xs:Array Nat}{i:Nat}(h:i<xs.size):xs[i]? = some (xs.getD i 0):=by simp_all
def zeC {xs:Array Nat}(a:Rise xs){i j:Nat}(h:xs[i]? = some j):below xs j=i:=by
 obtain⟨g,b,d⟩:=z4B a j;obtain⟨f,e⟩:=zhh h
 rcases ur (below xs j) i with z | z | z
 .have:=d _ (wt _) (by lia);have:=a _ _ z f;lia
 .exact z
 .have:=b i z;lia
def z77 {t:SetTable}(a:Rise t.place){i j:Nat}(h:t.place[i]? = some j):t.slot j = .live i:=by
 unfold SetTable.slot;rw[zeC a h]
 simp_all
def z9W {t:SetTable}(a:t.dummies = #[]){j:Nat}(h:∀i:Nat,t.place[i]? ≠ some j):t.slot j = .empty:=by
 unfold SetTable.slot;have b:(t.place[below t.place j]? == some j)=false:=by
  simp_all
 have d:has t.dummies j=false:=by rw[a];rfl
 simp_all
noncomputable def adv (mask:Nat)(p:Probe):Probe:=
 if p.more > 0 then { p with j:=p.j+1,more:=p.more - 1 } else
 { p with j:=(leap mask p.i p.perturb).1,more:=runEnd mask (leap mask p.i p.perturb).1 - (leap mask p.i p.perturb).1,i:=(leap mask p.i p.perturb).1,perturb:=(leap mask p.i p.perturb).2 }
def advs (mask:Nat)(p:Probe):Nat->Probe
 | 0=>p
 | n+1=>adv mask (advs mask p n)
theorem z2s (mask:Nat)(p:Probe)(m:Nat):∀n,advs mask p (m+n)=advs mask (advs mask p m) n
 | 0=>rfl
 | n+1=>congrArg _ (z2s _ p m n)
def z4i (mask:Nat)(p:Probe)(n:Nat):advs mask p (n+1)=advs mask (adv mask p) n:=by
 rw[Nat.add_comm,z2s]
 rfl
def z8b (mask:Nat)(p:Probe):(adv mask p).dummy=p.dummy:=by
 unfold adv;split <;> rfl
theorem z6b (mask:Nat)(p:Probe):∀n,(advs mask p n).dummy=p.dummy
 | 0=>rfl
 | n+1=>by rw[advs,z8b,z6b _ p n]
theorem z72 (mask:Nat):∀p n,n<=p.more->advs mask p n={ p with j:=p.j+n,more:=p.more - n }
 | p,0,_=>rfl
 | p,n+1,h=>by
  rw[advs,z72 _ p n (by lia)];unfold adv
  grind
def z6p (mask i:Nat):runEnd mask i - i<=9:=by unfold runEnd;split <;> lia
def lp (mask:Nat)(i q:Nat):Nat->Nat × Nat
 | 0=>(i,q)
 | c+1=>leap mask (lp mask i q c).1 (lp mask i q c).2
theorem zbT (mask:Nat)(i q:Nat):∀c,lp mask i q (c+1)=lp mask (leap mask i q).1 (leap mask i q).2 c
 | 0=>rfl
 | c+1=>by
  show leap _ _ _=_;rw[zbT _ i q c]
  rfl
def z3r (mask:Nat)(p:Probe):advs mask p (p.more+1)={ p with j:=(leap mask p.i p.perturb).1,more:=runEnd mask (leap mask p.i p.perturb).1 - (leap mask p.i p.perturb).1,i:=(leap mask p.i p.perturb).1,perturb:=(leap mask p.i p.perturb).2 }:=by
 rw[advs,z72 _ p _ (wt _)];unfold adv
 grind
theorem runs (mask:Nat):∀c p,p.more<=9->∃s,s<=10*(c+1)/\(advs mask p s).j=(lp mask p.i p.perturb (c+1)).1/\(advs mask p s).i=(lp mask p.i p.perturb (c+1)).1/\(advs mask p s).perturb=(lp mask p.i p.perturb (c+1)).2/\(advs mask p s).more<=9
 | 0,p,h=>⟨p.more+1,by lia,by rw[z3r];rfl,by rw[z3r];rfl,by rw[z3r];rfl,by rw[z3r];exact z6p _ _⟩
 | c+1,p,h=>by
  obtain⟨s,d,e,a,b,f⟩:=runs mask c p h;refine⟨s+((advs mask p s).more+1),by lia,?_⟩;rw[z2s,z3r];refine⟨?_,?_,?_,z6p _ _⟩
  .rw[a,b];rfl
  .rw[a,b];rfl
  .rw[a,b];rfl
theorem z4w (mask i q:Nat):∀c,(lp mask i q c).2=q / 32 ^ c
 | 0=>by simp[lp]
 | c+1=>by
  show (lp _ i q c).2 / 32=_;rw[z4w _ i q c,Nat.div_div_eq_div_mul,Nat.pow_succ]
theorem zfj {mask i q:Nat}(a:q=0):∀c:Nat,(lp mask i q c).1 % (mask+1)=Lcg.orb i c % (mask+1)
 | 0=>rfl
 | c+1=>by
  show ((lp _ i q c).1*5+1+(lp _ i q c).2 / 32) % (mask+1) % _=(_*5+1) % _;rw[z4w,a,Nat.zero_div,Nat.add_zero,Nat.mod_mod,Nat.add_mod,Nat.mul_mod, <- a,zfj a c, <- Nat.mul_mod, <- Nat.add_mod]
theorem zfk (mask i q m:Nat):∀n,lp mask i q (m+n)=lp mask (lp mask i q m).1 (lp mask i q m).2 n
 | 0=>rfl
 | n+1=>by
  show leap _ (lp _ i q (m+n)).1 (lp _ i q (m+n)).2=_;rw[zfk _ i q m n]
  rfl
def zeV {k mask i q e:Nat}(f:mask+1=2 ^ k)(j:q<2 ^ 64)(m:e<=mask):∃c,c<=13+mask/\13<=c/\(lp mask i q c).1=e:=by
 have b:(lp mask i q 13).2=0:=by
  rw[z4w];exact Nat.div_eq_of_lt (wL j (by decide))
 obtain⟨d,l,h⟩:=Lcg.zbB _ e k;refine⟨13+d,by lia,by lia,?_⟩;have g := @zfj mask (lp mask i q 13).1 _ b d;rw[f,h, <- f, <- zfk,Nat.add_comm,wV (a:=e) (by lia)] at g;rw[Nat.add_comm, <- g];exact(wV (je _ (by lia))).symm
def zaT {k mask e:Nat}(g:mask+1=2 ^ k)(i:p.perturb<2 ^ 64)(h:p.more<=9)(f:e<=mask):∃s,s<10*turns mask/\(advs mask p s).j=e:=by
 obtain⟨c,m,n,d⟩:=zeV g i f;obtain⟨a,rfl⟩:∃a,c=a+1:=⟨c - 1,by lia⟩
 obtain⟨s,l,b,_⟩:=runs _ a p h;exact⟨s,by unfold turns;lia,b.trans d⟩
def zkO {mask:Nat}(a:p.perturb<2 ^ 64)(b:p.more<=9):(adv mask p).perturb<2 ^ 64/\(adv mask p).more<=9:=by
 unfold adv
 split
 .exact⟨a,by lia⟩
 .exact⟨Nat.lt_of_le_of_lt (Nat.div_le_self _ _) a,z6p _ _⟩
theorem z8V {mask:Nat}(b:p.perturb<2 ^ 64)(a:p.more<=9):∀n,(advs mask p n).perturb<2 ^ 64/\(advs mask p n).more<=9
 | 0=>⟨b,a⟩
 | n+1=>zkO (z8V b a n).1 (z8V b a n).2
def z3Q (t:SetTable)(h:Int):(t.probeStart h).perturb<2 ^ 64/\(t.probeStart h).more<=9:=by
 refine⟨?_,z6p _ _⟩;show (h % (2 ^ 64)).toNat<2 ^ 64
 grind
theorem z9d {t:SetTable}(n:t.dummies = #[])(u:Rise t.place)(a:Nat->Int)(h:Int):∀fuel p,(∃s,s<fuel/\∀i:Nat,t.place[i]? ≠ some (advs t.mask p s).j)->
  ∃s,(∀m,m<s->∃i,t.place[i]? = some (advs t.mask p m).j/\a i≠h)/\
   (((∀i:Nat,t.place[i]? ≠ some (advs t.mask p s).j)/\probe.go t a h fuel p=some (.empty (advs t.mask p s).j p.dummy))\/
    ∃i,t.place[i]? = some (advs t.mask p s).j/\a i=h/\probe.go t a h fuel p=some (.candidate (advs t.mask p s).j i (advs t.mask p (s+1))))
 | 0,p,⟨s,w,_⟩=>absurd w (jy _)
 | fuel+1,p,⟨s,w,f⟩=>by
  by_cases o:∃i:Nat,t.place[i]? = some p.j
  .obtain⟨i,d⟩:=o;have l:probe.go t a h (fuel+1) p=if a i == h then some (.candidate p.j i (t.advance p)) else probe.go t a h fuel (t.advance p):=by
    rw[probe.go,z77 u d]
   by_cases b:a i=h
   .refine⟨0,λm e=>absurd e (jy _),.inr ⟨i,d,b,?_⟩⟩;rw[l,if_pos (by simpa using b)]
    rfl
   .have A:s≠0:=λz=>by subst z;exact f i d
    obtain⟨g,rfl⟩:∃g,s=g+1:=⟨s - 1,by lia⟩
    rw[z4i] at f;obtain⟨r,x,y⟩:=z9d n u a h fuel (adv t.mask p) ⟨g,by lia,f⟩;refine⟨r+1,λm e =>?_,?_⟩
    .cases m with
     | zero=>exact⟨i,d,b⟩
     | succ m=>rw[z4i];exact x m (by lia)
    .rw[l,if_neg (by simpa using b),z4i,z4i, <- z8b t.mask p];exact y
  .have q:∀i:Nat,t.place[i]? ≠ some p.j:=λi z=>o ⟨i,z⟩;refine⟨0,λm e=>absurd e (jy _),.inl ⟨q,?_⟩⟩;rw[probe.go,z9W n q]
   rfl
theorem z2K:∀{l l':List Nat},l.Nodup->(∀x∈l,x∈l')->l.length<=l'.length
 | [],_,_,_=>vG _
 | a::l,l',h,f=>by
  obtain⟨d,e⟩:=vf.mp h;have:=z2K e λx b=>(List.mem_erase_of_ne (λ(z:x=a)=>d (z ▸ b))).mpr (f x (by simp[b]))
  grind
theorem z3Z:∀{l l':List Nat},l.Nodup->l'.Nodup->(∀x,x∈l↔x∈l')->l.Perm l'
 | [],l',_,_,h=>by
  cases l' with
  | nil=>rfl
  | cons b l'=>exact absurd ((h b).mpr (by simp)) (by simp)
 | a::l,l',d,e,h=>by
  obtain⟨i,g⟩:=vf.mp d;have f  := (h a).mp (by simp);have p:=z3Z g (e.erase a) λx=>by
   grind
  exact(List.Perm.cons a p).trans (List.perm_cons_erase f).symm
variable {α:Type}
abbrev Rw (α:Type):=Nat × Int × α
def zaB (mask:Nat)(occ:Nat->Prop)(h:Int)(j:Nat):Prop:=∃n,(advs mask (probeStart { mask:=mask,place := #[],dummies := #[],finger:=0,led:=true,moves:=0,plain:=true } h) n).j=j/\∀m,m<n->occ (advs mask (probeStart { mask:=mask,place := #[],dummies := #[],finger:=0,led:=true,moves:=0,plain:=true } h) m).j
abbrev st0 (mask:Nat)(h:Int):Probe:=probeStart { mask:=mask,place := #[],dummies := #[],finger:=0,led:=true,moves:=0,plain:=true } h
def zaB.mono {mask:Nat}{occ b:Nat->Prop}{h:Int}{j:Nat}(x:zaB mask occ h j)(i:∀a,occ a->b a):zaB mask b h j:=by
 obtain⟨n,d,e⟩:=x;exact⟨n,d,λm f=>i _ (e m f)⟩
structure TabW (t:SetTable)(es:Array (Int × α))(L:List (Rw α)):Prop where
 place:t.place=(L.map (·.1)).toArray
 es:es=(L.map (·.2)).toArray
 rise:L.Pairwise λa b=>a.1<b.1
 le:∀r∈L,r.1<=t.mask
 dum:t.dummies = #[]
 pow:∃k,3<=k/\t.mask+1=2 ^ k
 reach:∀r∈L,zaB t.mask (λj=>∃r'∈L,r'.1=j) r.2.1 r.1
def TabW.occ {t:SetTable}{es:Array (Int × α)}{L:List (Rw α)}(w:TabW t es L){j:Nat}:(∃i:Nat,t.place[i]? = some j)↔∃r∈L,r.1=j:=by
 rw[w.place]
 constructor
 .rintro⟨i,h⟩;have b:(L.map (·.1))[i]? = some j:=by simpa using h
  obtain⟨r,a,e⟩:=we.mp (ww b);exact⟨r,a,e⟩
 .rintro⟨r,a,rfl⟩;obtain⟨i,d,e⟩:=vi.mp a;exact⟨i,by simp[d,e]⟩
def TabW.riseP {t:SetTable}{es:Array (Int × α)}{L:List (Rw α)}(w:TabW t es L):Rise t.place:=by
 rw[w.place];intro a b e f;have d  := by simpa using f
 have:=vN.mp w.rise a b (by lia) d e;simpa[show a<L.length by lia,d] using this
theorem TabW.size {t:SetTable}{es:Array (Int × α)}{L:List (Rw α)}(w:TabW t es L):t.place.size=L.length/\es.size=L.length/\t.fill=L.length:=by
 refine⟨by rw[w.place];simp,by rw[w.es];simp,?_⟩;unfold fill;rw[w.place,w.dum];simp
def TabW.nodup {t:SetTable}{es:Array (Int × α)}{L:List (Rw α)}(w:TabW t es L):(L.map (·.1)).Nodup:=by
 rw[List.nodup_iff_pairwise_ne,wZ];exact w.rise.imp λh=>wJ h
def TabW.room {t:SetTable}{es:Array (Int × α)}{L:List (Rw α)}(w:TabW t es L)(h:L.length<=t.mask):∃e,e<=t.mask/\¬ ∃r∈L,r.1=e:=by
 refine vO λa =>?_;have all  := λe b=>vO λz=>a ⟨e,b,z⟩;have:=z2K (l:=List.range (t.mask+1)) (l':=L.map (·.1)) List.nodup_range λx d=>by
  grind
 simp at this;lia
theorem TabW.probe {t:SetTable}{es:Array (Int × α)}{L:List (Rw α)}(w:TabW t es L)(b:L.length<=t.mask)(a:Nat->Int)(h:Int)(n:Nat):
  ∃s,(∀m,n<=m->m<n+s->∃i,t.place[i]? = some (advs t.mask (st0 t.mask h) m).j/\a i≠h)/\
   (((∀i:Nat,t.place[i]? ≠ some (advs t.mask (st0 t.mask h) (n+s)).j)/\t.probe a h (advs t.mask (st0 t.mask h) n)=some (.empty (advs t.mask (st0 t.mask h) (n+s)).j none))\/
    ∃i,t.place[i]? = some (advs t.mask (st0 t.mask h) (n+s)).j/\a i=h/\t.probe a h (advs t.mask (st0 t.mask h) n)=some (.candidate (advs t.mask (st0 t.mask h) (n+s)).j i (advs t.mask (st0 t.mask h) (n+s+1)))):=by
 obtain⟨e,q,f⟩:=w.room b;obtain⟨k,_,r⟩:=w.pow;have ok:=z8V (mask:=t.mask) (z3Q t h).1 (z3Q t h).2 n;obtain⟨y,g,o⟩:=zaT (p:=advs _ (st0 t.mask h) n) r ok.1 ok.2 q;obtain⟨s,A,l⟩:=z9d w.dum w.riseP a h _ _ ⟨y,g,λi z=>by
  rw[o] at z;exact f (w.occ.mp ⟨i,z⟩)⟩
 refine⟨s,λm u x =>?_,?_⟩
 .obtain⟨d,rfl⟩:∃d,m=n+d:=⟨m - n,by lia⟩
  rw[z2s]
  simp_all
 .rw[Nat.add_assoc,z2s,z2s];rw[z6b] at l;exact l
def TabW.soon {t:SetTable}{es:Array (Int × α)}{L:List (Rw α)}(w:TabW t es L)(a:L.length<=t.mask)(h:Int):∃N,N<10*turns t.mask/\¬ ∃r∈L,r.1=(advs t.mask (st0 t.mask h) N).j:=by
 obtain⟨e,g,b⟩:=w.room a;obtain⟨k,_,i⟩:=w.pow;obtain⟨l,d,f⟩:=zaT (p:=st0 _ h) i (z3Q t h).1 (z3Q t h).2 g;exact⟨l,d,by rw[f];exact b⟩
def ins (L:List (Rw α))(p:Nat)(r:Rw α):List (Rw α):=L.take p++r::L.drop p
def z6K {L:List (Rw α)}{p:Nat}{r x:Rw α}:x∈ins L p r↔x=r\/x∈L:=by
 unfold ins;rw[wB,wm]
 constructor
 .grind
 .rintro(h | h)
  .exact .inr (.inl h)
  .rw[<- u5 p L,wB] at h
   rcases h with h | h
   .exact .inl h
   simp_all
def z4b {a:Type}(l:List a){p:Nat}(x:a):insertAt l.toArray p x=(l.take p++x::l.drop p).toArray:=by
 unfold insertAt;simp;exact uk (by simp)
theorem TabW.put {t:SetTable}{es:Array (Int × α)}{L:List (Rw α)}(w:TabW t es L){h:Int}{x:α}{n:Nat}(u:∀m,m<n->∃r∈L,r.1=(advs t.mask (st0 t.mask h) m).j)(s:¬ ∃r∈L,r.1=(advs t.mask (st0 t.mask h) n).j)(C:(advs t.mask (st0 t.mask h) n).j<=t.mask):
  TabW (t.put (advs t.mask (st0 t.mask h) n).j).1 (insertAt es (t.put (advs t.mask (st0 t.mask h) n).j).2 (h,x)) (ins L (t.put (advs t.mask (st0 t.mask h) n).j).2 ((advs t.mask (st0 t.mask h) n).j,h,x)):=by
 generalize K:(advs t.mask (st0 t.mask h) n).j=j at*;obtain⟨G,H,I⟩:=z4B w.riseP j;have N:(t.put j).2=below t.place j:=rfl;rw[N];generalize Q:below t.place j=p at*;have O:p<=L.length:=by rw[<- w.size.1];exact G
 have o:∀i g,t.place.getD i 0=(L[i]).1:=λi g=>by rw[w.place];simp[Array.getD,g]
 have R:∀r∈L.take p,r.1<j:=λr f=>by
  obtain⟨i,g,rfl⟩:=vi.mp f;have d:i<p/\i<L.length:=by simp at g;lia
  have:=H i d.1;rw[o i d.2] at this;simpa using this
 have g:∀r∈L.drop p,j<r.1:=λr f=>by
  obtain⟨i,g,rfl⟩:=vi.mp f;have d:p+i<L.length:=by simp at g;lia
  have J:=I (p+i) (by lia) (by rw[w.size.1];exact d);rw[o _ d] at J;have S:(L[p+i]).1≠j:=λz=>s ⟨L[p+i],jK d,z⟩;simp only[List.getElem_drop];lia
 have q:(t.put j).1.dummies = #[]:=by
  show (if has t.dummies j then eraseAt t.dummies (below t.dummies j) else t.dummies) = #[];rw[w.dum];simp[has]
 refine⟨?_,?_,?_,λr f =>?_,q,w.pow,λr f =>?_⟩
 .show insertAt t.place (below t.place j) j=_;rw[Q,w.place,z4b];unfold ins;rw[wA,wI,List.map_take,List.map_drop]
 .rw[w.es,z4b];unfold ins;rw[wA,wI,List.map_take,List.map_drop]
 .unfold ins;rw[uh];have y:=w.rise;rw[<- u5 p L,uh] at y;refine⟨y.1,vd.mpr ⟨λr f=>g r f,y.2.1⟩,λa F b A =>?_⟩
  rcases wm.mp A with rfl | A
  .exact R a F
  .exact y.2.2 a F b A
 .show r.1<=t.mask
  rcases z6K.mp f with rfl | f
  .exact C
  .exact w.le r f
 .show zaB t.mask _ r.2.1 r.1
  rcases z6K.mp f with rfl | f
  .exact⟨n,K,λm M=>by
    obtain⟨E,l,e⟩:=u m M;exact⟨E,z6K.mpr (.inr l),e⟩⟩
  .exact(w.reach r f).mono λa ⟨E,l,e⟩=>⟨E,z6K.mpr (.inr l),e⟩
theorem j_le {mask:Nat}:∀n {p:Probe},p.j+p.more<=mask->(advs mask p n).j+(advs mask p n).more<=mask
 | 0,_,h=>h
 | n+1,p,h=>by
  have b:=j_le n h;show (adv _ _).j+(adv _ _).more<=mask;unfold adv
  split
  .lia
  .have a:(leap _ (advs mask p n).i (advs mask p n).perturb).1<=mask:=Nat.le_of_lt_succ (je _ (Nat.succ_pos _));unfold runEnd
   split <;> lia
def zaS (mask:Nat)(h:Int)(n:Nat):(advs mask (st0 mask h) n).j<=mask:=by
 have:(st0 mask h).j+(st0 mask h).more<=mask:=by
  show bits h % (mask+1)+(runEnd mask _ - bits h % (mask+1))<=mask;have a:bits h % (mask+1)<=mask:=Nat.le_of_lt_succ (je _ (Nat.succ_pos _));generalize bits h % (mask+1)=x at a;unfold runEnd
  split <;> lia
 have:=j_le n this;lia
variable {α:Type}
def rp (mask i q:Nat):Probe:={ j:=i,more:=runEnd mask i - i,i:=i,perturb:=q,dummy:=none }
def zi0 (mask:Nat)(h:Int):st0 mask h=rp mask (bits h % (mask+1)) (bits h):=rfl
def zbe (mask i q:Nat):advs mask (rp mask i q) (runEnd mask i - i+1)=rp mask (leap mask i q).1 (leap mask i q).2:=z3r _ _
def zd9 (mask i q:Nat)(h:m<=runEnd mask i - i):(advs mask (rp mask i q) m).j=i+m:=by rw[z72 _ _ m h];rfl
def zig (mask i:Nat):i<=runEnd mask i:=by unfold runEnd;split <;> lia
theorem z7Q {mask:Nat}:∀fuel i q,(∃c,c<fuel/\(owner.getD (lp mask i q c).1 (some 0)).isNone=true)->
  ∃s,layClean.free mask owner fuel i q=some (advs mask (rp mask i q) s).j/\(owner.getD (advs mask (rp mask i q) s).j (some 0)).isNone=true/\∀m,m<s->(owner.getD (advs mask (rp mask i q) m).j (some 0)).isNone=false
 | 0,i,q,⟨c,l,_⟩=>absurd l (jy _)
 | fuel+1,i,q,⟨c,l,h⟩=>by
  rw[layClean.free];have r:=zig mask i
  cases n:(List.range (runEnd mask i+1 - i)).find? λk=>(owner.getD (i+k) (some 0)).isNone with
  | some k=>
   obtain⟨b,e,g⟩:=List.find?_range_eq_some.mp n;have t:k<runEnd mask i+1 - i:=by simpa using e
   dsimp only;refine⟨k,by rw[zd9 mask i q (by lia)],by rw[zd9 mask i q (by lia)];exact b,λm o =>?_⟩;rw[zd9 mask i q (by lia)];have:=g m o;simpa using this
  | none=>
   have u:=List.find?_range_eq_none.mp n;have all:∀k,k<=runEnd mask i - i->(owner.getD (i+k) (some 0)).isNone=false:=λk t=>by
    have:=u k (by lia);simpa using this
   have p:c≠0:=λz=>by
    subst z;have:=all 0 (vG _);rw[Nat.add_zero] at this;have a:(owner.getD i (some 0)).isNone=true:=h;rw[this] at a
    cases a
   obtain⟨f,rfl⟩:∃f,c=f+1:=⟨c - 1,by lia⟩
   rw[zbT] at h;obtain⟨s,b,e,g⟩:=z7Q fuel _ _ ⟨f,by lia,h⟩;rw[<- zbe, <- z2s] at b e;dsimp only;refine⟨runEnd mask i - i+1+s,b,e,λm o =>?_⟩
   rcases wW m (runEnd mask i - i+1) with z | z
   .rw[zd9 mask i q (by lia)];exact all m (by lia)
   .obtain⟨d,rfl⟩:∃d,m=runEnd mask i - i+1+d:=⟨m - (runEnd mask i - i+1),by lia⟩
    rw[z2s,zbe];exact g d (by lia)
structure Own (mask:Nat)(hs:List Int)(owner:Array (Option Nat))(pos:List Nat):Prop where
 size:owner.size=mask+1
 len:pos.length=hs.length
 le:∀j∈pos,j<=mask
 nd:pos.Nodup
 own:∀j,j<=mask->∀k,owner.getD j (some 0)=some k↔pos[k]? = some j
 reach:∀(k:Nat) h j,hs[k]? = some h->pos[k]? = some j->zaB mask (· ∈ pos) h j
def Own.free {mask:Nat}{b:List Int}{owner:Array (Option Nat)}{pos:List Nat}(o:Own mask b owner pos){j:Nat}(a:j<=mask):(owner.getD j (some 0)).isNone=true↔j ∉ pos:=by
 constructor
 .intro h z;obtain⟨k,d,e⟩:=vi.mp z;have:=(o.own j a k).mpr (by simp_all)
  simp_all
 .intro h
  cases e:owner.getD j _ with
  | none=>rfl
  | some k=>exact absurd (ww ((o.own j a k).mp e)) h
def Own.add {mask k:Nat}{g:List Int}{owner:Array (Option Nat)}{pos:List Nat}(o:Own mask g owner pos)(F:mask+1=2 ^ k)(I:g.length<=mask)(h:Int):
  ∃j,layClean.free mask owner (turns mask) (bits h % (mask+1)) (bits h)=some j/\Own mask (g++[h]) (owner.setIfInBounds j (some g.length)) (pos++[j]):=by
 have C:∃e,e<=mask/\e ∉ pos:=by
  refine vO λH =>?_;have:=z2K (l:=List.range (mask+1)) (l':=pos) List.nodup_range λx t=>vO λz=>H ⟨x,by have:=v4.mp t;lia,z⟩;rw[uf,o.len] at this;lia
 obtain⟨e,N,G⟩:=C;have W:bits h<2 ^ 64:=(z3Q { mask:=mask,place := #[],dummies := #[],finger:=0,led:=true,moves:=0,plain:=true } h).1;obtain⟨c,c1,c2,O⟩:=zeV (i:=bits h % (mask+1)) (q:=bits h) F W N;obtain⟨s,K,L,M⟩:=z7Q (mask:=mask) (owner:=owner) (turns mask) (bits h % (mask+1)) (bits h) ⟨c,by unfold turns;lia,by rw[O];exact(o.free N).mpr G⟩;rw[<- zi0] at K L M;have p:=zaS mask h s;refine⟨_,K,?_⟩;generalize S:(advs mask (st0 mask h) s).j=j at*;have r:j ∉ pos:=(o.free p).mp L;refine⟨by rw[Array.size_setIfInBounds];exact o.size,by rw[wD,wD,o.len];rfl,λx t =>?_,?_,λx t n =>?_,λn J Y u y =>?_⟩
 .rcases wB.mp t with z | z
  .exact o.le x z
  .rw[wg.mp z];exact p
 .rw[List.nodup_append];exact⟨o.nd,by simp,λa A b R z=>r (by rw[wg.mp R] at z;exact z ▸ A)⟩
 .have X:x<owner.size:=by rw[o.size];lia
  have Q:(owner.setIfInBounds j (some g.length)).getD x (some 0)=if j=x then some g.length else owner.getD x (some 0):=by
   have E:j<owner.size:=by rw[o.size];lia
   rw[uR,uR,Array.getElem?_setIfInBounds]
   by_cases d:j=x
   .subst d;rw[if_pos rfl,if_pos E,if_pos rfl];rfl
   .rw[if_neg d,if_neg d]
  rw[Q]
  by_cases d:j=x
  .subst d;rw[if_pos rfl]
   constructor
   .intro z;have:g.length=n:=wY z;rw[<- this, <- o.len,wQ (wt _)];simp
   .intro z
    rcases wW n pos.length with f | f
    .rw[wN f] at z;exact absurd (ww z) r
    .rw[wQ f] at z;have U:n - pos.length=0:=by
      rcases Nat.eq_zero_or_pos (n - pos.length) with w | w
      .exact w
      .rw[uF (by show 1<=_;lia)] at z;cases z
     rw[<- o.len]
     congr 1
     lia
  .rw[if_neg d,o.own x t n]
   constructor
   .intro z;obtain⟨T,_⟩:=wq.mp z;rw[wN T];exact z
   .intro z
    rcases wW n pos.length with f | f
    .rw[wN f] at z;exact z
    .rw[wQ f] at z;exact absurd (wg.mp (ww z)).symm d
 .rcases wW n pos.length with f | f
  .rw[wN f] at y;rw[wN (by rw[<- o.len];exact f)] at u;exact(o.reach n J Y u y).mono λa A=>vD _ A
  .rw[wQ f] at y;rw[wQ (by rw[<- o.len];exact f)] at u;have Z:=wg.mp (ww u);have z2:=wg.mp (ww y);subst Z z2;refine⟨s,S,λm F=>vD _ ?_⟩;have:=M m F;refine vO λz =>?_;rw[(o.free (zaS mask J m)).mpr z] at this
   cases this
theorem z5n {mask k:Nat}(i:mask+1=2 ^ k):∀d done owner b,Own mask done owner b->done.length+d.length<=mask+1->
  ∃a f,(d.foldl (init:=some (owner,done.length)) λg h=>do
   let (owner,k) <- g
   let j <- layClean.free mask owner (turns mask) (bits h % (mask+1)) (bits h)
   pure (owner.setIfInBounds j (some k),k+1))=some (a,done.length+d.length)/\Own mask (done++d) a f
 | [],done,owner,b,o,_=>⟨owner,b,rfl,by simp_all⟩
 | h::d,done,owner,b,o,m=>by
  simp[wU] at m;obtain⟨j,e,n⟩:=o.add i (by lia) h;obtain⟨q,ps,l,p⟩:=z5n i d _ _ _ n (by simp;lia);refine⟨q,ps,?_,by simpa using p⟩;rw[List.foldl_cons];have:(do
   let (owner,k) <- some (owner,done.length)
   let j <- layClean.free mask owner (turns mask) (bits h % (mask+1)) (bits h)
   pure (owner.setIfInBounds j (some k),k+1))=some (owner.setIfInBounds j (some done.length),(done++[h]).length):=by
   simp[e]
  rw[this,l];simp;lia
def own0 (mask:Nat):Own mask [] (Array.replicate (mask+1) none) []:=by
 refine⟨by simp,rfl,by simp,by simp,λj a k =>?_,λk h j e _=>by simp at e⟩;have:(Array.replicate (mask+1) none).getD j (some 0)=none:=by simp[Array.getD,show j<mask+1 by lia]
 rw[this];simp
def zh7 {mask k finger moves:Nat}{led plain:Bool}(R:mask+1=2 ^ k)(Z:3<=k){es:Array (Int × α)}(hl:es.size<=mask+1):
  ∃t' d W,laid mask finger moves led plain (es.map (·.1))=some (t',d)/\t'.mask=mask/\t'.finger=finger/\t'.moves=moves/\t'.led=led/\t'.plain=plain/\(d.filterMap (es[·]?)).size=es.size/\TabW t' (d.filterMap (es[·]?)) W/\(d.filterMap (es[·]?)).toList.Perm es.toList:=by
 obtain⟨owner,s,e,o⟩:=z5n R (es.map (·.1)).toList [] _ _ (own0 mask) (by simpa using hl);simp only[List.nil_append,vZ,Nat.zero_add] at e o;have G:layClean mask (es.map (·.1))=some owner:=by
  unfold layClean;rw[<- Array.foldl_toList,e]
  rfl
 have hn:(es.map (·.1)).toList.length=es.size:=by simp
 have a0:s.length=es.size:=by rw[o.len,hn]
 generalize f:((List.range (mask+1)).filterMap λj=>(owner.getD j none).map (j, ·))=live;have Q:∀j,j<=mask->owner.getD j none=owner.getD j (some 0):=λj F=>by
  have:j<owner.size:=by rw[o.size];lia
  simp[Array.getD,this]
 have g:∀j n,(j,n)∈live↔s[n]? = some j:=λj n=>by
  rw[<- f,uX]
  constructor
  .rintro⟨x,q,e⟩;have u:x<=mask:=by have:=v4.mp q;lia
   rw[Q x u] at e;obtain⟨y,hy,L⟩:=uz.mp e
   cases L
   exact(o.own j u n).mp hy
  .intro h;have F:j<=mask:=o.le j (ww h);refine⟨j,v4.mpr (by lia),?_⟩;rw[Q j F,(o.own j F n).mpr h]
   rfl
 have m:live.Pairwise λa b=>a.1<b.1:=by
  rw[<- f];have p:(List.range (mask+1)).Pairwise (· < ·):=List.pairwise_lt_range;generalize List.range (mask+1)=U at p
  induction U with
  | nil=>simp
  | cons x U K=>
   obtain⟨p1,S⟩:=vd.mp p;rw[v9]
   cases q:(owner.getD x none).map (x, ·) with
   | none=>exact K S
   | some y=>
    obtain⟨z,_,rfl⟩:=uz.mp q;refine vd.mpr ⟨λb E =>?_,K S⟩;obtain⟨x',u,X⟩:=uX.mp E;obtain⟨z',_,rfl⟩:=uz.mp X;exact p1 x' u
 have O:(live.map (·.2)).Nodup:=by
  rw[List.nodup_iff_pairwise_ne,wZ];refine List.Pairwise.imp_of_mem ?_ m;intro a b t E Y z;have p:=(g a.1 a.2).mp t;have C:=(g b.1 b.2).mp E;rw[<- z,p] at C;have:a.1=b.1:=wY C;lia
 have perm:(live.map (·.2)).Perm (List.range es.size):=by
  refine z3Z O List.nodup_range λn =>?_;rw[v4]
  constructor
  .intro h;obtain⟨a,t,rfl⟩:=we.mp h;obtain⟨M,_⟩:=wq.mp ((g a.1 a.2).mp t);lia
  .intro h;refine we.mpr ⟨(s[n]'(by lia),n),(g _ _).mpr (wo (by lia)),rfl⟩
 have J:(List.range es.size).filterMap (es[·]?)=es.toList:=by
  have:∀(l:List (Int × α)),(List.range l.length).filterMap (l[·]?)=l:=λl=>by
   have A:(List.range l.length).map (l[·]?)=l.map some:=by
    apply List.ext_getElem
    .simp
    .intro i p C;simp at p;simp[p]
   have L:(List.range l.length).filterMap (l[·]?)=((List.range l.length).map (l[·]?)).filterMap id:=by rw[List.filterMap_map];rfl
   rw[L,A,List.filterMap_map];simp
  have h:=this es.toList;simpa using h
 have T:(((live.map (·.2)).toArray).filterMap (es[·]?)).toList.Perm es.toList:=by
  have:=perm.filterMap (es[·]?);rw[J] at this;simpa using this
 refine⟨{ mask,place:=(live.map (·.1)).toArray,dummies := #[],finger,led,moves,plain },(live.map (·.2)).toArray,live.filterMap λa=>(es[a.2]?).map λx=>(a.1,x),?_,rfl,rfl,rfl,rfl,rfl,?_,?_,T⟩
 .unfold laid;rw[G];simp only[Option.bind_eq_bind,Option.bind_some];rw[f]
  rfl
 .have:=T.length_eq;simpa using this
 ·-- each live row has an element
  have has:∀a∈live,∃x,es[a.2]? = some x:=λa t=>by
   obtain⟨M,_⟩:=wq.mp ((g a.1 a.2).mp t);exact⟨es[a.2]'(by lia),uC (by lia)⟩
  have A:∀(l:List (Nat × Nat)),(∀a∈l,∃x,es[a.2]? = some x)->(l.filterMap λa=>(es[a.2]?).map λx=>(a.1,x)).map (·.1)=l.map (·.1)/\(l.filterMap λa=>(es[a.2]?).map λx=>(a.1,x)).map (·.2)=(l.map (·.2)).filterMap (es[·]?):=λl=>by
   induction l with
   | nil=>intro _;exact⟨rfl,rfl⟩
   | cons a l K=>
    intro h;obtain⟨x,q⟩:=h a (by simp);obtain⟨i1,i2⟩:=K λb E=>h b (by simp[E]);refine⟨?_,?_⟩
    .rw[v9,q];simp only[Option.map_some,wI];rw[i1]
    .rw[v9,q];simp only[Option.map_some,wI,v9,q];rw[i2]
  have w:∀r:Rw α,r∈(live.filterMap λa=>(es[a.2]?).map λx=>(a.1,x))->∃n,s[n]? = some r.1/\es[n]? = some r.2:=λr I=>by
   obtain⟨a,t,e⟩:=uX.mp I;obtain⟨x,q,rfl⟩:=uz.mp e;exact⟨a.2,(g a.1 a.2).mp t,q⟩
  have occ:∀j,j∈s->∃r'∈(live.filterMap λa=>(es[a.2]?).map λx=>(a.1,x)),r'.1=j:=λj F=>by
   obtain⟨n,N,e⟩:=vi.mp F;have H:(j,n)∈live:=(g j n).mpr (by rw[wo N,e]);obtain⟨x,q⟩:=has _ H;exact⟨(j,x),uX.mpr ⟨(j,n),H,by rw[show es[(j,n).2]? = some x from q];rfl⟩,rfl⟩
  refine⟨by rw[(A live has).1],?_,?_,λr I =>?_,rfl,⟨k,Z,R⟩,λr I =>?_⟩
  .rw[(A live has).2];apply Array.ext';simp
  .have:((live.filterMap λa=>(es[a.2]?).map λx=>(a.1,x)).map (·.1)).Pairwise (· < ·):=by
    rw[(A live has).1,wZ];exact m
   rw[wZ] at this;exact this
  .obtain⟨n,p,_⟩:=w r I;exact o.le r.1 (ww p)
  .obtain⟨n,p,C⟩:=w r I;exact(o.reach n r.2.1 r.1 (by simp[C]) p).mono λa t=>occ a t
open PyProof.Rows
section
variable {prog:Program}{w:World}{A:Around}{E:WvP}{s:Shared}
abbrev TK (prog:Program)(w:World)(h:Heap)(k:List Int)(a:Addr):Prop:=IsTupleKey (intKind prog w) h k a
def z8A {v:Value}(h:carriedByValue v=true):ofAClassStatement n v=pure false:=by
 cases v with
 | ref a=>simp[carriedByValue] at h
 | _=>first | rfl | (unfold ofAClassStatement;rfl) | rfl
def z2a (g:TK prog w s.heap ks a)(h:Q false s):wpAny (model prog w) A (ofAClassStatement 8 (.ref a)) Q E s:=by
 have j:=g.typeIs;obtain⟨o,z03,n,p,_,l,m⟩:=g;unfold ofAClassStatement;refine wc (jS j ?_);refine wc (wj ?_);refine wc (v6 p l ?_);refine wc ?_;rw[<- Array.forIn_toList];refine jo _ (λd r f=>Aa3 (r.1=none) (f=s) (∀v∈d,carriedByValue v=true)) _ ?_ ?_ _ _ ⟨rfl,rfl,m.byValue⟩
 .rintro v d r f ⟨i,rfl,b⟩;rw[z8A (b v wv)];exact wj ⟨rfl,rfl,λu e=>b u (wn _ e)⟩
 .rintro⟨r1,r2⟩ f ⟨i,rfl,_⟩;subst i;exact wj h
def zaq {k:Int}{v:Value}(h:(intKind prog w).is k v=true):hashByValue n v=pure true:=by
 obtain⟨t,rfl⟩:=Value.isInt_shape h
 cases n <;> rfl
def z3K (e:TK prog w s.heap ks a)(h:Q true s):wpAny (model prog w) A (hashByValue 8 (.ref a)) Q E s:=by
 have j:=e.typeIs;obtain⟨o,z03,n,t,_,m,p⟩:=e;refine wc (wpAny_specialOf j F.slot_tuple_hash.lookup ?_);refine wc (v6 t m ?_);refine wc ?_;rw[<- Array.forIn_toList];refine jo _ (λb r d=>Aa3 (r.1=none) (d=s) (∃l,ItemsAre (intKind _ w) l b)) _ ?_ ?_ _ _ ⟨rfl,rfl,ks,p⟩
 .rintro v b r d ⟨f,rfl,l,q⟩
  cases q with
  | cons g i=>
   rw[zaq g];exact wj ⟨rfl,rfl,_,i⟩
 .rintro⟨r1,r2⟩ d ⟨f,rfl,_⟩;subst f;exact wj h
def z9L {ks:List Int}{a:Addr}{d:List Value}{Q:Bool->Shared->Prop}(n:TK prog w s.heap ks a)(i:∀y∈d,∃b k,y = .ref b/\TK prog w s.heap k b)(h:Q false s):wpAny (model prog w) A (searchCouldBeSeen (.ref a) d) Q E s:=by
 unfold searchCouldBeSeen;refine wc ?_;refine jo _ (λf r l=>Aa3 (r.1=none) (l=s) (∀y∈f,∃b k,y = .ref b/\TK prog w s.heap k b)) _ ?_ ?_ _ _ ⟨rfl,rfl,i⟩
 .rintro y f r l ⟨g,rfl,e⟩;obtain⟨b,k,rfl,m⟩:=e y wv;dsimp only
  split
  .exact wj ⟨rfl,rfl,λu j=>e u (wn _ j)⟩
  .refine wc (wpAny_eqIsQuiet_tuple n ?_);simp only[Bool.not_true,vp,ja];refine wc (wpAny_eqIsQuiet_tuple m ?_);simp only[Bool.not_true,vp,ja];refine wc (z2a n ?_);simp only[vp,ja];refine wc (z2a m ?_);simp only[vp,ja];exact wj ⟨rfl,rfl,λu j=>e u (wn _ j)⟩
 .rintro⟨r1,r2⟩ l ⟨g,rfl,_⟩;simp only at g;subst g;exact wj h
structure z8d (prog:Program)(w:World)(h:Heap)(a:Addr)(L:List (Rw Value))(o:Obj)(es:Array (Int × Value))(ep:Nat)(t:SetTable):Prop where
 get:h.get? a=some o
 ex:o.ExactSet
 data:o.data = .set es ep t
 tab:TabW t es L
 room:L.length<=t.mask
 small:t.mask<=8191
 plain:t.plain=true
 led:t.led = !w.params.followText "set-order"
 key:∀r∈L,∃b k,r.2.2 = .ref b/\TK prog w h k b/\r.2.1=tupleKeyHash (intKind prog w) k
theorem z8d.fits {t:SetTable}(x:z8d prog w h a L o es ep t):t.fits es.size=true:=by
 unfold SetTable.fits;rw[x.tab.size.1,x.tab.size.2.1,x.tab.size.2.2];simp[x.room]
def z8d.odd {t:SetTable}(x:z8d prog w h a L o es ep t):t.gaveWay=false:=by
 unfold SetTable.gaveWay;obtain⟨k,b,e⟩:=x.tab.pow
 grind
def zeW {t:SetTable}(w:TabW t es L){i j:Nat}(h:t.place[i]? = some j):∃r,L[i]? = some r/\r.1=j/\es[i]? = some r.2:=by
 have a:(L.map (·.1))[i]? = some j:=by rw[w.place] at h;simpa using h
 rw[wK] at a;obtain⟨r,b,e⟩:=uz.mp a;refine⟨r,b,e,?_⟩;rw[w.es];simp[b]
def z73 {t:SetTable}(x:z8d prog w s.heap a L o es ep t)(hu:A.units<cLine)(hk:TK prog w s.heap kx b)
  (hN:¬ ∃r∈L,r.1=(advs t.mask (st0 t.mask (tupleKeyHash (intKind prog w) kx)) N).j)
  (M:(∃r∈L,∃c,r.2.2 = .ref c/\TK prog w s.heap kx c)->Q (.there none) s)
  (W:∀n,(∀m,m<n->∃r∈L,r.1=(advs t.mask (st0 t.mask (tupleKeyHash (intKind prog w) kx)) m).j/\∀c,r.2.2 = .ref c->¬ TK prog w s.heap kx c)->(¬ ∃r∈L,r.1=(advs t.mask (st0 t.mask (tupleKeyHash (intKind prog w) kx)) n).j)->Q (.free (advs t.mask (st0 t.mask (tupleKeyHash (intKind prog w) kx)) n).j false) s):
  ∀g n q,q.getD (t.probeStart (tupleKeyHash (intKind prog w) kx))=advs t.mask (st0 t.mask (tupleKeyHash (intKind prog w) kx)) n->N<g+n->
   (∀m,m<n->∃r∈L,r.1=(advs t.mask (st0 t.mask (tupleKeyHash (intKind prog w) kx)) m).j/\∀c,r.2.2 = .ref c->¬ TK prog w s.heap kx c)->
   wpAny (model prog w) A (setSearchFrom a (.ref b) (tupleKeyHash (intKind prog w) kx) true g q) Q E s:=by
 intro g
 induction g with
 | zero=>
  intro n q hs hl H;obtain⟨r,K,e,_⟩:=H N (by lia);exact absurd ⟨r,K,e⟩ hN
 | succ g ih=>
  intro n q hs hl H;generalize hh:tupleKeyHash (intKind prog w) kx=C at*;unfold setSearchFrom;refine wc (vT x.get x.data x.fits ?_);dsimp only;rw[x.odd];simp only[vp,ja]
  try refine wc (wj ?_)
  rw[hs];obtain⟨f,hf⟩:∃f:Nat->Int,f=λi=>(es[i]?.map (·.1)).getD 0:=⟨_,rfl⟩
  show wpAny (model prog w) A (match t.probe (λi=>(es[i]?.map (·.1)).getD 0) C (advs t.mask (st0 t.mask C) n) with
   | some a7=>_
   | _=>_) Q E s
  rw[<- hf];have other:∀r∈L,r.2.1≠C->∀c,r.2.2 = .ref c->¬ TK prog w s.heap kx c:=λr K J c e z=>by
   obtain⟨b',k,O,X,eh⟩:=x.key r K;rw[O] at e
   cases e
   rw[X.inj z] at eh;exact J (eh.trans hh)
  obtain⟨d,h1,h2⟩:=x.tab.probe x.room f C n;have G:∀m,m<n+d->∃r∈L,r.1=(advs t.mask (st0 t.mask C) m).j/\∀c,r.2.2 = .ref c->¬ TK prog w s.heap kx c:=λm hm=>by
   rcases wW m n with z | z
   .exact H m z
   .obtain⟨i,Z,J⟩:=h1 m z hm;obtain⟨r,K,e1,e2⟩:=zeW x.tab Z;have F:r∈L:=ww K;refine⟨r,F,e1,other r F ?_⟩;rw[hf] at J;simpa[e2] using J
  rcases h2 with ⟨a0,e⟩ | ⟨i,Z,a3,e⟩
  .rw[e];dsimp only;exact wj (W (n+d) G <| by
    rintro⟨r,K,O⟩;obtain⟨i,Z⟩:=x.tab.occ.mpr ⟨r,K,O⟩;exact a0 i Z)
  .rw[e];dsimp only;obtain⟨r,K,e1,e2⟩:=zeW x.tab Z;have F:r∈L:=ww K;obtain⟨c,k,ec,hc,a2⟩:=x.key r F;have T:wpAny (model prog w) A (match es[i]? with
             | some (_,y)=>do
              let l <- holding [y] (eqBool y (Value.ref b))
              let U <- setState a
              if (true && l)=true then pure (SetFound.there none)
               else
                match U.2.snd.sameMemory t.moves t.mask with
                | some same=>
                 match if same=true then U.2.snd.slot (advs t.mask (st0 t.mask C) (n+d)).j else Slot.empty with
                 | Slot.live S=>
                  match U.fst[S]? with
                  | some (_,y')=>do
                   let u <- isSame y' y
                   let h <- pure (if u=true then some S else none)
                   match h with
                    | none=>do
                     rule "set.search.anew"
                     setSearchFrom a (Value.ref b) C true g none
                    | some S=>if l=true then pure (SetFound.there (some S)) else setSearchFrom a (Value.ref b) C true g (some (advs t.mask (st0 t.mask C) (n+d+1)))
                  | none=>do
                   let h <- pure none
                   match h with
                    | none=>do
                     rule "set.search.anew"
                     setSearchFrom a (Value.ref b) C true g none
                    | some S=>if l=true then pure (SetFound.there (some S)) else setSearchFrom a (Value.ref b) C true g (some (advs t.mask (st0 t.mask C) (n+d+1)))
                 | _=>do
                  let h <- pure none
                  match h with
                   | none=>do
                    rule "set.search.anew"
                    setSearchFrom a (Value.ref b) C true g none
                   | some S=>if l=true then pure (SetFound.there (some S)) else setSearchFrom a (Value.ref b) C true g (some (advs t.mask (st0 t.mask C) (n+d+1)))
                | _=>unsupported "set.changed-during-lookup:is-the-new-block-at-the-old-address"
             | _=>unsupported "internal:set-entry") Q E s:=by
    rw[e2, <- Prod.eta r.2];dsimp only;rw[ec];refine wc (v8 (wpAny_eqBool_tuple hu hc hk ?_));refine wc (vT x.get x.data x.fits ?_);dsimp only
    by_cases I:k=kx
    .rw[vz I];simp only[Bool.and_self,jN];exact wj (M ⟨r,F,c,ec,I ▸ hc⟩)
    .rw[wX I];simp only[Bool.and_false,vp,ja];have a6:t.sameMemory t.moves t.mask=some true:=by unfold SetTable.sameMemory;simp
     rw[a6];dsimp only;rw[if_pos rfl,z77 x.tab.riseP Z];dsimp only;rw[e2, <- Prod.eta r.2];dsimp only;rw[ec];refine wc (wpAny_isSame_ref_self ?_);refine wc (wj ?_);simp only[jN];refine ih (n+d+1) _ rfl (by lia) λm hm =>?_
     rcases wW m (n+d) with z | z
     .exact G m z
     .have:m=n+d:=by lia
      subst this;exact⟨r,F,e1,λc' O z=>by
       rw[ec] at O
       cases O
       exact I (hc.inj z)⟩
   by_cases R:t.led=true
   .rw[R];simp only[Bool.not_true,vp,ja];exact T
   .have Y:t.led=false:=by simpa using R
    rw[Y];simp only[Bool.not_false,jN];refine wc (z9L hk (λy hy =>?_) ?_)
    .obtain⟨p,hp,rfl⟩:=we.mp hy;have a1:p∈es:=by
      have:=Array.mem_toList_iff.mp hp;exact(Array.mem_filter.mp this).1
     have a4:p∈L.map (·.2):=by rw[x.tab.es] at a1;simpa using a1
     obtain⟨r',a5,rfl⟩:=we.mp a4;obtain⟨b',k',O,X,_⟩:=x.key r' a5;exact⟨b',k',O,X⟩
    .simp only[vp,ja];exact T
end
theorem z4F (n:Nat):∀fuel j,n<2 ^ (j+fuel)->∃k,sizeAbove.go n fuel (2 ^ j)=2 ^ k/\j<=k/\n<2 ^ k/\(k=j\/2 ^ k<=2*n)
 | 0,j,h=>⟨j,rfl,wt _,h,.inl rfl⟩
 | fuel+1,j,h=>by
  rw[sizeAbove.go]
  by_cases b:2 ^ j<=n
  .rw[if_pos b];obtain⟨k,d,f,e,a⟩:=z4F n _ _ (by rw[show j+1+fuel=j+(fuel+1) by lia];exact h);refine⟨k,d,by lia,e,.inr ?_⟩
   rcases a with a | a
   .grind
   .exact a
  .rw[if_neg b];exact⟨j,rfl,wt _,by lia,.inl rfl⟩
def z5D (h:n<2 ^ 60):∃k,sizeAbove n=2 ^ k/\3<=k/\n<2 ^ k/\(k=3\/2 ^ k<=2*n):=z4F n 64 3 (wL h (by decide))
section
variable {prog:Program}{w:World}{A:Around}{E:WvP}{s:Shared}
def TK.stay {h h':Heap}{k:List Int}{a b:Addr}{o:Obj}{es ep t}(x:TK prog w h k b)(p:h.get? a=some o)(m:o.data = .set es ep t)(j:Heap.SameBut a h h'):TK prog w h' k b:=by
 obtain⟨l,z03,n,f,g,d,i⟩:=x;have e:b≠a:=by
  grind
 exact⟨l,z03,n,(j.2 b e).trans f,g,d,i⟩
structure zcJ (prog:Program)(w:World)(h:Heap)(a:Addr)(L:List (Rw Value)):Prop where
 ex:∃o es ep t,z8d prog w h a L o es ep t/\L.length*5<t.mask*3
def z75 {h:Heap}{o:Obj}{ep:Nat}{t:SetTable}(e:h.get? a=some o)(d:o.data = .set es ep t)(b:Array (Int × Value))(t':SetTable):
  (h.update a (Obj.putSet b t')).get? a=some { o with data :=.set b (ep+1) t' }:=by
 have:=vJ (Obj.putSet b t') e (by rw[putSet_of b t' d];rfl);rw[putSet_of b t' d] at this;exact this
def z4M {a b:Addr}{R:List Int}{L:List (Rw Value)}(x:zcJ prog w s.heap a L)(hu:A.units<cLine)(hk:TK prog w s.heap R b)(c9:L.length<2047){Q:Bool->Shared->Prop}
  (Y:(∃r∈L,∃c,r.2.2 = .ref c/\TK prog w s.heap R c)->∀tk,Q false { s with toks:=tk })
  (b6:(¬ ∃r∈L,∃c,r.2.2 = .ref c/\TK prog w s.heap R c)->∀h' tk L',Heap.SameBut a s.heap h'->zcJ prog w h' a L'->(L'.map (·.2)).Perm ((tupleKeyHash (intKind prog w) R,.ref b)::L.map (·.2))->Q true { s with heap:=h',toks:=tk }):
  wpAny (model prog w) A (setAdd a (.ref b)) Q E s:=by
 obtain⟨o,es,ep,t,y,c3⟩:=x.ex;unfold setAdd;refine v8 (wc (wpAny_pyHash_tuple hu hk ?_));generalize X:({ s with toks:=s.toks+(R.length+1) })=S;have d:z8d prog w S.heap a L o es ep t:=by rw[<- X];exact y
 have a7:TK prog w S.heap R b:=by rw[<- X];exact hk
 unfold setAddHashed;refine v8 ?_;show wpAny _ _ (setAddHashedIn a (.ref b) _ (99999+1)) _ _ _;unfold setAddHashedIn;refine wc (vT d.get d.data d.fits ?_);dsimp only;have c2:byScan (Value.ref b) es=false:=by unfold byScan;simp[Value.scannable]
 rw[c2];simp only[vp,ja];obtain⟨N,hN,c1⟩:=d.tab.soon d.room (tupleKeyHash (intKind prog w) R);have a9:t.mask<=8191:=d.small;refine wc ?_;unfold setSearch;refine z73 (s:=S) d hu a7 c1 ?_ ?_ 100000 0 none rfl (by unfold turns at hN;lia) (λm hm=>absurd hm (jy _))
 .intro b3;dsimp only;refine wj ?_;rw[<- X] at b3 ⊢;exact Y b3 _
 .intro n a3 I;dsimp only;refine wc (vT d.get d.data d.fits ?_);dsimp only;have a0:¬ ∃r∈L,∃c,r.2.2 = .ref c/\TK prog w S.heap R c:=by
   rintro⟨r,C,c,ec,hc⟩;obtain⟨T,k',Z,l,eh⟩:=d.key r C;rw[ec] at Z
   cases Z
   have ek:=l.inj hc;subst ek;obtain⟨m,e1,e2⟩:=d.tab.reach r C;rw[eh] at e1 e2
   rcases ur m n with z | z | z
   .obtain⟨r',K,e3,e4⟩:=a3 m z;have:r'=r:=by
     have nd:=d.tab.nodup;have e5:r'.1=r.1:=e3.trans e1;obtain⟨i,hi,ei⟩:=vi.mp K;obtain⟨j,hj,ej⟩:=vi.mp C;have c5:i=j:=by
      rcases ur i j with q | q | q
      .have:=vN.mp d.tab.rise i j hi hj q;rw[ei,ej] at this;lia
      .exact q
      .have:=vN.mp d.tab.rise j i hj hi q;rw[ei,ej] at this;lia
     subst c5;exact ei.symm.trans ej
    subst this;exact e4 c ec hc
   .subst z;exact I ⟨r,C,e1.symm⟩
   .obtain⟨r',K,e3⟩:=e2 n z;exact I ⟨r',K,e3⟩
  generalize hh:tupleKeyHash (intKind prog w) R=H at*;generalize hj:(advs t.mask (st0 t.mask H) n).j=j at*;have c6:j<=t.mask:=by rw[<- hj];exact zaS t.mask H n
  have G:TabW (t.put j).1 (insertAt es (t.put j).2 (H,Value.ref b)) (ins L (t.put j).2 (j,H,Value.ref b)):=by
   have:=d.tab.put (x:=Value.ref b) (h:=H) (n:=n) (λm hm=>by
    obtain⟨r,C,e,_⟩:=a3 m hm;exact⟨r,C,e⟩) (by rw[hj];exact I) (by rw[hj];exact c6)
   rw[hj] at this;exact this
  have W:(ins L (t.put j).2 (j,H,Value.ref b)).length=L.length+1:=by
   unfold ins;rw[wD,wU,vh,jp];lia
  have b5:(t.put j).1.mask=t.mask:=rfl;have b0:(t.put j).1.plain=true:=d.plain;have p:((ins L (t.put j).2 (j,H,Value.ref b)).map (·.2)).Perm ((H,Value.ref b)::L.map (·.2)):=by
   unfold ins;rw[wA,wI];refine jL.trans ?_;refine List.Perm.cons _ ?_;rw[<- wA,u5]
  generalize b2:(t.put j).1=t2 at*;generalize d3:ins L (t.put j).2 (j,H,Value.ref b)=L2 at*;generalize d1:insertAt es (t.put j).2 (H,Value.ref b)=f at*;have d0:t.put j=(t2,(t.put j).2):=by rw[<- b2]
  rw[b0];simp only[jN];refine wc (z3K a7 ?_);simp only[jN];have M:f.size=L.length+1:=by rw[G.size.2.1,W]
  refine wc (wpAny_storeSet_of d.get d.data ?_ (by rw[M];exact fits_of_scanBound (by unfold scanBound;lia)));have g2:=z75 d.get d.data f t2;have b1:=uB S.heap a (Obj.putSet f t2);have J:t2.led=t.led:=by rw[<- b2];rfl
  have a5:∀h',Heap.SameBut a S.heap h'->∀r:Int × Value,r∈(H,Value.ref b)::L.map (·.2)->Ee2 λT k=>r.2 = .ref T/\TK prog w h' k T/\r.1=tupleKeyHash (intKind prog w) k:=λh' sb r C=>by
   rcases wm.mp C with rfl | C
   .exact⟨b,R,rfl,a7.stay d.get d.data sb,hh.symm⟩
   .obtain⟨r',K,rfl⟩:=we.mp C;obtain⟨T,k',Z,l,eh⟩:=d.key r' K;exact⟨T,k',Z,l.stay d.get d.data sb,eh⟩
  have fin:∀h' L',Heap.SameBut a S.heap h'->zcJ prog w h' a L'->(L'.map (·.2)).Perm ((H,.ref b)::L.map (·.2))->Q true { S with heap:=h' }:=λh' L' sb ok pm=>by
   rw[<- X] at sb a0 ⊢;exact b6 a0 h' _ L' sb ok pm
  have h7:7<=t.mask:=by
   obtain⟨k,a8,e⟩:=d.tab.pow;have:2 ^ 3<=2 ^ k:=jH (by decide) a8;lia
  have g:z8d prog w (S.heap.update a (Obj.putSet f t2)) a L2 { o with data :=.set f (ep+1) t2 } f (ep+1) t2:=by
   refine⟨g2,d.ex,rfl,G,?_,?_,b0,?_,λr C =>?_⟩
   .rw[W,b5];lia
   .rw[b5];exact a9
   .rw[J];exact d.led
   .obtain⟨T,k',Z,l,eh⟩:=a5 _ b1 r.2 (p.mem_iff.mp (we.mpr ⟨r,C,rfl⟩));exact⟨T,k',Z,l,eh⟩
  have a6:t2.fill=L.length+1:=by rw[G.size.2.2,W]
  by_cases b7:t2.tooFull=true
  .rw[b7];simp only[Bool.not_false,Bool.and_self,jN];obtain⟨k,a1,a8,d4,c7⟩:=z5D (n:=SetTable.grown (es.size+1)) (by
    have:es.size=L.length:=d.tab.size.2.1;unfold SetTable.grown;rw[this,if_neg (by lia)];exact wL (show (L.length+1)*4<8192 by lia) (by decide))
   have c4:SetTable.grown (es.size+1)=(L.length+1)*4:=by
    have:es.size=L.length:=d.tab.size.2.1;unfold SetTable.grown;rw[this,if_neg (by lia)]
   have d5:2 ^ k<=8192:=by
    rcases c7 with z | z
    .subst z;decide
    .rw[c4] at z
     rcases wW k 14 with y | y
     .exact jH (by decide) (show k<=13 by lia)
     .have:=jH (show 0<2 by decide) y;have:(2) ^ 14=16384:=by decide
      lia
   have a2:2 ^ k - 1+1=2 ^ k:=Nat.sub_add_cancel (Nat.one_le_two_pow);obtain⟨t3,u,L3,hl,m1,m2,m3,m4,m5,m6,O,b8⟩:=zh7 (es:=f) (mask:=2 ^ k - 1) (finger:=t2.finger) (moves:=t2.movedTo (2 ^ k - 1)) (led:=t2.led) (plain:=t2.plain) a2 a8 (by rw[M,a2];lia);unfold setRelay;refine wc (wc (vT g.get g.data g.fits ?_));dsimp only;rw[a1];rw[if_neg (show ¬ 2 ^ k > sizeLine by rw[sizeLine_eq];lia)]
   try refine wc (wj ?_)
   have c8:t2.relaid (f.map (·.1)) (SetTable.grown (es.size+1))=some (t3,u):=by
    unfold SetTable.relaid;rw[a1];exact hl
   rw[c8];refine wc ?_;show wpAny _ _ (if (((u.filterMap (f[·]?)).size != f.size)=true) then _ else _) _ _ _;rw[if_neg (by rw[m6];simp)];refine wj ?_;dsimp only;generalize d2:u.filterMap (f[·]?)=U at*;have a4:U.size=L.length+1:=by rw[m6,M]
   have b4:L3.length=L.length+1:=by rw[<- O.size.2.1,a4]
   refine wpAny_storeSet_of g.get g.data ?_ (by rw[a4];exact fits_of_scanBound (by unfold scanBound;lia));have g3:=z75 g.get g.data U t3;have b9:=b1.trans (uB (S.heap.update a (Obj.putSet f t2)) a (Obj.putSet U t3));have e3:U.toList=L3.map (·.2):=by rw[O.es]
   have c0:f.toList=L2.map (·.2):=by rw[G.es]
   have pm:(L3.map (·.2)).Perm ((H,Value.ref b)::L.map (·.2)):=by
    rw[e3,c0] at b8;exact b8.trans p
   refine wj (fin _ L3 b9 ⟨_,_,_,_,⟨g3,d.ex,rfl,O,?_,?_,m5.trans b0,?_,λr C =>?_⟩,?_⟩ pm)
   .rw[b4,m1];lia
   .rw[m1];lia
   .rw[m4,J];exact d.led
   .obtain⟨T,k',Z,l,eh⟩:=a5 _ b9 r.2 (pm.mem_iff.mp (we.mpr ⟨r,C,rfl⟩));exact⟨T,k',Z,l,eh⟩
   .rw[b4,m1];lia
  .have F:t2.tooFull=false:=by simpa using b7
   rw[F];simp only[Bool.and_false,vp,ja];refine wj (fin _ L2 b1 ⟨_,_,_,_,g,?_⟩ p);unfold SetTable.tooFull at F;rw[a6] at F;rw[W];have:=of_decide_eq_false F;lia
end
inductive Two {α β:Type}(R:α->β->Prop):List α->List β->Prop
 | nil:Two R [] []
 | cons {a b l m}:R a b->Two R l m->Two R (a::l) (b::m)
def Two.imp {d e:Type}{R R':d->e->Prop}(i:∀a b,R a b->R' a b){l:List d}{m:List e}(h:Two R l m):Two R' l m:=by
 induction h with
 | nil=>exact .nil
 | cons h _ f=>exact .cons (i _ _ h) f
def Two.perm {o q:Type}{R:o->q->Prop}{l l':List o}(p:l.Perm l'):∀{m:List q},Two R l m->∃m',m.Perm m'/\Two R l' m':=by
 induction p with
 | nil=>intro m h;exact⟨m,List.Perm.refl _,h⟩
 | cons x _ t=>
  intro m h
  cases h with
  | cons d e=>
   obtain⟨m',j,a⟩:=t e;exact⟨_::m',j.cons _,.cons d a⟩
 | swap x y l=>
  intro m h
  cases h with
  | cons d e=>
   cases e with
   | cons r s=>exact⟨_,List.Perm.swap _ _ _,.cons r (.cons d s)⟩
 | trans _ _ f g=>
  intro m h;obtain⟨m',j,a⟩:=f h;obtain⟨i,n,b⟩:=g a;exact⟨i,j.trans n,b⟩
def Two.mem_left {e f:Type}{R:e->f->Prop}{l:List e}{m:List f}(h:Two R l m){a:e}(d:a∈l):∃b∈m,R a b:=by
 induction h with
 | nil=>simp at d
 | cons h _ g=>
  rcases wm.mp d with rfl | d
  .simp_all
  simp_all
def Two.mem_right {f e:Type}{R:f->e->Prop}{l:List f}{m:List e}(h:Two R l m){b:e}(d:b∈m):∃a∈l,R a b:=by
 induction h with
 | nil=>simp at d
 | cons h _ g=>
  rcases wm.mp d with rfl | d
  .simp_all
  simp_all
section
variable {prog:Program}{w:World}
def IsK (prog:Program)(w:World)(M:Value->Prop)(h:Heap)(v:Value)(k:List Int):Prop:=M v/\∃b,v = .ref b/\TK prog w h k b
structure SetK (prog:Program)(w:World)(M:Value->Prop)(h:Heap)(a:Addr)(kl:List (List Int)):Prop where
 ex:∃L,zcJ prog w h a L/\Two (IsK prog w M h) (L.map (·.2.2)) kl
 nd:kl.Nodup
def SetK.len {M:Value->Prop}{h:Heap}{a:Addr}{b:List (List Int)}(x:SetK prog w M h a b):∃L,zcJ prog w h a L/\Two (IsK prog w M h) (L.map (·.2.2)) b/\L.length=b.length:=by
 obtain⟨L,e,d⟩:=x.ex;refine⟨L,e,d,?_⟩;have:∀{l:List _}{m:List _},Two (IsK prog w M h) l m->l.length=m.length:=by
  intro l m t
  induction t with
  | nil=>rfl
  | cons _ _ f=>simp[f]
 have:=this d;simpa using this
def SetK.stay {M:Value->Prop}{h h':Heap}{a:Addr}{kl:List (List Int)}{wr:List Addr}(x:SetK prog w M h a kl)(k:∀b o,b ∉ wr->h.get? b=some o->h'.get? b=some o)(j:a ∉ wr)(u:∀b∈wr,∀ks,¬ TK prog w h ks b):SetK prog w M h' a kl:=by
 obtain⟨L,⟨o,g,f,t,y,p⟩,i⟩:=x.ex;have d:∀{ks:List Int}{b:Addr},TK _ w h ks b->TK _ w h' ks b:=λ{ks b} z=>by
  have l  := λq=>u b q ks z;obtain⟨o,A,n,e,r⟩:=z;exact⟨o,A,n,k _ _ l e,r⟩
 refine⟨⟨L,⟨o,g,f,t,⟨k _ _ j y.get,y.ex,y.data,y.tab,y.room,y.small,y.plain,y.led,λr s =>?_⟩,p⟩,i.imp λa b ⟨m,c,e,z⟩=>⟨m,c,e,d z⟩⟩,x.nd⟩;obtain⟨b,ks,e,z,q⟩:=y.key r s;exact⟨b,ks,e,d z,q⟩
variable {A:Around}{R:Result->Shared->Prop}{I:Addr}{fp wr:List Addr}{G:Array GenState->Array GenState->Prop}{n:Nat}{P:Nat->Value->Prop}{St:Nat->Shared->Prop}
def z8f {M:Value->Prop}(W:WalksS prog w A.in1 I fp wr G n P St)(S:Addr)(Z:S ∉ fp)(hu:A.in1.units<cLine)(ks:Nat->List Int)(hn:n<=2040)(hw:∀i s,St i s->∀b∈wr,∀k,¬ TK prog w s.heap k b)(hM:∀j v,P j v->M v):
  ∀k i s kl,n - i=k->i<=n->St i s->(∀j v,P j v->∃b,v = .ref b/\TK prog w s.heap (ks j) b)->
   SetK prog w M s.heap S kl->kl.length<=i->(∀x,x∈kl↔∃j,j<i/\ks j=x)->
   (∀s' d,Moved (S::wr) G s s'->SetK prog w M s'.heap S d->d.length<=n->(∀x,x∈d↔∃j,j<n/\ks j=x)->R (.ok (.ret .none)) s')->
   codeAny (model prog w) A (.builtin "set.update.loop" ⟨[.ref S,.ref I],[]⟩) R s:=by
 have a0:S ∉ wr:=λh=>Z (W.sub _ h);have K:∀b∈wr,b∈S::wr:=λb hb=>wn _ hb;intro k
 induction k with
 | zero=>
  intro i s kl hk hi C hP hS hl hm hR;have a8:i=n:=by lia
  subst a8;refine uG F.entry_set_update_loop ?_;rw[ui jm _];show wpAny _ A.in1 (pyNext (.ref I) >>= _) _ _ s;refine wc (W.done s _ _ C λs' p =>?_);show wpAny _ A.in1 (ret Value.none) _ _ s';exact wj (hR s' kl (p.mono K) (hS.stay p.heap a0 (hw _ _ C)) hl hm)
 | succ k ih=>
  intro i s kl hk hi C hP hS hl hm hR;have O:i<n:=by lia
  refine uG F.entry_set_update_loop ?_;rw[ui jm _];show wpAny _ A.in1 (pyNext (.ref I) >>= _) _ _ s;refine wc (W.item i s _ _ O C λv s' X a3 p =>?_);have Y:=hS.stay p.heap a0 (hw _ _ C);have U:∀j v,P j v->∃b,v = .ref b/\TK prog w s'.heap (ks j) b:=λj u Q=>by
   obtain⟨b,e,z⟩:=hP j u Q;have hb:b ∉ wr:=λq=>hw _ _ C b q _ z;obtain⟨o,it,m,e',r⟩:=z;exact⟨b,e,o,it,m,p.heap _ _ hb e',r⟩
  obtain⟨b,rfl,a2⟩:=U i v X;show wpAny _ A.in1 (holding [Value.ref b] (setAdd S (.ref b)) >>= _) _ _ s';refine wc (v8 ?_);obtain⟨L,hL,h2,b3⟩:=Y.len;have H:∀J N,s'.toks<=N->Heap.SameBut S s'.heap J->Aa3 (St (i+1) { s' with heap:=J,toks:=N }) (∀j v,P j v->∃b,v = .ref b/\TK prog w J (ks j) b) (∀f,Moved (S::wr) G { s' with heap:=J,toks:=N } f->Moved (S::wr) G s f):=λJ N E l=>by
   obtain⟨o,es,ep,t,y,_⟩:=hL.ex;refine⟨W.frame _ s' _ _ a3 E λc hc o' e =>?_,λj u Q =>?_,λf g =>?_⟩
   .rw[l.2 c (λz:c=S=>Z (by rw[<- z];exact hc))];exact e
   .obtain⟨c,e,z⟩:=U j u Q;exact⟨c,e,z.stay y.get y.data l⟩
   .refine Moved.trans W.gtrans ((p.mono K).then_heap E λc o' hc e =>?_) g;rw[l.2 c (λz:c=S=>hc (by rw[z];exact wv))];exact e
  refine wpAny_with_toks (wt s'.toks) ?_;refine z4M hL hu a2 (by lia) ?_ ?_
  .intro a7 N E;obtain⟨g1,g2,g3⟩:=H s'.heap N E (Heap.SameBut.refl _ _);refine wj ⟨uN jm _,ih (i+1) _ kl (by lia) O g1 g2 Y (by lia) (λx =>?_) λf d g=>hR f d (g3 f g)⟩;rw[hm x]
   constructor
   .rintro⟨j,hj,e⟩;exact⟨j,by lia,e⟩
   .rintro⟨j,hj,e⟩
    rcases wW j i with z | z
    .exact⟨j,z,e⟩
    .have:j=i:=by lia
     subst this;obtain⟨r,hr,c,ec,hc⟩:=a7;obtain⟨y,hy,_,c',T,a6⟩:=h2.mem_left (we.mpr ⟨r,hr,rfl⟩);rw[ec] at T
     cases T
     have:=hc.inj a6;rw[<- e,this];exact(hm y).mp hy
  .intro a1 J N L' l b0 pm E;obtain⟨g1,g2,g3⟩:=H J N E l;obtain⟨o,es,ep,t,y,_⟩:=hL.ex;have t1:Two (IsK prog w M J) (Value.ref b::L.map (·.2.2)) (ks i::kl) :=.cons ⟨hM i _ X,b,rfl,a2.stay y.get y.data l⟩ (h2.imp λa k ⟨m,c,e,z⟩=>⟨m,c,e,z.stay y.get y.data l⟩);have b2:(Value.ref b::L.map (·.2.2)).Perm (L'.map (·.2.2)):=by
    have:=pm.symm.map (·.2);simpa[Function.comp_def] using this
   obtain⟨d,p',t'⟩:=t1.perm b2;have a9:ks i ∉ kl:=λz=>by
    obtain⟨a',a5,_,c,e,z'⟩:=h2.mem_right z;obtain⟨r,hr,rfl⟩:=we.mp a5;exact a1 ⟨r,hr,c,e,z'⟩
   have b1:d.Nodup:=p'.nodup_iff.mp (vf.mpr ⟨a9,hS.nd⟩);have b4:d.length=kl.length+1:=by rw[<- p'.length_eq];rfl
   refine wj ⟨uN jm _,ih (i+1) _ d (by lia) O g1 g2 ⟨⟨L',b0,t'⟩,b1⟩ (by lia) (λx =>?_) λf a4 g=>hR f a4 (g3 f g)⟩;rw[<- p'.mem_iff,wm,hm x]
   constructor
   .rintro(e | ⟨j,hj,e⟩)
    .exact⟨i,by lia,e.symm⟩
    .exact⟨j,by lia,e⟩
   .rintro⟨j,hj,e⟩
    rcases wW j i with z | z
    .exact .inr ⟨j,z,e⟩
    .have:j=i:=by lia
     subst this;exact .inl e.symm
end
section
variable {prog:Program}{w:World}{A:Around}{E:WvP}{s:Shared}
def z6i:isSubtype (.type "tuple") (.type "set")=pure false:=by kernel_rfl
def z3D:isSubtype (.type "tuple") (.type "frozenset")=pure false:=by rfl
abbrev led0 (w:World):Bool := !w.params.followText "set-order"
def z6W (a:Value)
  (h:Q₁ (.ref s.heap.objs.size) { s with heap:=s.heap.push { cls :=.type "set",dict:=none,data :=.set #[] 0 (.fresh 0 0 (led0 w)) } }):
  codeAny (model prog w) A (.call (.builtin "set.__new__") ⟨[.type "set",a],[]⟩) (wants Q₁ E) s:=by
 refine codeAny_of_tree ?_;refine wc (wpAny_of_eq (F.newCall_set_1 a) (wj ⟨uN F.plain_set_new _,uG F.entry_set_new ?_⟩));rw[ui F.plain_set_new _];unfold Builtin.«set.__new__» Builtin.Frozenset.newClass;have b:=sub_set_self;obtain⟨e,g,d,i,f⟩:=s;dsimp only
 wp_walk
 refine jM (wj ?_);dsimp only;simp only[newObj];refine wc (wpAny_alloc (wj ?_));exact wj h
def z9Y (e:h.get? a=some { cls :=.type "set",dict:=none,data :=.set #[] 0 (.fresh 0 0 (led0 w)) }):SetK prog w M h a []:=by
 refine⟨⟨[],⟨_, #[],0,_,⟨e,⟨rfl,rfl,rfl⟩,rfl,⟨rfl,rfl,.nil,(λr b=>by simp at b),rfl,⟨3,wt _,rfl⟩,(λr b=>by simp at b)⟩,(by simp_all),(by show 7<=8191;decide),rfl,rfl,(λr b=>by simp at b)⟩,(by show 0*5<7*3;decide)⟩,.nil⟩,.nil⟩
def zk2 {k:List Int}(x:∃o,h.get? b=some o/\o.cls = .type tn)(i:tn≠"tuple"):¬ TK prog w h k b:=by
 rintro⟨l,_,_,d,a,_⟩;obtain⟨j,g,e⟩:=x;rw[g] at d
 cases d
 rw[e] at a
 injection a with f
 exact i f
def z4J {z03:Array Value}(O:s.heap.get? l=some ol)(b8:isSubtype ol.cls (.type "set")=pure false)(b7:isSubtype ol.cls (.type "frozenset")=pure false)(c3:(ol.cls == .type "dict")=false)(a5:io.isFreed=false)
  (a6:∀{A':Around}{E':WvP}{s':Shared}{Q':WvP},s'.heap.get? l=some ol->Q' (.ref s'.heap.objs.size) { s' with heap:=s'.heap.push io }->wpAny (model prog w) A' (pyIter (.ref l)) Q' E' s')
  (b3:∀{A':Around}(I:Addr),A'.handled=none->l≠I->∃St,Walks prog w A' I [I,l] [I] z03.size (λi v=>z03[i]? = some v) St/\(∀h:Heap,h.get? I=some io->h.get? l=some ol->St 0 h)/\∀i h k,St i h->¬ TK prog w h k I)
  (hh:A.handled=none) (hu:A.units+8<cLine) (hi:Two (IsK prog w M s.heap) z03.toList ks) (U:z03.size<=2040)
  (h:∀(h':Heap) (tk:Nat) g,SetK prog w M h' s.heap.objs.size g->g.length<=z03.size->(∀x,x∈g↔x∈ks)->
   (∀b o,b<s.heap.objs.size->s.heap.get? b=some o->h'.get? b=some o)->Q (.ref s.heap.objs.size) { s with heap:=h',toks:=tk }):
  wpAny (model prog w) A (call (.type "set") [.ref l]) Q E s:=by
 obtain⟨c,tl,b6⟩:=jz.mro;have b1:=jz.made;have b9:=jz.sub;refine wpAny_call (codeAny_of_tree ?_);show wpAny _ _ (callAny (.type "set") _) _ _ _;refine wj ⟨Code.quiet_builtin _ (by decide +kernel),uG F.entry_type_call ?_⟩;rw[Around.under_plain (weight_type_call_type "set" [.ref l] []) rfl];have h1:=jz.notType;have h2:=jz.canCreate;have c1:=F.typeCall_set_1 (.ref l)
 repeat (any_goals (first | assumption | wp_step))
 refine j7 (z6W (.ref l) (E:=E) (Q₁:=λS q=>S = .ref s.heap.objs.size/\q={ s with heap:=s.heap.push { cls :=.type "set",dict:=none,data :=.set #[] 0 (.fresh 0 0 (led0 w)) } }) ⟨rfl,rfl⟩) λr q hr =>?_
 cases r with
 | error e=>exact hr
 | ok fl=>
  cases fl with
  | ret S=>
   obtain⟨rfl,rfl⟩:=hr;generalize K:led0 w=a at*;have hS:(s.heap.push { cls :=.type "set",dict:=none,data :=.set #[] 0 (.fresh 0 0 a) }).get? s.heap.objs.size=some { cls :=.type "set",dict:=none,data :=.set #[] 0 (.fresh 0 0 a) }:=wp _ rfl;have hT:Shared.TypeIs { s with heap:=s.heap.push { cls :=.type "set",dict:=none,data :=.set #[] 0 (.fresh 0 0 a) } } (.ref s.heap.objs.size) "set":=⟨_,hS,rfl⟩
   have c2:=jz.init.lookup;have c0:=jz.init.bind (.ref s.heap.objs.size)
   repeat (any_goals (first | assumption | wp_step))
   refine j7 (codeAny_call_builtin (R:=wants (λr u=>r = .none/\Ee3 λh' tk g=>u={ s with heap:=h',toks:=tk }/\SetK prog w M h' s.heap.objs.size g/\g.length<=z03.size/\(∀x,x∈g↔x∈ks)/\
     (∀b o,b<s.heap.objs.size->s.heap.get? b=some o->h'.get? b=some o)) E) jz.init.plain F.entry_set_init (check_set_init_1 hT ?_)) λT u d =>?_
   .have p:=wf (show Obj from { cls :=.type "set",dict:=none,data :=.set #[] 0 (.fresh 0 0 a) }) O;unfold Builtin.«set.__init__» noKeywords Builtin.Frozenset.updateFrom;generalize Z:pyIter=PI
    wp_walk
    subst Z;apply a6 (by exact p);refine wc (wpAny_runValue ?_);have J:l<s.heap.objs.size:=wu O;have a4:A.in1.in1.in1.handled=none:=by simp[hh]
    have N:l≠(s.heap.push { cls :=.type "set",dict:=none,data :=.set #[] 0 (.fresh 0 0 a) }).objs.size:=by
     rw[v5];exact wJ (ud J)
    have a0:s.heap.objs.size ∉ [(s.heap.push { cls :=.type "set",dict:=none,data :=.set #[] 0 (.fresh 0 0 a) }).objs.size,l]:=by
     rw[v5];simp only[wm,wg,wz,vK,not_or];exact⟨wJ (uK _),jw J⟩
    have n:∀(i:Nat) v,z03[i]? = some v->M v/\∃b,v = .ref b/\TK prog w s.heap (ks.getD i []) b:=λi v C=>by
     have f:z03.toList[i]? = some v:=by simpa using C
     generalize z03.toList=il at hi f;clear C h
     induction hi generalizing i with
     | nil=>simp at f
     | cons h0 _ ih=>
      cases i with
      | zero=>
       simp at f;subst f;exact h0
      | succ i=>exact ih i (by simpa using f)
    have H:ks.length=z03.size:=by
     have:∀{l:List Value}{m:List (List Int)},Two (IsK prog w M s.heap) l m->l.length=m.length:=by
      intro l m t
      induction t with
      | nil=>rfl
      | cons _ _ ih=>simp[ih]
     have:=this hi;simpa using this.symm
    obtain⟨St,W,st0,hw⟩:=b3 (A':=A.in1.in1.in1) _ a4 N;refine z8f W.toS s.heap.objs.size a0 (by simp;lia) (λi=>ks.getD i []) U (λi s0 b2 b a1 k => ?hw) (λj v C=>(n j v C).1) (z03.size - 0) 0 _ [] (by lia) (vG _) (st0 _ (wp _ a5) (wf _ p)) (λj v C => ?hP) ?hS0 (vG _) (λx=>by simp) ?hR
    case hw=>
     rw[wg.mp a1];exact hw _ _ _ b2
    case hP=>
     obtain⟨_,b,e,o2,it,m,e2,r⟩:=n j v C;exact⟨b,e,o2,it,m,wf _ (wf _ e2),r⟩
    case hS0=>
     refine z9Y (h:=(s.heap.push { cls :=.type "set",dict:=none,data :=.set #[] 0 (.fresh 0 0 a) }).push _) ?_;rw[K];exact wf _ hS
    case hR=>
     intro s' g Y z b0 L;obtain⟨h',g',d',b5,b4⟩:=s';have eg:g'=s.gens:=Y.gens;have ed:d'=s.drawn:=Y.drawn;have eo:b4=s.os:=Y.os;subst eg;subst ed;subst eo;show wpAny _ _ _ _ _ _;refine wj ?_;show wpAny _ _ (ret Value.none) _ _ _;refine wj ⟨rfl,h',b5,g,rfl,z,b0,λx =>?_,λb o U e =>?_⟩
     .rw[L x]
      constructor
      .rintro⟨j,X,e⟩;have G:j<ks.length:=by rw[H];exact X
       rw[<- e];show ks.getD j []∈ks;rw[ug,wo G];exact jK G
      .intro hx;obtain⟨j,X,e⟩:=vi.mp hx;refine⟨j,by rw[<- H];exact X,?_⟩;show ks.getD j []=x;rw[ug,wo X];exact e
     .have a2:b≠s.heap.objs.size:=wJ U;have a3:b≠(s.heap.push { cls :=.type "set",dict:=none,data :=.set #[] 0 (.fresh 0 0 a) }).objs.size:=by
       rw[v5];exact wJ (ud U)
      exact Y.heap b o (by simp only[wm,wg,wz,vK,not_or];exact⟨a2,a3⟩) (wf _ (wf _ e))
   .cases T with
    | error e=>exact d
    | ok y=>
     cases y with
     | ret r=>
      obtain⟨rfl,h',tk,g,rfl,z,a8,a9,a7⟩:=d
      repeat (any_goals (first | assumption | wp_step))
      exact h _ _ _ z a8 a9 a7
     | _=>exact d.elim
  | _=>exact hr.elim
def z6Z {M:Value->Prop}{l:Addr}{z03:Array Value}{ks:List (List Int)}{Q:WvP}
  (t:A.handled=none) (z:A.units+8<cLine) (y:s.heap.IsList l z03) (u:Two (IsK prog w M s.heap) z03.toList ks) (r:z03.size<=2040)
  (h:∀h' tk g,SetK prog w M h' s.heap.objs.size g->g.length<=z03.size->(∀x,x∈g↔x∈ks)->
   (∀b o,b<s.heap.objs.size->s.heap.get? b=some o->h'.get? b=some o)->Q (.ref s.heap.objs.size) { s with heap:=h',toks:=tk }):
  wpAny (model prog w) A (call (.type "set") [.ref l]) Q E s:=by
 obtain⟨C,f,a,i,d⟩:=y;exact z4J f (by rw[a];exact F.sub_list_set) (by rw[a];exact F.sub_list_frozenset) (by rw[a];rfl) rfl (λe q=>wpAny_pyIter_list ⟨_,e,a,i,d⟩ q) (λI h n=>⟨_,Walks.list h I l n z03,λ_ m p=>⟨⟨_,m,rfl,rfl⟩,_,p,a,i,d⟩,λ_ _ _ j=>zk2 (tn:="list_iterator") ⟨_,j.1.choose_spec.1,j.1.choose_spec.2.1⟩ (by decide)⟩) t z u r h
def z5R {M:Value->Prop}{l:Addr}{z03:Array Value}{ks:List (List Int)}{Q:WvP}
  (t:A.handled=none) (z:A.units+8<cLine) (y:s.heap.IsTuple l z03) (u:Two (IsK prog w M s.heap) z03.toList ks) (r:z03.size<=2040)
  (h:∀h' tk g,SetK prog w M h' s.heap.objs.size g->g.length<=z03.size->(∀x,x∈g↔x∈ks)->
   (∀b o,b<s.heap.objs.size->s.heap.get? b=some o->h'.get? b=some o)->Q (.ref s.heap.objs.size) { s with heap:=h',toks:=tk }):
  wpAny (model prog w) A (call (.type "set") [.ref l]) Q E s:=by
 obtain⟨C,f,a,i,d⟩:=y;exact z4J f (by rw[a];exact z6i) (by rw[a];exact z3D) (by rw[a];rfl) rfl (λe q=>u4 ⟨_,e,a,i,d⟩ q) (λI h n=>⟨_,Walks.tuple h I l n z03,λ_ m p=>⟨⟨_,m,rfl,rfl⟩,_,p,a,i,d⟩,λ_ _ _ j=>zk2 (tn:="tuple_iterator") ⟨_,j.1.choose_spec.1,j.1.choose_spec.2.1⟩ (by decide)⟩) t z u r h
end
end Tab
namespace Tim
open PySem PyProof.Rows PySem.W
def Rn (rk:Nat->Nat)(p:Array Nat)(i:Nat):Nat:=rk (p[i]?.getD 0)
def Up (rk:Nat->Nat)(p:Array Nat)(j:Nat):Prop:=∀a b,a<=b->b<j->Rn rk p a<=Rn rk p b
def Dn (rk:Nat->Nat)(p:Array Nat)(j:Nat):Prop:=∀a b,a<=b->b<j->Rn rk p b<=Rn rk p a
abbrev Ok (n:Nat)(p:Array Nat):Prop:=p.Perm (List.range n).toArray
section
variable {cmp:Nat->Nat->(Bool->Shared->Prop)->Shared->Prop}{s:Shared}{rk:Nat->Nat}{n:Nat}{p:Array Nat}{α:Type}
def z3a (h:Ok n p):p.size=n:=by rw[h.size_eq];simp
def zjE (a:0<n)(h:Ok n p)(i:Nat):p[i]?.getD 0<n:=by
 rcases wW i _ with z | z
 .rw[uC z];have:=(Array.perm_iff_toList_perm.mp h).mem_iff.mp (Array.getElem_mem_toList z);simpa using this
 simp_all
def As (a:Nat->Nat->(Bool->Shared->Prop)->Shared->Prop)(rk:Nat->Nat)(n:Nat)(s:Shared):Prop:=∀i j C,i<n->j<n->C (decide (rk i<rk j)) s->a i j C s
def ask_ {k:Bool->KasT α}(A:As cmp rk n s)(a:0<n)(b:Ok n p)(h:Rn rk p i<Rn rk p j->(k true).kasWp cmp Q s)(h':Rn rk p j<=Rn rk p i->(k false).kasWp cmp Q s):(KasT.ask (p.getD i 0) (p.getD j 0) k).kasWp cmp Q s:=by
 rw[uR,uR];refine A _ _ _ (zjE a b i) (zjE a b j) ?_
 rcases wW _ _ with z | z
 .rw[show decide (rk _<rk _)=true from vz z];exact h z
 .rw[show decide (rk _<rk _)=false from wX (j5.mpr z)];exact h' z
theorem asc_ (A:As cmp rk n s)(g:0<n)(i:Ok n p):∀f m,1<=m->Up rk p m->(∀k,m<=k->k<=m+f->Up rk p k->k=m+f\/Rn rk p k<Rn rk p (k - 1)->Q k s)->(kas_asc p f m).kasWp cmp Q s
 | 0,m,e,d,q=>q m (by lia) (by lia) d (.inl rfl)
 | f+1,m,e,d,q=>by
  refine ask_ A g i (λh =>?_) λh =>?_
  .exact q m (by lia) (by lia) d (.inr h)
  .refine asc_ A g i f (m+1) (by lia) (λa b e j =>?_) λk e j l o=>q k (by lia) (by lia) l (o.imp (by lia) id)
   rcases wW b m with z | z
   .exact d a b e z
   .obtain rfl:b=m:=by lia
    rcases wW a b with w | w
    .exact wO (d a (b - 1) (by lia) (by lia)) h
    grind
def zeX (a:j<=p.size)(k:Nat):Rn rk (kas_rev p i j) k=if i<=k/\k<j then Rn rk p (i+j - 1 - k) else Rn rk p k:=by
 unfold Rn kas_rev;rw[getElem?_mirror_all a k]
 split <;> rfl
def z7v (h:Ok n p):Ok n (kas_rev p i j):=(mirror_perm _ _ _ _).trans h
def zg2 (a:j<=p.size)(b:∀k,i<=k->k<j->Rn rk p k=Rn rk p (j - 1))(k:Nat):Rn rk (kas_rev p i j) k=Rn rk p k:=by
 rw[zeX a]
 grind
def z5x (d:1<=m)(h:Dn rk p m)(k:Rn rk p m<=Rn rk p (m - 1)):Dn rk p (m+1):=λa b x y=>by
 rcases wW b m with z | z
 .exact h a b x z
 .obtain rfl:b=m:=by lia
  rcases wW a b with w | w
  .exact wO k (h a _ (by lia) (by lia))
  .obtain rfl:a=b:=by lia
   simp_all
theorem zes (A:As cmp rk n s)(C:0<n):∀f p m q,Ok n p->Dn rk p m->q<m->(∀i,m - (q+1)<=i->i<m->Rn rk p i=Rn rk p (m - 1))->m+f<=n->
  (∀o l t,Ok n o->Dn rk o l->t<l->m<=l->l<=m+f->(∀i,l - (t+1)<=i->i<l->Rn rk o i=Rn rk o (l - 1))->Q (o,l,t) s)->(kas_desc f p m q).kasWp cmp Q s
 | 0,p,m,q,r,u,F,w,I,h=>h p m q r u F (by lia) (by lia) w
 | f+1,p,m,q,r,u,F,w,I,h=>by
  refine ask_ A C r (λG =>?_) λG =>?_
  .rw[if_pos rfl];have eq:=zg2 (rk:=rk) (p:=p) (i:=m - (q+1)) (j:=m) (by rw[z3a r];lia) w
   by_cases E:q > 0
   .rw[if_pos E];refine zes A C f _ (m+1) 0 (z7v r) (z5x (by lia) (λa b x y=>by rw[eq,eq];exact u a b x y) (by rw[eq,eq];lia)) (by lia) (λi x y=>by rw[show i=m+1 - 1 by lia]) (by lia) λo l t a b c d e g=>h o l t a b c (by lia) (by lia) g
   .rw[if_neg E];exact zes A C f p (m+1) 0 r (z5x (by lia) u (by lia)) (by lia) (λi x y=>by rw[show i=m+1 - 1 by lia]) (by lia) λo l t a b c d e g=>h o l t a b c (by lia) (by lia) g
  .rw[if_neg (by decide)];refine ask_ A C r (λH =>?_) λH =>?_
   .rw[if_pos rfl];exact h p m q r u F (by lia) (by lia) w
   .rw[if_neg (by decide)];refine zes A C f p (m+1) (q+1) r (z5x (by lia) u (by lia)) (by lia) (λi x y =>?_) (by lia) λo l t a b c d e g=>h o l t a b c (by lia) (by lia) g
    rcases wW i m with z | z
    .rw[w i (by lia) z,show m+1 - 1=m by lia];lia
    .rw[show i=m+1 - 1 by lia]
def zhP (A:As cmp rk n s)(o:0<n)(f:Ok n p)(h:1<=m)(l:m<=n)(j:Dn rk p m)(q:∀d g,Ok n g->1<=d->d<=n->Up rk g d->Q (d,g) s):(kas_tail3 m n p).kasWp cmp Q s:=by
 unfold kas_tail3;rw[jZ];refine asc_ A o (z7v f) _ _ h (λa b x y =>?_) λk x y u _=>q k _ (z7v f) (by lia) (by lia) u;have e:=zeX (rk:=rk) (i:=0) (by rw[z3a f];exact l);rw[e,e,if_pos (by lia),if_pos (by lia)];exact j _ _ (by lia) (by lia)
def zjm (A:As cmp rk n s)(j:0<n)(t:Ok n p)(u:m<n)(r:Dn rk p (m+1))(q:∀f h,Ok n h->1<=f->f<=n->Up rk h f->Q (f,h) s):(kas_descPart m n p).kasWp cmp Q s:=by
 unfold kas_descPart;rw[jZ];refine zes A j _ p _ 0 t r (by lia) (λi x y=>by rw[show i=m+1 - 1 by lia]) (by lia) λh f w a b c d e g =>?_;dsimp only;have eq:=zg2 (by rw[z3a a];lia) g
 split
 .exact zhP A j (z7v a) (by lia) (by lia) (λx y l o=>by rw[eq,eq];exact b x y l o) q
 .exact zhP A j a (by lia) (by lia) b q
def zkA (A:As cmp rk n s)(o:0<n)(d:Ok n p)(q:∀r t,Ok n t->1<=r->r<=n->Up rk t r->Q (r,t) s):(kas_count n p).kasWp cmp Q s:=by
 unfold kas_count;rw[jZ];refine asc_ A o d _ 1 (wt 1) (λa b x y=>by rw[show a=b by lia];exact wt _) λm l w f u =>?_
 by_cases e:m=n
 .rw[if_pos (by simpa using e)];exact q m p d l (by lia) f
 rw[if_neg (by simpa using e)];have lt:=u.resolve_left (by lia)
 by_cases g:m > 1
 .rw[if_pos g];refine ask_ A o d (λh =>?_) λh =>?_
  .rw[if_pos rfl];exact q m p d l (by lia) f
  .rw[if_neg (by decide)];have eq:=zg2 (rk:=rk) (p:=p) (i:=0) (j:=m) (by rw[z3a d];lia) λk _ y=>Nat.le_antisymm (f k (m - 1) (by lia) (by lia)) (wO h (f 0 k (by lia) y));refine zjm A o (z7v d) (by lia) (z5x l (λa b x y =>?_) ?_) q
   .rw[eq,eq];exact wO (f b (m - 1) (by lia) (by lia)) (wO h (f 0 a (by lia) (by lia)))
   .rw[eq,eq];lia
 .rw[if_neg g];refine zjm A o d (by lia) (z5x l (λa b x y=>by rw[show a=b by lia];exact wt _) (by lia)) q
theorem zbq (A:As cmp rk n s)(e:0<n)(j:Ok n p){k:Nat}(q:∀l,l<=k->(∀i,i<l->Rn rk p i<=Rn rk p k)->(∀i,l<=i->i<k->Rn rk p k<=Rn rk p i)->Q l s):∀f l r,r - l<=f->l<=r->r<=k->Up rk p k->(∀i,i<l->Rn rk p i<=Rn rk p k)->(∀i,r<=i->i<k->Rn rk p k<=Rn rk p i)->(kas_place p k f l r).kasWp cmp Q s
 | 0,l,r,o,t,m,a,b,d=>q l (by lia) b λi x y=>d i (by lia) y
 | f+1,l,r,o,t,m,a,b,d=>by
  unfold kas_place
  by_cases g:l>=r
  .rw[if_pos g];exact q l (by lia) b λi x y=>d i (by lia) y
  .rw[if_neg g];refine ask_ A e j (λh =>?_) λh =>?_
   .rw[if_pos rfl];exact zbq A e j q f l _ (by lia) (by lia) (by lia) a b λi x y=>wO (uy h) (a _ i (by lia) y)
   .exact zbq A e j q f _ r (by lia) (by lia) m a (λi x=>wO (a i _ (by lia) (by lia)) h) d
theorem bin_ (A:As cmp rk n s)(r:0<n)(q:∀p,Ok n p->Up rk p n->Q p s):∀f p k,Ok n p->Up rk p k->k+f=n->(kas_bin f p k).kasWp cmp Q s
 | 0,p,k,g,d,e=>q p g (by rw[<- e];exact d)
 | f+1,p,k,g,d,e=>by
  unfold kas_bin;rw[jZ];refine zbq A r g (λl C t u =>?_) k 0 k (by lia) (by lia) (wt _) d (λi x=>by lia) λi x y=>by lia
  refine bin_ A r q f _ (k+1) ((bubble_perm _ _ _).trans g) (λa b x y =>?_) (by lia);have j:=λi=>getElem?_bubble (xs:=p) (src:=k) (by rw[z3a g];lia) (k - l) (by lia) i;rw[show k - (k - l)=l by lia] at j;have o:∀i,i<l->Rn rk (bubble p k (k - l)) i=Rn rk p i:=λi z=>by unfold Rn;rw[j,if_neg (by lia),if_neg (by lia)]
  have m:Rn rk (bubble p k (k - l)) l=Rn rk p k:=by unfold Rn;rw[j,if_pos rfl]
  have h:∀i,l<i->i<=k->Rn rk (bubble p k (k - l)) i=Rn rk p (i - 1):=λi z w=>by unfold Rn;rw[j,if_neg (by lia),if_pos (by lia)]
  rcases ur a l with z | rfl | z
  .rw[o a z]
   rcases ur b l with w | rfl | w
   .rw[o b w];exact d a b x (by lia)
   .rw[m];exact t a z
   .rw[h b w (by lia)];exact d _ _ (by lia) (by lia)
  .rw[m]
   rcases wW a b with w | w
   .rw[h b w (by lia)];exact u _ (by lia) (by lia)
   .rw[show b=a by lia,m];exact wt _
  .rw[h a z (by lia),h b (by lia) (by lia)];exact d _ _ (by lia) (by lia)
def zkY (A:As cmp rk n s)(a:0<n)(q:∀p,Ok n p->Up rk p n->Q p s):(kas_sort n).kasWp cmp Q s:=by
 unfold kas_sort;rw[jZ];refine zkA A a (Array.Perm.refl _) λm p b e f d =>?_;dsimp only
 split
 .exact bin_ A a q _ p _ b (by simp_all) (by lia)
 .obtain rfl:m=n:=by lia
  exact q p b d
end
open HT
theorem z5l:∀k:List Int,z0q k k=false
 | []=>rfl
 | x::a=>by rw[z0R,if_pos rfl];exact z5l a
theorem z9o:∀{a b c:List Int},z0q a b=true->z0q b c=true->z0q a c=true
 | [],[],_,h,_=>by cases h
 | [],_::_,[],_,k=>by cases k
 | [],_::_,_::_,_,_=>rfl
 | _::_,[],_,h,_=>by cases h
 | _::_,_::_,[],_,k=>by cases k
 | x::f,y::g,z::i,h,k=>by
  rw[z0R] at h k ⊢
  by_cases e:x=y
  .subst e
   by_cases d:x=z
   .subst d;rw[if_pos rfl] at h k ⊢;exact z9o h k
   .rw[if_neg d] at k ⊢;exact k
  grind
theorem z8E:∀(a b:List Int),z0q a b=false->z0q b a=false->a=b
 | [],[],_,_=>rfl
 | [],_::_,h,_=>by cases h
 | _::_,[],_,k=>by cases k
 | x::d,y::f,h,k=>by
  rw[z0R] at h k
  by_cases e:x=y
  .subst e;rw[if_pos rfl] at h k;rw[z8E d f h k]
  grind
def rkL (l:List (List Int))(k:List Int):Nat:=l.countP λq=>z0q q k
def z7X {d:Type}{p q:d->Bool}{l:List d}(h:∀x,p x=true->q x=true){a:d}(b:a∈l)(f:p a=false)(g:q a=true):l.countP p<l.countP q:=by
 induction l with
 | nil=>cases b
 | cons y l j=>
  rw[List.countP_cons,List.countP_cons];have e:l.countP p<=l.countP q:=List.countP_mono_left λx _ i=>h x i
  rcases wm.mp b with rfl | b
  .rw[f,g];simp;omega
  .have:=j b
   by_cases py:p y=true
   .simp_all
   .rw[if_neg py];split <;> omega
def z9a {l:List (List Int)}{a b:List Int}(g:a∈l)(h:b∈l):z0q a b=decide (rkL l a<rkL l b):=by
 cases q:z0q a b with
 | true=>
  symm
  apply vz;exact z7X (λx e=>z9o e q) g (z5l a) q
 | false=>
  symm
  apply wX;intro d
  cases f:z0q b a with
  | true=>
   have:=z7X (p:=λx=>z0q x b) (λx e=>z9o e f) h (z5l b) f;unfold rkL at d;omega
  | false=>
   rw[z8E a b q f] at d;omega
section
variable {prog:Program}{w:World}{A:Around}{E:WvP}{s:Shared}
theorem z5o {b fin:Bool}{Q:Bool->Shared->Prop}:∀{vs ws:List Value}{ns d:List Int} i,IntsAre vs ns->IntsAre ws d->fin=decide (ns.length<d.length)->Q (z0q ns d) s->KatLex prog w A b fin Q (vs.zip ws) i s
 | _,_,_,_,i,.nil,.nil,a,h=>by
  refine kat_nil ?_;rw[a];exact h
 | _,_,_,_,i,.nil,.cons m u r,a,h=>by
  refine kat_nil ?_;rw[a];rw[show decide (([]).length<(m::_).length)=true by simp];exact h
 | _,_,_,_,i,.cons n t r,.nil,a,h=>by
  refine kat_nil ?_;rw[a];rw[show decide ((n::_).length<([]).length)=false by simp];exact h
 | _,_,_,_,i,.cons n t r,.cons m u r2,a,h=>by
  refine kat_cons (wpAny_eqBool_int ?_);rw[z0R] at h
  by_cases e:n=m
  .subst e;rw[if_pos rfl] at h;rw[show (n == n)=true by simp];exact kat_yes (z5o (i+1) r r2 (by rw[a];simp) h)
  .rw[if_neg e] at h;rw[show (n == m)=false by simpa using e];refine kat_no ?_
   cases f:(b && i == 0) with
   | true=>exact oneLt_int h
   | false=>exact kat_one _ _ (lt_int h)
def TI (h:Heap)(v:Value)(k:List Int):Prop:=∃a o z03 n,v = .ref a/\h.get? a=some o/\o.cls = .type "tuple"/\o.data = .seq z03 n/\IntsAre z03.toList k
def TI.keep {h h':Heap}{v:Value}{k:List Int}(x:TI h v k)(g:∀b o,h.get? b=some o->o.cls = .type "tuple"->h'.get? b=some o):TI h' v k:=by
 obtain⟨a,o,z03,n,e,f,d,i,j⟩:=x;exact⟨a,o,z03,n,e,g _ _ f d,d,i,j⟩
def AsV (prog:Program)(w:World)(A:Around)(s:Shared)(κ:SortKind)(vs:List Value)(rk:Value->Nat):Prop:=∀x∈vs,∀y∈vs,∀Q E,Q (decide (rk x<rk y)) s->wpAny (model prog w) A (keyLt' κ x y) Q E s
def zeE {vs:List Value}{key:Value->List Int}(a:∀v∈vs,TI s.heap v (key v))(b:Bool):AsV prog w A s (tuples' b) vs (λv=>rkL (vs.map key) (key v)):=by
 intro x f y g Q E h;rw[<- z9a (we.mpr ⟨_,f,rfl⟩) (we.mpr ⟨_,g,rfl⟩)] at h;obtain⟨p,G,u,C,l,n,r,i,d⟩:=a _ f;obtain⟨q,H,z,F,m,o,t,j,e⟩:=a _ g;rw[l,m];exact kat_lt n i o j (z5o 0 d e (by rw[<- IntsAre.length d, <- IntsAre.length e,vW,vW]) h)
theorem z5p {h:Heap}{key:Value->List Int}:∀{vs:List Value},(∀v∈vs,TI h v (key v)/\key v≠[])->∃fs,KatTups h vs fs/\fs.length=vs.length/\∀f∈fs,∃n t,f = .int n t
 | [],_=>⟨[],.nil,rfl,λ_ h=>by cases h⟩
 | v::vs,i=>by
  obtain⟨fs,u,w,y⟩:=z5p (λv s=>i v (wn _ s));obtain⟨⟨a,o,z03,n,e,j,l,m,b⟩,g⟩:=i v (wv ..);subst e;obtain⟨x,xs,ex⟩:Ee2 λx xs=>key (.ref a)=x::xs:=by
   cases q:key _ with
   | nil=>exact(g q).elim
   | cons x xs=>exact⟨x,xs,rfl⟩
  rw[ex] at b;generalize p:z03.toList=z at b
  cases b with
  | cons _ t r=>
   refine⟨.int x t::fs,.cons j l m ?_ u,by simp[w],λf d =>?_⟩
   .rw[<- uq,p];rfl
   .rcases wm.mp d with rfl | d
    .exact⟨_,_,rfl⟩
    .exact y f d
def ze8 {vs:List Value}{key:Value->List Int}{Q:SortKind->Shared->Prop}(a:∀v∈vs,TI s.heap v (key v)/\key v≠[])(b:0<vs.length)(h:Q (tuples' true) s):wpAny (model prog w) A (keyKind' vs.toArray) Q E s:=by
 obtain⟨fs,e,g,f⟩:=z5p a;refine kat_kind (T :=.type "int") e (by omega) (λv d =>?_) rfl h;obtain⟨n,t,rfl⟩:=f v d;exact Looks.now
def zdC {a:Type}{R:a->a->Prop}{l:List a}(h:l.length<2):l.Pairwise R:=by
 match l,h with
 | [],_=>simp_all
 | [x],_=>exact List.pairwise_singleton _ _
def z4P (prog:Program)(w:World)(h:Heap)(vs:List Value)(rk:Value->Nat):Prop:=∀A s,(∀b o,h.get? b=some o->o.cls = .type "tuple"->s.heap.get? b=some o)->
 ∃a,AsV prog w A s a vs rk/\(1<vs.length->∀Q E,Q a s->wpAny (model prog w) A (keyKind' vs.toArray) Q E s)
def z4P.keep {h h':Heap}{vs:List Value}{rk:Value->Nat}(x:z4P prog w h vs rk)(k:∀b o,h.get? b=some o->h'.get? b=some o):z4P prog w h' vs rk:=λA s a=>x A s λb o e c=>a b o (k b o e) c
def z4P.tups {h:Heap}{vs:List Value}{key:Value->List Int}(b:∀v∈vs,TI h v (key v)/\key v≠[]):z4P prog w h vs (λv=>rkL (vs.map key) (key v)):=λA s k=>
 ⟨_,zeE (λv a=>(b v a).1.keep k) _,λd Q E q=>ze8 (λv a=>⟨(b v a).1.keep k,(b v a).2⟩) (by omega) q⟩
def z7E {vs:List Value}{rk:Value->Nat}{n:Nat}{P:PySem.Fin->Shared->Prop}(z:s.heap.get? a=some (seqObj "list" vs.toArray n))(U:vs.length<=sizeLine)(M:vs.length<64)
  (Z:z4P prog w s.heap vs rk)
  (h:∀l:List Value,l.Perm vs->l.Pairwise (λx y=>rk x<=rk y)->P (.done (.ret .none)) { s with heap:=sortedHeap s.heap a vs l.toArray }):
  wpAny (model prog w) A (Builtin.«list.sort» ⟨[.ref a],[]⟩) P E s:=by
 rw[list_sort_plain];have g:a<s.heap.objs.size:=wu z;refine wc (listItems_at z rfl ?_);refine wc (listUpdate_at z rfl ?_ (by rw[wG];omega) (vG _));obtain⟨L,F⟩:∃L,(s.heap.update a (Obj.mapSeq λ_ => #[])).get? a=some (seqObj "list" #[] L):=⟨_,get?_update_seq z (λ_ => #[])⟩
 refine wc (seqEpoch_at F rfl ?_);refine wc (wpAny_newTuple ?_ (by show vs.length<=_;omega));refine wc (wpAny_newList ?_ (vG _));refine v8 ?_;have d:(((s.heap.update a (Obj.mapSeq λ_ => #[])).push (seqObj "tuple" vs.toArray 0)).push (seqObj "list" #[] 0)).get? a=some (seqObj "list" #[] L):=by
  rw[jF _ _ _ (by rw[size_push',Heap.size_update];exact wJ (ud g)),jF _ _ _ (by rw[Heap.size_update];exact wJ g)];exact F
 have keep:∀b o,s.heap.get? b=some o->o.cls = .type "tuple"->(((s.heap.update a (Obj.mapSeq λ_ => #[])).push (seqObj "tuple" vs.toArray 0)).push (seqObj "list" #[] 0)).get? b=some o:=λb o J Y=>by
  have t:b<s.heap.objs.size:=wu J;have O:b≠a:=by
   rintro rfl;rw[z] at J
   cases J
   exact absurd (show Value.type "list"=Value.type "tuple" from Y) (by decide)
  rw[jF _ _ _ (by rw[size_push',Heap.size_update];exact wJ (ud t)),jF _ _ _ (by rw[Heap.size_update];exact wJ t),Heap.get?_update_ne _ _ _ _ O];exact J
 show wpAny (model prog w) A _ P E { s with heap:=((s.heap.update a (Obj.mapSeq λ_ => #[])).push (seqObj "tuple" vs.toArray 0)).push (seqObj "list" #[] 0) };dsimp only;have R:vs.toArray.size=vs.length:=by simp
 by_cases m:vs.toArray.size<2
 .rw[if_pos m,if_pos m];refine wc (wj ?_);rw[StateT.run_pure];refine wc (wj ?_);dsimp only;refine wc (seqEpoch_at d rfl ?_);have W:(arrOf (SortSt.mk' general' (vs.toArray.zip vs.toArray) #[] 7 none)).map (·.2)=vs.toArray:=by
   show (vs.toArray.zip vs.toArray).map (·.2)=_;apply Array.toList_inj.mp;simpa using List.map_snd_zip (l₁:=vs) (l₂:=vs) (wt _)
  rw[W];refine wc (listUpdate_at d rfl ?_ (vG _) (Nat.le_succ_of_le (by rw[R];exact U)));simp only[bne_self_eq_false,vp,ja];exact wj (h vs (List.Perm.refl _) (zdC (by omega)))
 .rw[if_neg m,if_neg m];obtain⟨κ,ka,kk⟩:=Z A { s with heap:=((s.heap.update a (Obj.mapSeq λ_ => #[])).push (seqObj "tuple" vs.toArray 0)).push (seqObj "list" #[] 0) } keep;refine wc (kk (by omega) _ _ ?_);have H:∀i,i<vs.length->vs.getD i Value.none∈vs:=λi r=>by rw[ug,wo r];exact jK r
  refine wc (vH (kat_run (ks:=vs) (vs:=vs) (κ:=κ) (Q:=λf I=>I=_/\Ee1 λp=>Aa4 (Ok vs.length p) (Up (λi=>rk (vs.getD i Value.none)) p vs.length) (arrOf f=p.map (kas_item (vs.toArray.zip vs.toArray))) (failedOf f=none)) (G:=λp I=>Aa3 (I=_) (Ok vs.length p) (Up (λi=>rk (vs.getD i Value.none)) p vs.length)) rfl (by omega) M (λp f I _ g K ⟨e,o,u⟩=>⟨e,p,o,u,g,K⟩) (zkY (rk:=λi=>rk (vs.getD i Value.none)) (λi j C r T q=>ka _ (H i r) _ (H j T) C _ q) (by omega) λp o u=>⟨rfl,o,u⟩)) ?_ λ_ _ e=>e);rintro⟨⟨⟩,f⟩ I ⟨rfl,p,o,u,g,K⟩;dsimp only at g K ⊢;have X:=kat_snds (ks:=vs) (vs:=vs) rfl g;refine wc (seqEpoch_at d rfl ?_);rw[X];have S:p.toList.length=vs.length:=by rw[vW,z3a o]
  refine wc (listUpdate_at d rfl ?_ (vG _) (Nat.le_succ_of_le (by rw[wG,wd,S];exact U)));rw[K];simp only[bne_self_eq_false,vp,ja];refine wj (h _ ?_ ?_)
  .have:=(Array.perm_iff_toList_perm.mp o).map λi=>vs.getD i Value.none;refine this.trans ?_;rw[show (List.range vs.length).toArray.toList.map (λi=>vs.getD i Value.none)=vs from List.ext_getElem (by simp) λi h1 m=>by simp[m]]
  .rw[wZ,vN];intro i j r T N;have:=u i j (uy N) (by omega);unfold Rn at this;rw[uC (by rw[z3a o];omega),uC (by rw[z3a o];omega)] at this;simpa using this
def zkQ (prog:Program)(w:World)(rk:Value->Nat)(Q:WvP)(vs:List Value)(d:Shared):Prop:=
 vs.length<64/\z4P prog w d.heap vs rk/\∀a:List Value,a.Perm vs->a.Pairwise (λx y=>rk x<=rk y)->
  ∀f,(∀b o,d.heap.get? b=some o->f.get? b=some o)->(∃e,f.get? d.heap.objs.size=some (seqObj "list" a.toArray e))->Q (.ref d.heap.objs.size) { d with heap:=f }
def z5a {v:Value}{Q:WvP}(i:∀E',wpAny (model prog w) A.in1 (collect v) (λvs a=>∃rk,zkQ prog w rk Q vs a) E' s):wpAny (model prog w) A (call (.builtin "sorted") [v]) Q E s:=by
 refine Calls.call_function_entry kind_sorted plain_sorted entry_sorted (args_sorted1 _) ?_;unfold Builtin.«sorted»;refine wc (m:=checkCount "sorted" 1 1 _) (wj ?_);refine wc (vH (i _) (λvs a q =>?_) λ_ _ e=>e);obtain⟨rk,f,p,h⟩:=q;have n:vs.length<=sizeLine:=wO (uy f) (by decide);refine wc (wpAny_newList ?_ n);have d:(a.heap.push (seqObj "list" vs.toArray 0)).get? a.heap.objs.size=some (seqObj "list" vs.toArray 0):=wp _ rfl;have keep:∀b o,a.heap.get? b=some o->(a.heap.push (seqObj "list" vs.toArray 0)).get? b=some o:=λb o q=>wf _ q;show wpAny _ _ _ _ _ { a with heap:=a.heap.push (seqObj "list" vs.toArray 0) };refine wc (v8 (ub slot_list_sort ⟨_,d,rfl⟩ entry_list_sort (z7E d n f (p.keep keep) λl r t=>⟨_,rfl,?_⟩) (args_list_sort _)));refine wj ⟨_,rfl,h l r t _ (λb o g =>?_) ?_⟩
 .have j:b<a.heap.objs.size:=wu g;rw[sortedHeap_old (wJ j) (by rw[size_push'];exact ud j)];exact keep b o g
 .exact sortedHeap_at d
def zkP (key:Value->List Int)(Q:WvP)(vs:List Value)(d:Shared):Prop:=
 vs.length<64/\(∀x∈vs,TI d.heap x (key x)/\key x≠[])/\∀a:List Value,a.Perm vs->a.Pairwise (λx y=>z0q (key y) (key x)=false)->
  ∀f,(∀b o,d.heap.get? b=some o->f.get? b=some o)->(∃e,f.get? d.heap.objs.size=some (seqObj "list" a.toArray e))->Q (.ref d.heap.objs.size) { d with heap:=f }
def z8j {v:Value}{key:Value->List Int}(a:∀E',wpAny (model prog w) A.in1 (collect v) (zkP key Q) E' s):wpAny (model prog w) A (call (.builtin "sorted") [v]) Q E s:=
 z5a λE'=>vH (a E') (λvs n ⟨l,f,h⟩=>⟨_,l,z4P.tups f,λd b m=>h d b (m.imp_of_mem λ{x y} g j i=>by
  rw[z9a (we.mpr ⟨_,b.mem_iff.mp j,rfl⟩) (we.mpr ⟨_,b.mem_iff.mp g,rfl⟩)]
  simp_all)⟩) λ_ _ e=>e
end
end Tim
namespace Tab
open PySem PySem.SetTable PyProof.Rows
def z5Q:entryFor table "set.__iter__"=some Builtin.«frozenset.__iter__»:=
 entryFor_alias (id':="frozenset.__iter__") (by kernel_rfl) rfl (by decide +kernel) (by kernel_rfl)
def z1x:Slot "set_iterator" "__next__" "set_iterator.__next__":=
 .of (owner:="set_iterator") (n:="__next__") (by rfl) (by decide +kernel) (by decide +kernel) (by decide +kernel)
  (by first | exact .inl (by decide +kernel) | grind) (by rfl)
def z4E:Slot "set_iterator" "__iter__" "set_iterator.__iter__":=
 .of (owner:="set_iterator") (n:="__iter__") (by rfl) (by decide +kernel) (by decide +kernel) (by decide +kernel)
  (by first | exact .inl (by decide +kernel) | rfl) (by kernel_rfl)
def z4d:entryFor table "set_iterator.__next__"=some Builtin.«set_iterator.__next__»:=entryFor_of_fast (by kernel_rfl)
def z4L (a:Value):argsOk "set_iterator.__next__" ⟨[a],[]⟩:=by rfl
section
variable {prog:Program}{w:World}{A:Around}{E:WvP}{s:Shared}
def z2f (h:Heap)(it S:Addr)(a i n ep:Nat):Prop:=∃o,h.get? it=some o/\o.cls = .type "set_iterator"/\o.data = .fields #[.int a 0,.int i 0,.ref S,.int n 0,.int ep 0]
def z2f.typeIs {it S:Addr}{a i n ep:Nat}(x:z2f s.heap it S a i n ep):s.TypeIs (.ref it) "set_iterator":=let ⟨o,d,b,_⟩:=x;⟨o,d,b⟩
def z4N {t:SetTable}(b:s.heap.get? S=some o)(g:o.cls = .type "set")(d:o.data = .set es ep t)(e:t.fits es.size=true)(i:t.plain=true)
  (h:Q (.ref s.heap.objs.size) { s with heap:=s.heap.push { cls :=.type "set_iterator",data :=.fields #[.int 0 0,.int 0 0,.ref S,.int es.size 0,.int ep 0] } }):wpAny (model prog w) A (pyIter (.ref S)) Q E s:=by
 have f:s.TypeIs (.ref S) _:=⟨o,b,g⟩
 refine wpAny_pyIter_slot f F.slot_set_iter (ub F.slot_set_iter f z5Q ?_ (F.args_set_iter_1 _));show wpAny _ _ (Builtin.Frozenset.sizeOf S >>= _) _ _ s;refine wc (wc (wc (vT b d e (wj (wj ?_)))));refine wc (wc (vT b d e ?_));show wpAny _ _ (setsByText >>= λa=>pure (!a && (!t.plain && decide _))) _ _ s;refine wc (wc (jM (wj (wj ?_))));rw[i];simp only[Bool.not_true,Bool.false_and,Bool.and_false,vp,ja];refine wc (wj (wc (wc (vT b d e (wj ?_)))));exact wc (vg (wj ⟨_,rfl,"set_iterator",_,⟨_,wp _ rfl,rfl⟩,z1x.lookup,h⟩))
noncomputable def nxt (w:World)(S:Addr)(es:Array (Int × Value))(ep:Nat)(t:SetTable)(a i:Nat):Option (Value × Nat):=
 if w.params.followText "set-order"=true then ((pickOrder (w.params.setOrder S ep) es)[i]?).map λe=>(e.2,a) else
  match es[below t.place a]?, t.place[below t.place a]? with
  | some (_,x),some j=>some (x,j+1)
  | _,_=>none
def z3J {ep:Nat}{t:SetTable}{a i:Nat}(g:s.heap.get? S=some o)(e:o.data = .set es ep t)(f:t.fits es.size=true)(l:t.plain=true)(j:t.led = !w.params.followText "set-order")
  (h:Q (nxt w S es ep t a i) s):wpAny (model prog w) A (setNext S a i ep) Q E s:=by
 unfold setNext;refine wc (vT g e f ?_);show wpAny _ _ (setsByText >>= _) _ _ s;unfold setsByText;refine wc (wc (jM (wj ?_)));unfold nxt at h
 by_cases c:w.params.followText "set-order"=true
 .have d:(model prog w).w.params.followText "set-order"=true:=c;rw[if_pos c] at h;rw[if_pos d];rw[if_neg (by simp)];unfold setWalk;refine wc (wc (vT g e f ?_));show wpAny _ _ (setsByText >>= _) _ _ s;unfold setsByText;refine wc (wc (jM (wj ?_)));rw[if_pos d];exact wc (jM (wj (wj h)))
 .have d:¬ (model prog w).w.params.followText "set-order"=true:=c;rw[if_neg c] at h;rw[if_neg d];have b:t.led=true:=by rw[j];simpa using c
  show wpAny _ _ (if (!t.plain && decide (es.size > 1))=true then _ else _) _ _ s;rw[l,if_neg (by simp)];show wpAny _ _ ((if (!t.led && !es.isEmpty)=true then unsupported "set:maker-not-led" else pure PUnit.unit) >>= _) _ _ s;rw[b,if_neg (by simp)];exact wc (wj (wj h))
def z31 {ep:Nat}{t:SetTable}{d i a:Nat}(e:z2f s.heap it S d i es.size ep)
  (m:s.heap.get? S=some o) (j:o.data = .set es ep t) (l:t.fits es.size=true) (q:t.plain=true) (p:t.led = !w.params.followText "set-order") (r:nxt w S es ep t d i=some (x,a))
  (n:∀h',z2f h' it S a (i+1) es.size ep->Heap.SameBut it s.heap h'->Q (some x) { s with heap:=h' }):wpAny (model prog w) A (pyNext (.ref it)) Q E s:=by
 obtain⟨u,f,g,b⟩:=id e;unfold pyNext;refine wc (wpAny_attempt (vX e.typeIs z1x
  (ub z1x e.typeIs z4d ?_ (z4L _))))
 show wpAny _ _ (fieldsOf (.ref it) >>= _) _ _ s;refine wc (wpAny_fieldsOf f b ?_);unfold setEntries;refine wc (wc (vT m j l (wj ?_)));rw[if_neg (by simp)];simp only[Int.toNat_natCast];refine wc (z3J m j l q p ?_);rw[r];dsimp only;refine wc (j6 f b (by simp) ?_);have h:=vJ (Obj.mapFields (·.setIfInBounds 0 (rawInt a))) f (Obj.isFreed_of_fields (ux b _));refine wc (j6 h (ux b _) (by simp) ?_);refine wj ⟨x,rfl,wj (n _ ?_ ((uB ..).trans (uB ..)))⟩;refine⟨_,vJ _ h (Obj.isFreed_of_fields (ux (ux b _) _)),((Obj.cls_mapFields ..).trans (Obj.cls_mapFields ..)).trans g,?_⟩;rw[ux (ux b _)];simp[rawInt]
def z3x {ep:Nat}{t:SetTable}{d i:Nat}(l:A.handled=none)(e:z2f s.heap it S d i es.size ep)
  (n:s.heap.get? S=some o) (h:o.data = .set es ep t) (j:t.fits es.size=true) (u:t.plain=true) (r:t.led = !w.params.followText "set-order") (x:nxt w S es ep t d i=none)
  (p:∀h',Heap.ExtBut it s.heap h'->Q none { s with heap:=h' }):wpAny (model prog w) A (pyNext (.ref it)) Q E s:=by
 obtain⟨y,g,q,f⟩:=id e;unfold pyNext;refine wc (wpAny_attempt (vX (name:=Str.ofString "__next__") e.typeIs z1x
  (ub z1x e.typeIs z4d ?_ (z4L _))))
 show wpAny _ _ (fieldsOf (.ref it) >>= _) _ _ s;refine wc (wpAny_fieldsOf g f ?_);show wpAny _ _ (setEntries S >>= _) _ _ s;unfold setEntries;refine wc (wc (vT n h j (wj ?_)));rw[if_neg (by simp)];show wpAny _ _ (setNext S (d:Int).toNat (i:Int).toNat (ep:Int).toNat >>= _) _ _ s;simp only[Int.toNat_natCast];refine wc (z3J n h j u r ?_);rw[x];dsimp only;refine wc (j6 g f (by simp) ?_);show wpAny _ _ (newExc (.type "StopIteration") [] >>= _) _ _ _;refine wc ?_;simp only[newExc,newTuple];refine wc (vg ?_ (by size_fits));refine wc (m:=firstArgMember _ _) (wpAny_of_eq (a:=Value.none) (by first | rfl | (simp only[firstArgMember];rfl)) ?_);refine vg ?_ (by size_fits);simp only[raiseNew];refine wc (wpAny_handled ?_)
 first | rw[show A.in1.handled=none from l] | rw[l]
 refine wc (wj (wpAny_throw ?_));refine wc (wpAny_isInstance (T:="StopIteration") (b:=true) ⟨_,wp _ rfl,rfl⟩ isSubtype_stop ?_);exact wj (p _ (((uB ..).extBut.push _).push _))
end
theorem z7o {d:Type}(next:Nat->Nat):∀n k (left:List d) a,left.length=n->(pickOrder.go next n k left a).toList.Perm (a.toList++left)
 | 0,k,left,a,h=>by
  rw[List.eq_nil_of_length_eq_zero h,vk]
  rfl
 | n+1,k,left,a,h=>by
  have b:next k % left.length<left.length:=je _ (by lia);rw[pickOrder.go,wo b];refine(z7o _ n _ _ _ (by rw[List.length_eraseIdx_of_lt b];lia)).trans ?_;rw[Array.toList_push,vS];refine jA _ ?_;show (left[next k % left.length]::left.eraseIdx _).Perm _;rw[List.eraseIdx_eq_take_drop_succ];refine(jL.symm).trans ?_;rw[<- u8 b,u5]
def z5G {a:Type}(next:Nat->Nat)(xs:Array a):(pickOrder next xs).toList.Perm xs.toList:=by
 have:=z7o next xs.size 0 xs.toList #[] (by simp);simpa[pickOrder] using this
def ordE (w:World)(S:Addr)(es:Array (Int × Value))(ep:Nat):Array (Int × Value):=if w.params.followText "set-order"=true then pickOrder (w.params.setOrder S ep) es else es
def z7t (w:World)(S:Addr)(es:Array (Int × Value))(ep:Nat):(ordE w S es ep).toList.Perm es.toList:=by
 unfold ordE
 split
 .exact z5G _ _
 rfl
def z5e (w:World)(S:Addr)(es:Array (Int × Value))(ep:Nat):(ordE w S es ep).size=es.size:=by
 rw[<- vW,(z7t w S es ep).length_eq,vW]
noncomputable def z5b (w:World)(t:SetTable)(i:Nat):Nat:=if w.params.followText "set-order"=true then 0 else if i=0 then 0 else t.place.getD (i - 1) 0+1
def z69 {t:SetTable}(d:Rise t.place){i:Nat}(l:i<=t.place.size):below t.place (if i=0 then 0 else t.place.getD (i - 1) 0+1)=i:=by
 obtain⟨j,a,b⟩:=z4B d (if i=0 then 0 else t.place.getD (i - 1) 0+1);generalize below t.place (if i=0 then 0 else t.place.getD (i - 1) 0+1)=k at*
 by_cases e:i=0
 .subst e;rw[if_pos rfl] at a
  by_cases z:k=0
  .exact z
  .have:=a 0 (by lia);lia
 .rw[if_neg e] at a b
  by_cases c:k<i
  .have:=b (i - 1) (by lia) (by lia);lia
  .by_cases f:i<k
   .have g:=a i f;have h:=d (i - 1) i (by lia) (by lia);lia
   .lia
def ze0 {t:SetTable}(f:Rise t.place)(hsz:t.place.size=es.size)(d:i<es.size):
  ∃e,(ordE w S es ep)[i]? = some e/\nxt w S es ep t (z5b w t i) i=some (e.2,z5b w t (i+1)):=by
 have a:i<(ordE w S es ep).size:=by rw[z5e];exact d
 refine⟨(ordE w S es ep)[i],jT _ i a,?_⟩;unfold nxt z5b
 by_cases c:w.params.followText "set-order"=true
 .simp only[if_pos c];have b:ordE w S es ep=pickOrder (w.params.setOrder S ep) es:=by unfold ordE;rw[if_pos c]
  rw[<- b,jT _ i a]
  rfl
 .simp only[if_neg c];have b:ordE w S es ep=es:=by unfold ordE;rw[if_neg c]
  rw[z69 f (by lia),jT es i d,zmx (xs:=t.place) (by lia)];simp only[Nat.add_sub_cancel,if_neg (Nat.succ_ne_zero i)]
  congr 1
  simp only[b]
def zgW {t:SetTable}(b:Rise t.place)(hsz:t.place.size=es.size):nxt w S es ep t (z5b w t es.size) es.size=none:=by
 unfold nxt z5b
 by_cases c:w.params.followText "set-order"=true
 .simp only[if_pos c];have a:ordE w S es ep=pickOrder (w.params.setOrder S ep) es:=by unfold ordE;rw[if_pos c]
  rw[<- a,getElem?_neg _ _ (by rw[z5e];lia)]
  rfl
 .simp only[if_neg c];rw[z69 b (by lia),getElem?_neg es es.size (by lia)]
def z6S:entryFor table "set_iterator.__iter__"=some Builtin.«dict_keyiterator.__iter__»:=
 entryFor_alias (id':="dict_keyiterator.__iter__") (by kernel_rfl) rfl (by decide +kernel) (by kernel_rfl)
def z89 (a:Value):argsOk "set_iterator.__iter__" ⟨[a],[]⟩:=by rfl
section
variable {prog:Program}{w:World}{A:Around}{E:WvP}{s:Shared}
def z50 {b i n ep:Nat}(a:z2f s.heap it S b i n ep)(h:Q (.ref it) s):wpAny (model prog w) A (pyIter (.ref it)) Q E s:=by
 refine wpAny_pyIter_slot a.typeIs z4E (ub z4E a.typeIs z6S ?_ (z89 _));exact wj ⟨_,rfl,"set_iterator",_,a.typeIs,z1x.lookup,h⟩
theorem Walks.set (H:A.handled=none)(I S:Addr)(n:S≠I){o:Obj}{es:Array (Int × Value)}{ep:Nat}{t:SetTable}(p:o.data = .set es ep t)(q:t.fits es.size=true)(x:t.plain=true)(u:t.led = !w.params.followText "set-order")(y:Rise t.place)(hsz:t.place.size=es.size):
  Walks prog w A I [I,S] [I] es.size (λi v=>∃e,(ordE w S es ep)[i]? = some e/\v=e.2) (λi h=>z2f h I S (z5b w t i) i es.size ep/\h.get? S=some o) where
 sub:=λb d=>by simp at d;simp[d]
 frame:=λi h l a r=>⟨let ⟨K,F,G⟩:=a.1;⟨K,r I (by simp) _ F,G⟩,r S (by simp) _ a.2⟩
 item:=λi s Q E J a f=>by
  obtain⟨e,z,C⟩:=ze0 (w:=w) (S:=S) (ep:=ep) y hsz J;refine z31 a.1 a.2 p q x u C λl g j =>?_;exact f _ l s.toks ⟨e,z,rfl⟩ ⟨g,j.extBut S _ n a.2⟩ λb o d e=>j.extBut b o (λh=>d (by simp[h])) e
 done:=λs Q E a f=>z3x H a.1 a.2 p q x u (zgW y hsz) λl m=>f l s.toks λb o d e=>m b o (λh=>d (by simp[h])) e
 self:=λ_ _ _ _ a f=>z50 a.1 f
def z8Q {t:SetTable}(hh:A.handled=none)(W:s.heap.get? S=some o)(N:o.cls = .type "set")(T:o.data = .set es ep t)(U:t.fits es.size=true)(X:t.plain=true)(hl:t.led = !w.params.followText "set-order")(hr:Rise t.place)(hsz:t.place.size=es.size)(hz:es.size<=sizeLine)
  (h:∀s',(∀b o,s.heap.get? b=some o->s'.heap.get? b=some o)->s'.gens=s.gens->s'.drawn=s.drawn->s'.os=s.os->s.toks<=s'.toks->Q ((ordE w S es ep).toList.map (·.2)) s'):wpAny (model prog w) A (collect (.ref S)) Q E s:=by
 have d:S<s.heap.objs.size:=wu W;unfold collect;refine wc (wpAny_runValue (uG F.entry_proto_collect ?_));rw[ui F.plain_proto_collect _];show wpAny _ A.in1 (newList [] >>= λl=>again (.builtin "list.__iadd__" ⟨[l,.ref S],[]⟩)) _ _ s;refine wc (vg ?_);refine wj ⟨uN F.plain_list_iadd _,uG F.entry_list_iadd ?_⟩;rw[ui F.plain_list_iadd _];show wpAny _ A.in1 (Builtin.List.listExtendWith (.ref s.heap.objs.size) (.ref S) (.ref s.heap.objs.size)) _ _ _;unfold Builtin.List.listExtendWith;have j:(s.heap.push { cls :=.type "list",data :=.seq ([]).toArray }).get? S=some o:=wf _ W;have M:Shared.TypeIs { s with heap:=s.heap.push { cls :=.type "list",data :=.seq ([]).toArray } } (.ref S) "set":=⟨o,j,N⟩
 refine wc (jS M ?_);have h1:Builtin.List.listSameRef (.ref s.heap.objs.size) (.ref S)=false:=by simp[Builtin.List.listSameRef];exact jw d
 have h2:(Value.type "set" == Value.type "list")=false:=by decide
 have h3:(Value.type "set" == Value.type "tuple")=false:=by decide
 simp only[h1,h2,h3,Bool.or_false,vp,ja];refine wc (z4N j N T U X ?_);refine wc (v8 ?_);generalize G:s.heap.push { cls :=.type "list",data :=.seq ([]).toArray }=H at*;have q:H.objs.size=s.heap.objs.size+1:=by rw[<- G,v5]
 dsimp only;have u:Shared.TypeIs { s with heap:=H.push { cls :=.type "set_iterator",data :=.fields #[.int 0 0,.int 0 0,.ref S,.int es.size 0,.int ep 0] } } (.ref S) "set":=⟨o,wf _ j,N⟩
 unfold Builtin.List.listLengthHint;refine wc (wpAny_specialOf u F.slot_set_len.lookup ?_)
 wp_delta
 refine wc (wpAny_isInstance (b:=true) u (by rw[isSubtype_type];kernel_rfl) ?_);show wpAny _ A.in1 (typeOf (Value.ref S) >>= _) _ _ _;refine wc (jS u ?_);refine wj ?_;rw[if_pos (by decide)];refine wc (wpAny_rule ?_);refine wc ?_;show wpAny _ A.in1 (updateSeq s.heap.objs.size (·.push .none) >>= λ_=>updateSeq s.heap.objs.size (·.pop)) _ _ _;generalize I:({ cls :=.type "set_iterator",data :=.fields #[.int 0 0,.int 0 0,.ref S,.int es.size 0,.int ep 0] }:Obj)=io at*;have f:(H.push io).get? s.heap.objs.size=some { cls :=.type "list",data :=.seq ([]).toArray }:=wf _ (G ▸ wp _ rfl);refine wc (jB f rfl ?_);have g:=vJ (Obj.mapSeq (·.push Value.none)) f rfl;refine jB g rfl ?_;have r:=vJ (Obj.mapSeq (·.pop)) g rfl;have x:∀b o,b≠s.heap.objs.size->(H.push io).get? b=some o->(((H.push io).update s.heap.objs.size (Obj.mapSeq (·.push Value.none))).update s.heap.objs.size (Obj.mapSeq (·.pop))).get? b=some o:=
  λb o C e=>(vB _ _ (vQ C)).trans ((vB _ _ (vQ C)).trans e)
 have p:S≠s.heap.objs.size:=wJ d;have n:H.objs.size≠s.heap.objs.size:=by rw[q];exact jw (uK _)
 have K:S≠H.objs.size:=by rw[q];exact wJ (ud d)
 have L:s.heap.objs.size ∉ [H.objs.size,S]:=by
  simp only[wm,wz,vK,not_or];exact⟨vQ n,vQ p⟩
 have O:(H.push io).get? H.objs.size=some io:=wp _ (by rw[<- I];rfl);refine wj ⟨uN F.plain_extend_loop _,codeAny_extend_loopS (Walks.set (A:=A.in1) (w:=w) (prog:=prog) hh H.objs.size S K T U X hl hr hsz).toS hz _ L _ es.size 0 _ _ _ rfl (vG _)
  ⟨⟨io,x _ _ n O,by rw[<- I],by rw[<- I];simp[z5b]⟩,x _ _ p (wf _ j)⟩ r (ItemsOf.nil _) λs' a c' z J i =>?_⟩
 show wpAny _ A (load s.heap.objs.size >>= _) _ _ s';refine wc (wpAny_load J ?_);have hq:a.toList=(ordE w S es ep).toList.map (·.2):=by
  apply List.ext_getElem?;intro k;rw[uq,wK,uq]
  by_cases R:k<es.size
  .have y:k<a.size:=by rw[i.1];exact R
   obtain⟨e,Z,e2⟩:=i.2 k a[k] (jT a k y);rw[jT a k y,Z,e2];rfl
  .rw[getElem?_neg a k (by rw[i.1];exact R),getElem?_neg (ordE w S es ep) k (by rw[z5e];exact R)];rfl
 have m:=h s' (λb Y e=>z.heap b Y (λC =>?_) (x b Y (wJ (wu e)) (wf _ (G ▸ wf _ e)))) z.gens z.drawn z.os z.toks
 .rw[<- hq] at m;exact wj m
 .have d:=wu e
  rcases wm.mp C with h | h
  .exact absurd d (h ▸ vV _)
  .rw[wg.mp h,q] at d;exact absurd d (j5.mpr (Nat.le_succ _))
def zao {k:List Int}{vs:List Value}(h:ItemsAre (intKind prog w) k vs):IntsAre vs k:=by
 induction h with
 | nil=>exact .nil
 | cons a _ b=>
  obtain⟨t,rfl⟩:=Value.isInt_shape a;exact .cons _ _ b
def TK.ti {k:List Int}(x:TK prog w h k b):Tim.TI h (.ref b) k:=by
 obtain⟨o,z03,n,a,d,e,f⟩:=x;exact⟨b,o,z03,n,rfl,a,d,e,zao f⟩
def zhO {v:Value}{k k':List Int}(x:Tim.TI h v k)(y:Tim.TI h v k'):k=k':=by
 obtain⟨a,o,z03,n,e,i,q,j,l⟩:=x;obtain⟨m,s,b,r,d,f,p,g3,g⟩:=y;rw[e] at d;cases d;rw[i] at f;cases f;rw[j] at g3;cases g3;exact(IntsAre.nums l).symm.trans (IntsAre.nums g)
def z6N (h:Heap)(v:Value):List Int:=by
 classical exact if c:∃k,Tim.TI h v k then c.choose else []
def z6M {v:Value}{k:List Int}(x:Tim.TI h v k):z6N h v=k:=by
 unfold z6N;have c:∃k,Tim.TI h v k:=⟨k,x⟩
 rw[dif_pos c];exact zhO c.choose_spec x
def zcQ (t:Two (IsK prog w M h) l m):l.map (z6N h)=m:=by
 induction t with
 | nil=>rfl
 | cons a _ d=>
  obtain⟨_,b,rfl,z⟩:=a;rw[wI,d,z6M (TK.ti z)]
def z9V (T:A.handled=none)(x:SetK prog w M s.heap S kl)(r:∀k∈kl,k≠[])(Y:kl.length<64)
  (h:∀s' (d:List Value),(∀b o,s.heap.get? b=some o->s'.heap.get? b=some o)->s'.gens=s.gens->s'.drawn=s.drawn->s'.os=s.os->s.toks<=s'.toks->
   (d.map (z6N s.heap)).Perm kl->(∀v∈d,M v/\Tim.TI s.heap v (z6N s.heap v))->(d.map (z6N s.heap)).Pairwise (λa b=>HT.z0q b a=false)->
   ∀D,s.heap.get? D=none->(∃e,s'.heap.get? D=some (seqObj "list" d.toArray e))->Q (.ref D) s'):wpAny (model prog w) A (call (.builtin "sorted") [.ref S]) Q E s:=by
 obtain⟨L,R,q,H⟩:=x.len;obtain⟨o,n,G,t,y,_⟩:=R.ex;have p:n.size=L.length:=by rw[y.tab.es];simp
 have f:=zcQ q;have l:∀v∈L.map (·.2.2),Tim.TI s.heap v (z6N s.heap v):=λv j=>by
  obtain⟨k,_,_,b,rfl,z⟩:=q.mem_left j;rw[z6M (TK.ti z)];exact TK.ti z
 have i:((ordE w S n G).toList.map (·.2)).Perm (L.map (·.2.2)):=by
  refine((z7t w S n G).map (·.2)).trans ?_;rw[y.tab.es];simp only[wP];exact List.Perm.refl _
 refine Tim.z8j (key:=z6N s.heap) λX =>?_;refine z8Q (A:=A.in1) T y.get y.ex.1 y.data y.fits y.plain y.led y.tab.riseP (by rw[y.tab.place,p];simp) (wO (show n.size<=64 by omega) (by decide)) λF u I J g3 K =>?_;refine⟨by rw[i.length_eq,wd];lia,λv j =>?_,λd C W N keep O =>?_⟩
 .have m:=i.mem_iff.mp j;refine⟨(l v m).keep λb o g _=>u b o g,r _ ?_⟩;rw[<- f];exact we.mpr ⟨v,m,rfl⟩
 .refine h { F with heap:=N } d (λb o g=>keep b o (u b o g)) I J g3 K ?_ (λv j=>⟨(q.mem_left (i.mem_iff.mp (C.mem_iff.mp j))).choose_spec.2.1,l v (i.mem_iff.mp (C.mem_iff.mp j))⟩) (wZ.mpr W) F.heap.objs.size ?_ O
  .rw[<- f];exact(C.trans i).map _
  .cases U:s.heap.get? F.heap.objs.size with
   | none=>rfl
   | some o=>exact absurd (wu (u _ _ U)) (vV _)
end
end Tab
namespace Pu
open PySem PySem.Spec PyProof.Rows L2 Tab
def SetO (P:Program)(w:World)(a:Addr)(L:List (Rw Value))(h:Heap):Prop:=∃o b d t,h.get? a=some o/\o.ExactSet/\o.data = .set b d t/\TabW t b L/\L.length<=t.mask/\t.mask<=8191/\t.plain=true/\t.led=(!w.params.followText "set-order")/\L.length*5<t.mask*3
def Mem (K:W.Frag)(P:Program)(w:World)(G:Hp)(L:List (Rw Value))(a:List (List Int)):Prop:=Two (λr k=>∃b,r.2.2 = .ref b/\SqT K G b (k.map V.int)/\r.2.1=tupleKeyHash (intKind P w) k) L a
def Tis (K:W.Frag)(G:Hp)(xs:List V)(ks:List (List Int)):Prop:=Two (λx k=>∃b,x = .ref b/\SqT K G b (k.map V.int)) xs ks
def MemV (K:W.Frag)(G:Hp)(v:Value):Prop:=∃b k,v = .ref b/\SqT K G b ((k:List Int).map V.int)
def zaI {a b:Type}{R:a->b->Prop}{l:List a}{m:List b}(h:Two R l m):l.length=m.length:=by
 induction h with
 | nil=>rfl
 | cons _ _ d=>simp[d]
theorem z8h {a d e:Type}{R:a->d->Prop}{f:e->a}:∀{l:List e}{m:List d},Two R (l.map f) m->Two (λc b=>R (f c) b) l m
 | [],_,h=>by cases h;exact .nil
 | c::l,_,h=>by
  cases h with
  | cons g i=>exact .cons g (z8h i)
theorem zbR {a d e:Type}{R:a->d->Prop}{f:e->a}:∀{l:List e}{m:List d},Two (λc b=>R (f c) b) l m->Two R (l.map f) m
 | [],_,h=>by cases h;exact .nil
 | c::l,_,h=>by
  cases h with
  | cons g i=>exact .cons g (zbR i)
def zfF {b d:Type}{R:b->d->Prop}{S:b->Prop}{l:List b}{m:List d}(h:Two R l m)(a:∀x∈l,S x):Two (λx y=>R x y/\S x) l m:=by
 induction h with
 | nil=>exact .nil
 | cons e _ g=>exact .cons ⟨e,a _ wv⟩ (g λx f=>a x (wn _ f))
def zcT {K:W.Frag}{G:Hp}{R:Value->List Int->Prop}(e:∀b k,SqT K G b (k.map V.int)->R (.ref b) k){xs:List V}{ks:List (List Int)}(t:Tis K G xs ks):∀{a:List Value},Vals xs a->Two R a ks:=by
 induction t with
 | nil=>intro a r;cases r;exact .nil
 | cons d _ g=>
  intro a r;obtain⟨b,rfl,f⟩:=d
  cases r with
  | cons r1 r2=>
   cases r1
   exact .cons (e b _ f) (g r2)
def z1m.there {P:Program}{w:World}{H:Hp}{h:Heap}{a:Addr}{o:HO}(x:z1m P w H h a o):∃u,h.get? a=some u:=by
 cases o with
 | lst d=>obtain⟨_,_,_,_,e⟩:=x;exact⟨_,e⟩
 | tup d=>obtain⟨_,_,_,⟨o,e,_⟩,_⟩:=x;exact⟨_,e⟩
 | dK b=>obtain⟨_,_,_,_,o,_,_,e,_⟩:=x;exact⟨_,e⟩
 | dT b=>obtain⟨_,_,_,_,o,_,_,e,_⟩:=x;exact⟨_,e⟩
 | set S n=>obtain⟨o,_,_,_,e,_⟩:=x;exact⟨_,e⟩
 | ins C g fs=>obtain⟨_,_,_,e,_⟩:=x;exact⟨_,e⟩
 | own y=>exact x
 | xd fs=>obtain⟨_,⟨_,_,_,e,_⟩,_⟩:=x;exact⟨_,e⟩
 | rng j i=>obtain⟨_,_,_,e⟩:=x;exact⟨_,e⟩
 | frz l u=>obtain⟨e,_⟩:=x;exact⟨_,e⟩
 | tbl ps=>rcases x with e | ⟨_,_,_,_,_,_,_,_,_,_,_,e,_⟩ <;> exact⟨_,e⟩
 | met f y=>exact⟨_,(x)⟩
 | ext m=>obtain⟨_,z,_⟩:=x;exact z
def _root_.L2.HOk.none_of {P:Program}{w:World}{H:Hp}{h:Heap}{a:Addr}(x:HOk P w H h)(e:h.get? a=none):H a=none:=by
 cases q:H a with
 | none=>rfl
 | some u=>
  obtain⟨v,z⟩:=z1m.there (x a u q)
  grind
def _root_.L2.Inv.laid' {X:Cx}{H:Hp}{f:List (Addr × Obj)}{h:L2.St}{s:Shared}{h':Heap}{a:Addr}{o:HO}{t':Nat}(I:Inv X f h H s)(k:∀b u,s.heap.get? b=some u->h'.get? b=some u)(i:s.heap.get? a=none)(new:z1m X.prog X.w (upd H a o) h' a o):
  Inv X f h (upd H a o) { s with heap:=h',toks:=t' }:=by
 have l:=I.hok.none_of i;have ne:∀b u,s.heap.get? b=some u->b≠a:=λb u e z=>by grind
 have d:∀b u,H b=some u->b≠a:=λb u e z=>by grind
 refine I.un ⟨λb o e q _ _=>k b o e,λb o e q _ _=>⟨o.slots,k b o e⟩,λb o e q _=>by rw[z08 (ne b o e)];exact q,λb o e _=>⟨o,k b o e⟩,λb j e=>by rw[z08 (d b _ e)];exact e,λb o u e=>by rw[z08 (d b _ e)];exact e,λb ps e=>⟨#[],by rw[z08 (d b _ e)];exact e⟩⟩ λb u e =>?_
 by_cases g:b=a
 .subst g;rw[z0c] at e;grind
 .rw[z08 g] at e;exact(I.hok b u e).stay (λc v _ q=>k c v q) (λc q=>by rw[z08 (d c _ q)];exact q) (λc j q=>by rw[z08 (d c _ q)];exact q) λc _ _ q=>by rw[z08 (d c _ q)];exact q
section
variable {X:Cx}{G H:Hp}{pins:List (Addr × Obj)}{σ:L2.St}{s:Shared}
theorem z63 {P:Program}:∀{ns:List Int}{us:List Value},Vals (ns.map V.int) us->ItemsAre (intKind P w) ns us
 | [],_,r=>by cases r;exact .nil
 | n::ns,_,r=>by
  cases r with
  | cons r1 r2=>
   obtain⟨t,rfl⟩:=r1;exact .cons (by simp[intKind,Value.isInt]) (z63 r2)
def z8i {b:Addr}{k:List Int}(I:Inv X pins σ H s)(g:Same G H)(h:SqT X.K G b (k.map V.int)):TK X.prog X.w s.heap k b:=by
 obtain⟨a,r,⟨o,f,d,n,e⟩,_⟩:=I.tuple (z0H g h);exact⟨o,a.toArray,n,f,d,e,by simpa using z63 r⟩
def zfT {kl:List (List Int)}(I:Inv X pins σ H s)(g:Same G H)(A:H p=some (.ext (SetO X.prog X.w p L)))(d:Mem X.K X.prog X.w G L kl)(E:kl.Nodup):SetK X.prog X.w (MemV X.K G) s.heap p kl:=by
 obtain⟨o,h,f,t,i,j,l,m,n,q,u,x,y⟩:SetO _ X.w p L _:=(I.hok p _ A).1;refine⟨⟨L,⟨o,h,f,t,⟨i,j,l,m,n,q,u,x,λr C =>?_⟩,y⟩,zbR (d.imp λr k ⟨b,e,a,_⟩=>⟨⟨b,k,e,a⟩,b,e,z8i I g a⟩)⟩,E⟩;obtain⟨k,_,b,e,a,z⟩:=Two.mem_left d C;exact⟨b,k,e,z8i I g a,z⟩
def rSet (K:W.Frag)(P:Program)(w:World):List V->Hp->VK->Prop:=λvs H Q=>∃G a b e,vs=[.ref a]/\Same G H/\(SqL K G a b\/SqT K G a b)/\Tis K G b e/\b.length<=63/\
 ∀p L d,H p=none->Mem K P w G L d->d.Nodup->(∀x,x∈d↔x∈e)->Q (.ref p) (upd H p (.ext (SetO P w p L)))
def zez (Z:X.calm=true)(hu:X.A.units+64<cLine):z0A X (.type "set") (rSet X.K X.prog X.w):=by
 rintro F s σ H xs us Q I rv ⟨G,a,ys,ks,e,g,l,ht,hl,q⟩;subst e;obtain⟨u,rfl,rx⟩:=z30 rv
 cases rx
 have W:X.A.handled=none:=I.ok.hd Z;have E:∀{f:List Value},Vals ys f->Two (IsK X.prog X.w (MemV X.K G) s.heap) f ks:=λr=>zcT (λb k m=>⟨⟨b,k,rfl,m⟩,b,rfl,z8i I g m⟩) ht r;have fin:∀h' i h,SetK X.prog X.w (MemV X.K G) h' s.heap.objs.size h->(∀x,x∈h↔x∈ks)->(∀b o,b<s.heap.objs.size->s.heap.get? b=some o->h'.get? b=some o)->EP X F σ Q (.ref s.heap.objs.size) { s with heap:=h',toks:=i }:=by
  intro h' i h j C keep;have d:∀b o,s.heap.get? b=some o->h'.get? b=some o:=λb o e=>keep b o (wu e) e;obtain⟨L,⟨o,N,J,t,y,hf⟩,U⟩:=j.ex;have so:SetO X.prog X.w s.heap.objs.size L h':=⟨o,N,J,t,y.get,y.ex,y.data,y.tab,y.room,y.small,y.plain,y.led,hf⟩
  refine⟨.ref s.heap.objs.size,_,I.laid (o :=.ext (SetO X.prog X.w s.heap.objs.size L)) (t':=i) d (wt _) ⟨so,⟨o,y.get⟩,λh1 U ⟨o,N,J,t,z,r⟩ st=>⟨o,N,J,t,st _ z,r⟩⟩,rfl,q _ L h (I.hok.fresh (wt _)) ?_ j.nd C⟩;refine(zfF (z8h U) (S:=λr=>∃b k,r.2.2 = .ref b/\TK X.prog X.w h' k b/\r.2.1=tupleKeyHash (intKind X.prog X.w) k) y.key).imp λr k z9 =>?_;obtain⟨⟨⟨b,k1,O,m⟩,b2,R,z2⟩,b3,k3,T,z3,hk⟩:=z9;rw[O] at R T
  cases R;cases T
  have Y:TK X.prog X.w h' k1 b:=by
   obtain⟨o,it,n,w1,w2⟩:=z8i I g m;exact⟨o,it,n,d _ _ w1,w2⟩
  have:=Y.inj z2;subst this;have:=Y.inj z3;subst this;exact⟨b,O,m,hk⟩
 rcases l with l | l
 .obtain⟨f,r,pl,hz⟩:=I.list (z1o g l);have p:=r.length;exact z6Z (M:=MemV X.K G) (ks:=ks) W (by lia) pl.isList (by simpa using E r) (by simp only[wG] <;> lia) λh' i h j _ C keep=>fin h' i h j C keep
 .obtain⟨f,r,pl,hz⟩:=I.tuple (z0H g l);have p:=r.length;exact z5R (M:=MemV X.K G) (ks:=ks) W (by lia) pl (by simpa using E r) (by simp only[wG] <;> lia) λh' i h j _ C keep=>fin h' i h j C keep
def zio (K:W.Frag)(P:Program)(w:World):List V->Hp->VK->Prop:=λvs H Q=>∃G p L e,vs=[.ref p]/\Same G H/\H p=some (.ext (SetO P w p L))/\Mem K P w G L e/\e.Nodup/\(∀k∈e,k≠[])/\e.length<=63/\
 ∀D f d,H D=none->Tis K G f d->d.Perm e->d.Pairwise (λa b=>HT.z0q b a=false)->Q (.ref D) (upd H D (.lst f))
def zay (E:X.calm=true):z0A X (.builtin "sorted") (zio X.K X.prog X.w):=by
 rintro A s σ H xs us Q I W ⟨G,p,L,S,e,g,N,J,T,l,hz,q⟩;subst e;obtain⟨u,rfl,Y⟩:=z30 W
 cases Y
 have hn:=z5k;have F:(63)<=sizeLine:=by decide
 refine z9V (M:=MemV X.K G) (I.ok.hd E) (zfT I g N J T) l (by lia) λZ a keep t x g3 g4 perm i C D y h =>?_;obtain⟨e,h⟩:=h;obtain⟨h',g',d',n,U⟩:=Z;dsimp only at t x g3 keep h;subst t;subst x;subst g3;have f  := λv m=>(i v m).1;have O:∃d,Vals d a/\Tis X.K G d (a.map (z6N s.heap)):=by
  clear perm C h i
  induction a with
  | nil=>exact⟨[],.nil,.nil⟩
  | cons v a R=>
   obtain⟨d,j,r⟩:=R λv m=>f v (wn _ m);obtain⟨b,k,rfl,z⟩:=f v wv;refine⟨.ref b::d,.cons rfl j,.cons ⟨b,rfl,?_⟩ r⟩;rw[z6M (TK.ti (z8i I g z))];exact z
 obtain⟨d,j,r⟩:=O;have hl:d.length=S.length:=by rw[<- perm.length_eq,wd,j.length]
 exact⟨.ref D,upd H D (.lst d),I.laid' (o :=.lst d) (t':=n) keep y ⟨by lia,a,e,j,h⟩,rfl,q D d _ (I.hok.none_of y) r perm C⟩
end
abbrev tupD (k:List Int):D :=.tup (k.map .int)
structure Rows (ks kl:List (List Int)):Prop where
 up:kl.Pairwise (λa b=>HT.z0q a b=true)
 mem:∀x,x∈kl↔x∈ks
def zaY (d:D)(P:List (List Int)->Prop):Prop:=match d with
 | .lst l=>∃a,l=a.map tupD/\l.length<=63/\P a
 | .tup l=>∃a,l=a.map tupD/\l.length<=63/\P a
 | _=>False
def z9X {P P':List (List Int)->Prop}(m:∀k,P k->P' k)(h:zaY d P):zaY d P':=by
 cases d with
 | lst l=>obtain⟨e,a,b,c⟩:=h;exact⟨e,a,b,m _ c⟩
 | tup l=>obtain⟨e,a,b,c⟩:=h;exact⟨e,a,b,m _ c⟩
 | _=>exact h.elim
def zee (d:D)(Q:DK):Prop:=zaY d λb=>(∀k∈b,k≠[])/\∀a,Rows b a->Q (.lst (a.map tupD))
def z6x:Fn:=fn1 zee λd Q b m h=>z9X (λe q=>⟨q.1,λa z=>m _ (q.2 a z)⟩) h
section
variable {X:Cx}{K:W.Frag}{mg:WmP}{E:XK}{G H:Hp}
theorem z6q:∀{ks:List (List Int)}{xs:List V},RDs K mg G (ks.map tupD) xs->Tis K G xs ks
 | [],_,h=>by subst h;exact .nil
 | k::ks,_,h=>by
  obtain⟨x,r,rfl,d,e⟩:=h;obtain⟨a,g,rfl,b,f⟩:=z1B d;rw[z3q k f] at b;exact .cons ⟨a,rfl,b⟩ (z6q e)
def zfN:∀{ks:List (List Int)}{xs:List V},Tis K G xs ks->RDs K mg G (ks.map tupD) xs:=by
 intro ks xs h
 induction h with
 | nil=>rfl
 | cons a _ e=>
  obtain⟨b,rfl,d⟩:=a;exact RDs.cons (RD.ofT d (z4X _)) e
def zd1 {d:D}{v:V}{P:List (List Int)->Prop}(r:RD K mg G d v)(h:zaY d P):∃a xs ks,v = .ref a/\(SqL K G a xs\/SqT K G a xs)/\Tis K G xs ks/\xs.length<=63/\P ks:=by
 cases d with
 | lst l=>
  obtain⟨ks,rfl,f,q⟩:=h;obtain⟨a,xs,rfl,e,b⟩:=z1Y r;exact⟨a,xs,ks,rfl,.inl e,z6q b,by rw[b.len];exact f,q⟩
 | tup l=>
  obtain⟨ks,rfl,f,q⟩:=h;obtain⟨a,xs,rfl,e,b⟩:=z1B r;exact⟨a,xs,ks,rfl,.inr e,z6q b,by rw[b.len];exact f,q⟩
 | _=>exact h.elim
def zeY {d:List (List Int)}(f:d.Nodup)(h:d.Pairwise (λa b=>HT.z0q b a=false)):d.Pairwise (λa b=>HT.z0q a b=true):=by
 induction d with
 | nil=>exact .nil
 | cons a l i=>
  rw[vd] at h ⊢;rw[vf] at f;refine⟨λb g =>?_,i f.2 h.2⟩
  cases z:HT.z0q a b with
  | true=>rfl
  | false=>
   have e  := Tim.z8E a b z (h.1 b g)
   simp_all
theorem z1V {d:Type}[DecidableEq d]:∀{l m:List d},l.Nodup->(∀x∈l,x∈m)->l.length<=m.length
 | [],_,_,_=>vG _
 | a::l,m,b,h=>by
  rw[vf] at b;have g:=h a wv;have:=z1V b.2 λx f=>(List.mem_erase_of_ne (λ(e:x=a)=>b.1 (by simp_all))).mpr (h x (wn _ f))
  grind
def ze9 {ks a:List (List Int)}(d:a.Nodup)(h:∀x,x∈a↔x∈ks):a.length<=ks.length:=z1V d λx b=>(h x).mp b
def za6 {e:Expr}{x:Ex}{p1 J K p4:Pos}(hu:X.A.units+64<cLine)(R:X.calm=true)(hg:Gl X "sorted")(hm:X.mg "sorted"=none)(t:Gl X "set")(y:X.mg "set"=none)(ha:QXA X E [e] [x])
  (F:autoParam (sE e [] X) jA1) (h:autoParam (starEach [.Call (.Name "set" J) [e] [] K] X.env=(false,eval (.Call (.Name "set" J) [e] [] K) X.env)::starEach [] X.env) jA1):QF X E (.Call (.Name "sorted" p1) [.Call (.Name "set" J) [e] [] K] [] p4) (.op z6x [x]):=
 QE.imp (z3X (zay R) hg hm (by rfl) (z3F (z3W (zez R hu) t y (by rfl) ha (by decide) (by decide) F (by rfl)) z60 h) (by decide) (by decide) h (by rfl)) <| by
  rintro σ H Q ⟨G,ρ,Q0,M,hs,Z,hr,u,hx⟩;refine⟨G,ρ,λN=>z6x.run N Q0 M,M,hs,Z,hr,λN vs n g q g1 l g3 rds =>?_,hx⟩;obtain⟨d,rfl,q'⟩:=z1t q;obtain⟨v,rfl,rd⟩:=rds1 rds;obtain⟨a,Y,T,rfl,h1,O,h3,C,h4⟩:=zd1 rd q';refine⟨n,a,Y,T,rfl,l,h1,O,h3,λp L kl hp hM I b =>?_⟩;have m:Same g (upd g p (.ext (SetO X.prog X.w p L))):=z0j hp _;have S:T.length=Y.length:=(zaI O).symm;refine⟨n,p,L,kl,rfl,z02 l m,z0c,hM,I,λk u=>C k ((b k).mp u),by have:=ze9 I b;lia,λD j i r ht U pw =>?_⟩;have f:g D=none:=by
   cases z:g D with
   | none=>rfl
   | some o=>rw[m D o z] at r;cases r
  have s:H D=none:=by
   cases z:H D with
   | none=>rfl
   | some o=>rw[g3 D o z] at f;cases f
  have W:=z0j (H:=upd g p (.ext (SetO X.prog X.w p L))) r (.lst j);refine u (.lst (i.map tupD)) D n _ (h4 i ⟨zeY (U.nodup_iff.mpr I) pw,λz=>by rw[U.mem_iff];exact b z⟩) g1 (z02 l (z02 m W)) (z02 g3 (z02 m W)) s (z0Z l f) ⟨j,z0c,zfN ht⟩
end
end Pu
namespace Rev
open PySem PyProof.Rows
def zk0:typeLookup (.type "list_reverseiterator") "__len__"=pure none:=by
 rfl
def zea:typeLookup (.type "list_reverseiterator") "__length_hint__"=pure (some (.builtin "list_reverseiterator.__length_hint__")):=by
 rfl
section
variable {prog:Program}{w:World}{A:Around}{E:WvP}{s:Shared}{R:Result->Shared->Prop}{r:Addr}
def zhg (a:s.TypeIs (.ref r) "list_reverseiterator")(q:Q false s):wpAny (model prog w) A (Builtin.List.listLengthHint (.ref r)) Q E s:=by
 unfold Builtin.List.listLengthHint;refine wc (wpAny_specialOf a zk0 ?_);show wpAny _ A (specialOf (.ref r) (Str.ofString "__length_hint__") >>= _) Q E s;refine wc (wpAny_specialOf a zea ?_);generalize d:("list_reverseiterator.__length_hint__")=e
 wp_delta
 rw[show splitId e=some ("list_reverseiterator","__length_hint__") from by rw[<- d];decide +kernel];refine wc (wpAny_isInstance (b:=true) a (by rw[isSubtype_type];kernel_rfl) ?_);subst d;exact wj q
def zas {h wr:List Addr}{P:Nat->Value->Prop}{St:Nat->Shared->Prop}(W:WalksS prog w A.in1 r h wr G n P St)(o:∀i s,St i s->s.TypeIs (.ref r) "list_reverseiterator")(S:Addr)(a:Value)(l:Nat)(st:St 0 s)(d:S ∉ h)(m:r∈h)(p:n<=sizeLine)
  (g:s.heap.get? S=some { cls :=.type "list",data :=.seq #[] l }) (q:∀s' b c,Moved (S::wr) G s s'->s'.heap.get? S=some { cls :=.type "list",dict:=none,data :=.seq b c,slots := #[] }->ItemsOf P b n->R (.ok (.ret a)) s'):
  wpAny (model prog w) A.in1 (Builtin.List.listExtendWith (.ref S) (.ref r) a) (λfin s'=>match fin with | .done f=>R (.ok f) s' | .again j=>j.quiet=true/\codeAny (model prog w) A j R s') (λe s'=>R (.error e) s') s:=by
 have ne:S≠r:=λe=>d (by simp_all);refine wc (jS (o 0 s st) ?_);have t:Builtin.List.listSameRef (.ref S) (.ref r)=false:=by simp[Builtin.List.listSameRef,ne]
 have x:(Value.type "list_reverseiterator" == .type "list")=false:=by decide
 have u:(Value.type "list_reverseiterator" == .type "tuple")=false:=by decide
 rw[t,u];refine wc (W.self 0 s _ _ st (wc (v8 (zhg (o 0 s st) ?_))));exact wj ⟨uN F.plain_extend_loop _,codeAny_extend_loopS W p S d a n 0 s #[] l rfl (vG _) st g (ItemsOf.nil P) q⟩
def zeb {j wr:List Addr}{P:Nat->Value->Prop}{St:Nat->Shared->Prop}(W:WalksS prog w A.in1 r j wr G n P St)(u:∀i s,St i s->s.TypeIs (.ref r) "list_reverseiterator")(S:Addr)(st:St 0 s)(h:S ∉ j)(g:r∈j)(p:n<=sizeLine)
  (d:s.heap.get? S=some { cls :=.type "list",data :=.seq #[] }) (q:∀s' a c,Moved (S::wr) G s s'->s'.heap.get? S=some { cls :=.type "list",dict:=none,data :=.seq a c,slots := #[] }->ItemsOf P a n->R (.ok (.ret .none)) s'):
  wpAny (model prog w) A.in1 (Builtin.«list.__init__» ⟨[.ref S,.ref r],[]⟩) (λfin s'=>match fin with | .done f=>R (.ok f) s' | .again m=>m.quiet=true/\codeAny (model prog w) A m R s') (λe s'=>R (.error e) s') s:=by
 show wpAny _ A.in1 (Builtin.List.listItems (.ref S) >>= λold=>Builtin.List.listUpdate (.ref S) _ >>= λ_=>letGo _ >>= λ_=>Builtin.List.listExtendWith (.ref S) (.ref r) .none) _ _ s;refine wc (wc (v6 d rfl (wj ?_)));refine wc (jB d rfl (wc (jO ?_)));have keep:∀b o,b≠S->s.heap.get? b=some o->(s.heap.update S (Obj.mapSeq λ_=>(#[]))).get? b=some o:=λb o z e=>by rw[vB _ _ (vQ z)];exact e
 refine zas W u S .none _ (W.frame 0 s _ s.toks st (wt _) λb l o e=>keep b o (λz=>h (z ▸ l)) e) h g p (vJ _ d rfl) λs' a c mv e t=>q s' a c ?_ e t;exact Moved.trans W.gtrans ((Moved.refl W.grefl).then_heap (wt _) λb o l e=>keep b o (λz=>l (by simp_all)) e) mv
end
end Rev
namespace Pu
open PySem PySem.Spec PyProof.Rows L2 Tab
def Ex.callv (T:Nat->Fn)(i:Nat)(es:List Ex):Ex:=⟨λb Q a=>∃n,b.get i=some (.fn n)/\runs es b (λd=>(T n).run d Q a) a,λb Q h a f m g ⟨n,e,q⟩=>⟨n,e,z2C es b _ _ a f (λd j=>(T n).mono d Q h a f m g j) g q⟩⟩
def FTab (P:Program)(w:World)(K:W.Frag)(mg:WmP)(a:Heap)(CX:CXT)(k:Nat)(T:Nat->Fn):Prop:=∀n f,mg (z5v n)=some (.ref f)->∃j b ps,j<=k/\FnOk P w K mg a CX j f b ps (spP K mg (T n))/\W.keepIn K (.ref f)=true/\z3y K b ps []
def FTab.mk {P:Program}{w:World}{K:W.Frag}{mg:WmP}{a:Heap}{CX:CXT}{k:Nat}{T:Nat->Fn}(g:mg ""=none)
  (h:∀n<4,∀f,mg (z5v n)=some (.ref f)->∃j b ps,j<=k/\FnOk P w K mg a CX j f b ps (spP K mg (T n))/\W.keepIn K (.ref f)=true/\z3y K b ps []):FTab P w K mg a CX k T:=λn f e=>by
 by_cases d:n<4
 .exact h n d f e
 .rw[show z5v n="" from by
   match n,d with
   | 0,h=>simp_all
   | 1,h=>simp_all
   | 2,h=>simp_all
   | 3,h=>simp_all
   | n+4,_=>rfl,g] at e
  cases e
def _root_.L2.Cal.tab {P:Program}{w:World}{K:W.Frag}{mg:WmP}{a:Heap}{CX:CXT}{j k:Nat}{x:Str}{ps:List Str}{F:Fn}(C:Cal P w K mg a CX j x ps (spP K mg F))(h:j<=k)(f:Addr)(e:mg x=some (.ref f)):∃j b ps,j<=k/\FnOk P w K mg a CX j f b ps (spP K mg F)/\W.keepIn K (.ref f)=true/\z3y K b ps []:=by
 obtain⟨m,b,d,l,i,g⟩:=C.ex;rw[l] at e;cases e;exact⟨j,b,ps,h,d,i,g⟩
section
variable {X:Cx}{E:XK}{CX:CXT}{e:Expr}{es:List Expr}{xs:List Ex}{pos:Pos}
def zhX (X:Cx)(CX:CXT)(E:XK)(i:Nat)(t:TA):TE:=λd H Q=>∃f a ps b k,d[i]? = some (some (.ref f))/\FnOk X.prog X.w X.K X.mg X.base CX k f a ps b/\Room k X.A/\W.keepIn X.K (.ref f)=true/\z3y X.K a ps []/\t d H λvs e=>b (vs++[]) e Q E
def zdM {t:TA}(G:z2E CX X E)(C:PE X (.Name x p) (tVar i))(o:PA X (e::es) t)(y:autoParam (sE e es X) jA1)(b:autoParam (bT pos es X) jA1):
  PE X (.Call (.Name x p) (e::es) [] pos) (zhX X CX E i t):=by
 rintro m s g H Q I ⟨f,O,ps,S,k,d,F,A,z,w,h⟩;refine uY (thn (C _ s g H (λv a=>v = .ref f/\t g a _) I ⟨_,d,rfl,h⟩) λu L M =>?_);obtain⟨v,a,j,K,n,q⟩:=M;subst n
 cases K
 exact W.callWith_K j.ok.mod.kin z (thn (o pos _ L g a _ j q) λT R ⟨vs,N,l,r,J⟩=>⟨l.kIn,zbd F A w .nil G l r J⟩) y b
def zdp {k:Nat}(Y:FTab X.prog X.w X.K X.mg X.base CX k T)(R:Room k X.A)(W:z2E CX X E)(U:QE X (.Name x p) (tVar i))(C:QXA X E (e::es) xs)
  (J:autoParam (sE e es X) jA1) (d:autoParam (bT pos es X) jA1):QX X E (.Call (.Name x p) (e::es) [] pos) (.callv T i xs):=
 ⟨PE.imp (zdM W U.p C.p J d) <| by
  rintro σ H Q ⟨G,Z,Q0,h,S,l,⟨n,O,g⟩,M,a⟩;obtain⟨v,y,z⟩:=l i _ O;obtain⟨f,rfl,N⟩:=z;obtain⟨j,s,ps,L,F,b,I⟩:=Y n f N;refine⟨f,s,ps,_,j,y,F,R.mono L,b,I,G,Z,_,h,S,l,g,λr vs m o q t u g3 rds =>?_,a⟩;show spP X.K _ _ _ o Q E;rw[vk];exact⟨m,r,Q0,h,u,rds,q,M.same t g3,a.same g3⟩⟩
def zf2 {n k:Nat}{ps:List Str}(j:z5v n=x)(b:Gl X x)(C:Cal X.prog X.w X.K X.mg X.base CX k x ps sp)(a:dB x):QX X E (.Name x p) (.c (.fn n)):=by
 obtain⟨f,g,e,d,i,h⟩:=C.ex;exact qx_c (v :=.ref f) ⟨zbw b d rfl a⟩ λ_=>by rw[RD];simp_all
end
def _root_.L2.Inv.spent (I:Inv X pins σ (upd H r (.ext φ)) s)(M:H r=none)(G:X.s₀.heap.objs.size<=r)(k:∀b u,b≠r->s.heap.get? b=some u->h'.get? b=some u)(j:s.heap.get? a=none)
  (new:z1m X.prog X.w (upd H a o) h' a o):Inv X pins σ (upd H a o) { s with heap:=h',toks:=t' }:=by
 have l:upd H r (.ext φ) r=some (.ext φ):=z0c;have back:∀b u,upd H r (.ext φ) b=some u->(∀C,u ≠ .ext C)->H b=some u/\b≠r:=λb u e z=>by
  have f:b≠r:=λy=>by rw[y,l] at e;cases e;exact z φ rfl
  rw[z08 f] at e;exact⟨e,f⟩
 have g:=I.hok.none_of j;have n:a≠r:=λy=>by rw[y,l] at g;cases g
 have K:H a=none:=by rw[z08 n] at g;exact g
 have ne:∀b u,s.heap.get? b=some u->b≠a:=λb u e z=>by rw[z,j] at e;cases e
 have A:∀b u,H b=some u->b≠a:=λb u e z=>by rw[z,K] at e;cases e
 have d:∀b,upd H r (.ext φ) b=none->b≠r/\H b=none:=λb e=>by
  have f:b≠r:=λy=>by rw[y,l] at e;cases e
  rw[z08 f] at e;exact⟨f,e⟩
 have same:∀b u,upd H r (.ext φ) b=some u->(∀C,u ≠ .ext C)->upd H a o b=some u:=λb u e z=>by
  obtain⟨i,_⟩:=back b u e z;rw[z08 (A b u i)];exact i
 refine I.step (g':=s.gens) (d':=s.drawn) (ch:=[r]) (λb f =>?_) (λb u _ _ h e _=>k b u (λz=>h (by simp[z])) e) (λb u _ _ h e _=>⟨u.slots,k b u (λz=>h (by simp[z])) e⟩) (λb u _ e q=>by rw[z08 (ne b u e)];exact(d b q).2)
  (λb u h e=>⟨u,k b u (λz=>h (by simp[z])) e⟩) (λb N e=>same b _ e λ_=>nofun) (λb u v e=>same b _ e λ_=>nofun) (λb ps e=>⟨#[],by rw[same b _ e λ_=>nofun,Array.append_empty]⟩) (λm J =>?_) (λb u e =>?_) I.bare
 .have e:b=r:=by simpa using f
  subst e;exact⟨.inr G,(λz=>(d _ I.free).1 z.symm),λx c e=>(d c (I.freeC x c e)).1,λp j=>(d _ (I.pin p j).2.1).1⟩
 .obtain⟨u,F,E,L,q⟩:=J;exact⟨u,F,E,k _ u (d _ I.free).1 L,q⟩
 by_cases f:b=a
 .subst f;rw[z0c] at e;cases e;exact new
 rw[z08 f] at e;have t:b≠r:=λz=>by rw[z,M] at e;cases e
 have i:upd H r (.ext φ) b=some u:=by rw[z08 t];exact e
 refine(I.hok b u i).stay (λc v h q=>k c v ?_ q) (λc q=>same c _ q λ_=>nofun) (λc N q=>same c _ q λ_=>nofun) λc _ _ q=>same c _ q λ_=>nofun
 grind
def RevO (r a:Addr)(n:Nat)(h:Heap):Prop:=h.IsRevIter r a (n - 1)
section
variable {X:Cx}{E:XK}
def rRev (X:Cx):List V->Hp->VK->Prop:=λvs H Q=>∃a b,vs=[.ref a]/\SqL X.K H a b/\∀r,H r=none->X.s₀.heap.objs.size<=r->Q (.ref r) (upd H r (.ext (RevO r a b.length)))
def zeA:z0A X (.type "reversed") (rRev X):=by
 rintro f s z H w t Q I i ⟨a,y,e,g,q⟩;subst e;obtain⟨u,rfl,j⟩:=z30 i
 cases j
 obtain⟨h,r,pl,p⟩:=I.list g;have d:=r.length;refine call_reversed_list pl.isList ⟨.ref _,_,I.laid (o :=.ext _) (λb o e=>wf _ e) (wt _) ⟨⟨_,wp _ rfl,rfl,by simp[revObj,d]⟩,⟨_,wp _ rfl⟩,λm n x l=>x.at l⟩,rfl,q _ (I.hok.fresh (wt _)) I.sz⟩
def zdg (X:Cx):List V->Hp->VK->Prop:=λvs H Q=>∃r a e b,vs=[.ref r]/\H=upd b r (.ext (RevO r a e.length))/\b r=none/\X.s₀.heap.objs.size<=r/\SqL X.K b a e/\∀d,b d=none->Q (.ref d) (upd b d (.lst e.reverse))
def z81 (hc:X.calm=true):z0A X (.type "list") (zdg X):=by
 rintro a0 s σ H xs us Q I rv ⟨r,a,E,Z,e,eH,R,h0,J,q⟩;subst e;subst eH;have hS:=z1o (z0j R (.ext (RevO r a E.length))) J;obtain⟨u,rfl,rx⟩:=z30 rv
 cases rx
 have hh:X.A.handled=none:=I.ok.hd hc;obtain⟨g,C,pl,hz⟩:=I.list hS;have f:=C.length;have hR:s.heap.IsRevIter r a (E.length - 1):=(show z1m X.prog X.w _ s.heap r (.ext (RevO r a E.length)) from I.hok r _ z0c).1;have S:a≠r:=by
  obtain⟨o,ho,K,_⟩:=hR;obtain⟨o',p,l,_⟩:=pl.isList;intro z;rw[z,ho] at p;cases p;rw[K] at l
  injection l with h
  exact absurd h (by decide)
 have W:=(Walks.listRev (prog:=X.prog) (w:=X.w) (A:=X.A.in1.in1) (by simp[hh]) r a S g.toArray).toS;have sz:g.toArray.size=E.length:=by simp[f]
 refine callType_codes (Q₁:=λv s1=>v = .ref s.heap.objs.size/\s1={ s with heap:=s.heap.push { cls :=.type "list",data :=.seq #[] } }) F.called_list (F.typeCall_list_1 _) F.entry_list_init (code_list_new _ ⟨rfl,rfl⟩) λv s1 hv =>?_;obtain⟨rfl,rfl⟩:=hv;have hD:(s.heap.push { cls :=.type "list",data :=.seq #[] }).get? s.heap.objs.size=some { cls :=.type "list",data :=.seq #[] }:=wp _ rfl;have m:∀{b:Addr}{o:Obj},s.heap.get? b=some o->b≠s.heap.objs.size:=λe=>wJ (wu e);obtain⟨o1,t,L,M⟩:=hR;obtain⟨o2,x,n2⟩:=pl.isList;refine⟨⟨_,hD,rfl⟩,F.args_list_init_2 _ _,Rev.zeb (A:=X.A.in1) W (λi s st=>st.2.1.typeIs) s.heap.objs.size ⟨vG _,⟨o1,wf _ t,L,by rw[M,sz];simp⟩,⟨o2,wf _ x,n2⟩⟩ (by
  simp only[wm,wz,vK,not_or];exact⟨vQ (m t),vQ (m x)⟩) (by simp) (by rw[sz];exact hz) hD λs' d c mv G T=>⟨rfl,?_⟩⟩
 have keep:∀b o,b≠r->s.heap.get? b=some o->s'.heap.get? b=some o:=λb o hb e=>mv.heap b o (by
  simp only[wm,wz,vK,not_or];exact⟨m e,hb⟩) (wf _ e)
 obtain⟨h',g',d',Y,U⟩:=s';have eg:g'=s.gens:=mv.gens;have ed:d'=s.drawn:=mv.drawn;have eo:U=s.os:=mv.os;subst eg;subst ed;subst eo;have n:d.toList=g.reverse:=by
  apply List.ext_getElem?;intro k
  by_cases N:k<g.length
  .have j:k<d.size:=by rw[T.1,sz,f];exact N
   have:=T.2 k d[k] (jT d k j);rw[uq,jT d k j,List.getElem?_reverse N, <- this];simp
  .have j:¬ k<d.size:=by rw[T.1,sz,f];exact N
   rw[uq,getElem?_neg d k j,uF (by simp;lia)]
 have y:s.heap.get? s.heap.objs.size=none:=by
  cases z:s.heap.get? s.heap.objs.size with
  | none=>rfl
  | some o=>exact absurd (wu z) (vV _)
 have O:Z s.heap.objs.size=none:=by
  have:=I.hok.none_of y
  cases z:Z s.heap.objs.size with
  | none=>rfl
  | some o=>rw[z0j R _ _ _ z] at this;cases this
 refine⟨.ref s.heap.objs.size,_,I.spent (o :=.lst E.reverse) (t':=Y) R h0 keep y ⟨by simpa using hz,g.reverse,c,C.reverse,?_⟩,rfl,q _ O⟩;rw[<- n];exact G
end
section
variable {X:Cx}{K:W.Frag}{mg:WmP}{E:XK}{G H:Hp}
def zef (d:D)(Q:DK):Prop:=isLs d λl=>Q (.lst l.reverse)
def z1N:Fn:=fn1 zef λd Q a m h=>z7N (λl q=>m _ q) h
def zc5 {P:List D->Prop}(h:isLs d P):∃l,d = .lst l/\P l:=by
 cases d with
 | lst l=>exact⟨l,rfl,h⟩
 | _=>exact h.elim
def z4m (K:X.calm=true)(L:Gl X "list")(N:X.mg "list"=none)(i:Gl X "reversed")(j:X.mg "reversed"=none)(J:QXA X E [e] [x])
  (p:autoParam (sE e [] X) jA1) (f:autoParam (starEach [.Call (.Name "reversed" p2) [e] [] p3] X.env=(false,eval (.Call (.Name "reversed" p2) [e] [] p3) X.env)::starEach [] X.env) jA1):QF X E (.Call (.Name "list" p1) [.Call (.Name "reversed" p2) [e] [] p3] [] p4) (.op z1N [x]):=
 QE.imp (z3W (z81 K) L N (by rfl) (z3F (z3W zeA i j (by rfl) J (by decide) (by decide) p (by rfl)) z60 f) (by decide) (by decide) f (by rfl)) <| by
  rintro Y H Q ⟨G,W,Q0,t,R,C,O,M,S⟩;refine⟨G,W,λu=>z1N.run u Q0 t,t,R,C,O,λu vs y A q F g g3 rds =>?_,S⟩;obtain⟨d,rfl,T⟩:=z1t q;obtain⟨v,rfl,rd⟩:=rds1 rds;obtain⟨l,rfl,U⟩:=zc5 T;obtain⟨a,s,rfl,w,I⟩:=z1Y rd;refine⟨a,s,rfl,z1o g w,λr m n=>⟨r,a,s,A,rfl,rfl,m,n,z1o g w,λd b =>?_⟩⟩;have h:H d=none:=by
   cases z:H d with
   | none=>rfl
   | some o=>rw[g3 d o z] at b;cases b
  exact M (.lst l.reverse) d y _ U F (z02 g (z0j b _)) (z02 g3 (z0j b _)) h (z0Z g b) ⟨s.reverse,z0c,I.rev⟩
open Classical in
def z8a (I:Inv X pins σ H s)(g:Same G H)(hu:X.A.units+64<cLine){v:V}(S:RD X.K X.mg G a v)(T:RelV v u)(o:Da 60 a)(E:∀d∈l,Da 60 d)(rds:RDs X.K X.mg G l xs)(p:Vals xs its):
  ∃e:Value->Bool,(∀y∈its,SeqAt.EqAt X.A.in1 s y u (e y))/\its.any e=l.any (λd=>deq d a)/\∀(i:Nat) (y:Value) (d:D),its[i]? = some y->l[i]? = some d->e y=deq d a:=by
 obtain⟨F,r1⟩:=Rp.reads I (py a) ((Da.rp 60 _ o S).same g) T;have key:∀(d:D) (x:V) (y:Value),Da 60 d->RD X.K X.mg G d x->RelV x y->SeqAt.EqAt X.A.in1 s y u (deq d a):=λd x y b m z=>by
  obtain⟨bs,r2⟩:=Rp.reads I (py d) ((Da.rp 60 _ b m).same g) z;obtain⟨r,J⟩:=Da.canLay 60 d b;obtain⟨L,Y⟩:=Da.canLay 60 a o;exact SeqAt.eqAt_reads (py d) (py a) X.A.in1 s y u bs F r2 r1 r L (by
   have:min (py d).depth (py a).depth<=60:=wO (j0 _ _) J;have:X.A.in1.units<=X.A.units+1:=by simp
   lia)
 let e:Value->Bool:=λy=>if h:∃j bs,Reads s.heap y j bs/\j.canLay0=true then PyData.eqv h.choose (py a) else false
 have C:∀(d:D) (x:V) (y:Value),Da 60 d->RD X.K X.mg G d x->RelV x y->e y=deq d a:=λd x y b m z=>by
  obtain⟨bs,r2⟩:=Rp.reads I (py d) ((Da.rp 60 _ b m).same g) z;have r:=(Da.canLay 60 d b).1;have h:∃j bs,Reads s.heap y j bs/\j.canLay0=true:=⟨_,bs,r2,r⟩
  show (if h:∃j bs,Reads s.heap y j bs/\j.canLay0=true then PyData.eqv h.choose (py a) else false)=deq d a;rw[dif_pos h];obtain⟨Z,W,z2⟩:=h.choose_spec;rw[(Reads.unique W _ _ r2).1]
  rfl
 refine⟨e,?_⟩
 clear_value e
 induction l generalizing xs its with
 | nil=>
  rw[RDs] at rds;subst rds
  cases p
  exact⟨λy n=>(by cases n),rfl,λi y d h=>(by simp at h)⟩
 | cons d l R=>
  rw[RDs] at rds;obtain⟨x,U,rfl,b,m⟩:=rds
  cases p with
  | cons q p=>
   obtain⟨N,O,Q⟩:=R (λd o=>E d (wn _ o)) m p;have f:=E d wv;refine⟨λy n =>?_,by rw[List.any_cons,List.any_cons,C d x _ f b q,O],λi y M t w =>?_⟩
   rotate_left
   .cases i with
    | zero=>
     rw[jn] at t w
     cases t
     cases w
     exact C d x _ f b q
    | succ i=>exact Q i y M (by rwa [uO] at t) (by rwa [uO] at w)
   rcases wm.mp n with rfl | n
   .rw[C d x _ f b q];exact key d x _ f b q
   .exact N y n
def z91:∀{xs:List V}{ks:List (List Int)}{a:List Value}{i:Nat}{y:Value},Tis K G xs ks->Vals xs a->a[i]? = some y->∃b k,xs[i]? = some (.ref b)/\ks[i]? = some k/\y = .ref b/\SqT K G b (k.map V.int):=by
 intro xs ks a i y h
 induction h generalizing a i with
 | nil=>intro r e;cases r;simp at e
 | cons d _ g=>
  intro r e
  cases r with
  | cons r1 r2=>
   obtain⟨b,rfl,f⟩:=d
   cases i with
   | zero=>simp at e;subst e;cases r1;exact⟨b,_,rfl,rfl,rfl,f⟩
   | succ i=>simpa using g r2 (by simpa using e)
end
end Pu
namespace Pu
open PySem L2
def z0e:Fn:=Fn.mkN 2 5 (.seq (.set 2 (.op pAbs [.v 0]))
 (.seq (.set 3 (.op pAbs [.v 1]))
 (.seq (.wh (.op pNe [.v 3,.c (.int 0)]) (.seq (.set 4 (.op pMod [.v 2,.v 3]))
 (.seq (.set 2 (.v 3))
 (.set 3 (.v 4)))))
 (.ret (.v 2)))))
def z1q:Fn:=Fn.mkN 2 2 (.ret (.op pSub [.op z0d [.op pIx [.v 0,.c (.int 0)],.op pIx [.v 1,.c (.int 1)]],.op z0d [.op pIx [.v 0,.c (.int 1)],.op pIx [.v 1,.c (.int 0)]]]))
def z0v:Fn:=Fn.mkN 2 2 (.ret (.op pTup [.op pSub [.op pIx [.v 1,.c (.int 0)],.op pIx [.v 0,.c (.int 0)]],.op pSub [.op pIx [.v 1,.c (.int 1)],.op pIx [.v 0,.c (.int 1)]]]))
def z3e:Fn:=Fn.mkN 3 3 (.ret (.op z1q [.op z0v [.v 0,.v 1],.op z0v [.v 1,.v 2]]))
def z7S:Fn:=Fn.mkN 3 5 (.seq (.set 3 (.op pSub [.op z0d [.op pIx [.v 1,.c (.int 0)],.op pIx [.v 2,.c (.int 2)]],.op z0d [.op pIx [.v 2,.c (.int 0)],.op pIx [.v 1,.c (.int 2)]]]))
 (.seq (.set 4 (.op pSub [.op z0d [.op pIx [.v 1,.c (.int 1)],.op pIx [.v 2,.c (.int 2)]],.op z0d [.op pIx [.v 2,.c (.int 1)],.op pIx [.v 1,.c (.int 2)]]]))
 (.ret (.op pAdd [.op pSub [.op z0d [.op pIx [.v 0,.c (.int 0)],.v 4],.op z0d [.op pIx [.v 0,.c (.int 1)],.v 3]],.op z0d [.op pIx [.v 0,.c (.int 2)],.op pSub [.op z0d [.op pIx [.v 1,.c (.int 0)],.op pIx [.v 2,.c (.int 1)]],.op z0d [.op pIx [.v 1,.c (.int 1)],.op pIx [.v 2,.c (.int 0)]]]]]))))
def z7T:Fn:=Fn.mkN 2 5 (.seq (.set 2 (.op pSub [.op z0d [.op pIx [.v 1,.c (.int 0)],.op pIx [.v 0,.c (.int 2)]],.op z0d [.op pIx [.v 0,.c (.int 0)],.op pIx [.v 1,.c (.int 2)]]]))
 (.seq (.set 3 (.op pSub [.op z0d [.op pIx [.v 1,.c (.int 1)],.op pIx [.v 0,.c (.int 2)]],.op z0d [.op pIx [.v 0,.c (.int 1)],.op pIx [.v 1,.c (.int 2)]]]))
 (.seq (.set 4 (.op z0e [.v 2,.v 3]))
 (.ret (.op pTup [.op z1G [.v 2,.v 4],.op z1G [.v 3,.v 4]])))))
def z8J:Nat->Fn
 | 0=>z3e
 | 1=>z7S
 | 2=>z0v
 | 3=>z7T
 | _=>⟨λ_ _ _=>False,λ_ _ _ _ _ _ _ z=>z⟩
def z2D:Fn:=Fn.mkN 2 4 (.seq (.own 2 (.op pLst []))
 (.seq (.for_ [] (.nm 3) (.v 0) (.seq (.wh (.and (.op pGt [.op pLen [.v 2],.c (.int 1)]) (.op pLe [.callv z8J 1 [.op pIx [.v 2,.op pNeg [.c (.int 2)]],.op pIx [.v 2,.op pNeg [.c (.int 1)]],.v 3],.c (.int 0)])) (.pop 2))
 (.app 2 (.v 3))))
 (.ret (.v 2))))
def z26:Fn:=Fn.mkN 2 4 (.seq (.ifs (.op pLt [.op pLen [.v 0],.c (.int 2)]) (.ret (.op z0Q [.v 0])) .skip)
 (.seq (.set 2 (.op z2D [.v 0,.v 1]))
 (.seq (.set 3 (.op z2D [.op z1N [.v 0],.v 1]))
 (.ret (.op z0Q [.op pAdd [.sl (.v 2) none (some (.op pNeg [.c (.int 1)])),.sl (.v 3) none (some (.op pNeg [.c (.int 1)]))]])))))
def z09:Fn:=Fn.mkN 1 1 (.ret (.op z26 [.op z6x [.v 0],.c (.fn 0)]))
def z10:Fn:=Fn.mkN 2 2 (.ret (.op pAdd [.op z0d [.op pIx [.v 0,.c (.int 0)],.op pIx [.v 1,.c (.int 0)]],.op z0d [.op pIx [.v 0,.c (.int 1)],.op pIx [.v 1,.c (.int 1)]]]))
def z28:Fn:=Fn.mkN 2 2 (.ret (.op zgL [.comp 1 [1] (.nm 0) (.v 0) none (.op z10 [.v 0,.v 1])]))
def z05:Fn:=Fn.mkN 2 2 (.seq (.ifs (.op pLt [.v 1,.op pLen [.v 0]]) (.ret (.op pIx [.v 0,.v 1])) .skip)
 (.ret (.c (.int 0))))
def z0M:Fn:=Fn.mkN 2 2 (.ret (.op pTup [.op pAdd [.op pIx [.v 0,.c (.int 0)],.op pIx [.v 1,.c (.int 0)]],.op pAdd [.op pIx [.v 0,.c (.int 1)],.op pIx [.v 1,.c (.int 1)]]]))
def z29:Fn:=Fn.mkN 1 1 (.ret (.op z09 [.comp 1 [0] (.nm 0) (.op pIx [.v 0,.c (.int 0)]) none (.op z0M [.v 0,.op pIx [.v 1,.c (.int 1)]])]))
open PySem.Spec PyProof.Rows
def Sm.never:Sm:=⟨λ_ _ _ _=>False,λ_ _ _ _ _ _ _ _ _ _ q=>q⟩
def zdk {st:Stmt}:QZ X E st .never:=QS.imp zdu <| by rintro _ _ _ ⟨_,_,_,_,_,_,_,_,a,_⟩;exact a
section
variable {P:Program}{w:World}{K:W.Frag}{mg:WmP}{base:Heap}{f:Addr}{qual:Str}{N:List Str}
def fnM {st:Stmt}{ps:List Str}{k h g:Nat}(F:Fun K x qual st f fd)(S:z3h N ps (z07 st))
  (j:∀a A d s H E,Room k (A.deeper (envOfC qual (z07 st) s.heap.objs.size f a))->(A.deeper (envOfC qual (z07 st) s.heap.objs.size f a)).units+64<cLine->QZs ((cxOf (CXe P w) P w K mg base N qual (z07 st) f a A d s H E).wish λ_ _=>False) E0 (z0N st) b) (l:autoParam (ps.length=h) jA1) (i:autoParam (N.length=g) jA1):
  FnOk P w K mg base (CXe P w) (k+1) f fd ps (spP K mg (Fn.mkN h g b)):=fnN F S l i λa A d s H E e=>j a A _ s H E e e.units
end
def z4y:Fn:=Fn.mkN 2 7 (.seq (.set 2 (.op z0e [.op pIx [.v 0,.c (.int 1)],.op pIx [.v 1,.c (.int 1)]]))
 (.seq (.set 3 (.op z1G [.op pIx [.v 1,.c (.int 1)],.v 2]))
 (.seq (.set 4 (.op z1G [.op pIx [.v 0,.c (.int 1)],.v 2]))
 (.seq (.set 5 (.op pAdd [.op z0d [.op pIx [.v 0,.c (.int 0)],.v 3],.op z0d [.op pIx [.v 1,.c (.int 0)],.v 4]]))
 (.seq (.set 6 (.op z0e [.v 2,.v 5]))
 (.ret (.op pTup [.op z1G [.v 5,.v 6],.op z0d [.v 4,.op z1G [.op pIx [.v 1,.c (.int 1)],.v 6]]])))))))
def z1S:Fn:=Fn.mkN 3 4 (.seq (.set 3 (.op z0e [.op z0e [.v 2,.v 0],.v 1]))
 (.ret (.op pTup [.op z1G [.v 0,.v 3],.op z1G [.v 1,.v 3],.op z1G [.v 2,.v 3]])))
def z23:Fn:=Fn.mkN 2 2 (.ret (.op z1S [.op z0d [.op pIx [.v 0,.c (.int 0)],.op pIx [.v 1,.c (.int 0)]],.op z0d [.op pIx [.v 0,.c (.int 1)],.op pIx [.v 1,.c (.int 0)]],.op z0d [.op pIx [.v 0,.c (.int 2)],.op pIx [.v 1,.c (.int 1)]]]))
def z0f:Fn:=Fn.mkN 2 3 (.seq (.set 2 (.op pAdd [.op z0d [.c (.int 2),.v 1],.c (.int 1)]))
 (.ret (.op pTup [.op pSub [.op pMod [.v 0,.v 2],.v 1],.op pSub [.op pMod [.op z1G [.v 0,.v 2],.v 2],.v 1]])))
def z0r:Fn:=Fn.mkN 1 7 (.seq (.set 1 (.op pIx [.op pLst [.c (.int 3),.c (.int 12),.op pPow [.c (.int 10),.c (.int 9)]],.op pMod [.op z1G [.op pIx [.v 0,.c (.int 0)],.c (.int 2)],.c (.int 3)]]))
 (.seq (.own 2 (.op pLst []))
 (.seq (.set 3 (.c (.int 1)))
 (.seq (.wh (.and (.op pLt [.v 3,.op zaa [.op pLen [.v 0],.c (.int 61)]]) (.op pLt [.op pLen [.v 2],.c (.int 12)])) (.seq (.set 4 (.op pAdd [.c (.int 1),.op pMod [.op pIx [.v 0,.v 3],.c (.int 12)]]))
 (.seq (.set 5 (.op z1G [.op pIx [.v 0,.v 3],.c (.int 12)]))
 (.seq (.own 6 (.op pLst [.op z0f [.v 5,.v 1]]))
 (.seq (.ext 6 (.comp 1 [1] (.nm 0) (.sl (.v 0) (some (.op pAdd [.v 3,.c (.int 1)])) (some (.op zaa [.op pAdd [.v 3,.v 4],.c (.int 61)]))) none (.op z0f [.v 0,.v 1])))
 (.seq (.app 2 (.op pTup [.op z0Q [.v 6],.op z0f [.op z1G [.v 5,.op pPow [.op pAdd [.op z0d [.c (.int 2),.v 1],.c (.int 1)],.c (.int 2)]],.v 1]]))
 (.set 3 (.op pAdd [.v 3,.v 4]))))))))
 (.ret (.op z0Q [.v 2]))))))
def z00:Fn:=Fn.mkN 3 5 (.seq (.set 3 (.c (.int 170141183460469231731687303715884105727)))
 (.seq (.set 4 (.op pMod [.op z0d [.op pAdd [.op pMod [.v 0,.v 3],.op z0d [.op pAdd [.v 1,.c (.int 3)],.c (.int 1000000007)]],.c (.int 105172331949523456789012345678901234567)],.v 3]))
 (.seq (.set 4 (.op pMod [.op z0d [.v 4,.v 4],.v 3]))
 (.ret (.op pMod [.op z1G [.op pMod [.op z0d [.op pAdd [.v 4,.v 1],.c (.int 83492791123456789012345678901234567891)],.v 3],.c (.int 7)],.v 2])))))
def z0K:Fn:=Fn.mkN 3 4 (.seq (.ifs (.op z7s [.v 2,.c .non]) (.seq (.set 3 (.op pSub [.op z00 [.v 0,.c (.int 2),.c (.int 7)],.c (.int 3)]))
 (.ret (.op pTup [.op z0d [.op pIx [.v 2,.c (.int 0)],.v 3],.op z0d [.op pIx [.v 2,.c (.int 1)],.v 3]]))) .skip)
 (.ret (.op pTup [.op pSub [.op z00 [.v 0,.c (.int 2),.op pAdd [.op z0d [.c (.int 2),.v 1],.c (.int 1)]],.v 1],.op pSub [.op z00 [.v 0,.c (.int 3),.op pAdd [.op z0d [.c (.int 2),.v 1],.c (.int 1)]],.v 1]])))
def z0o:Fn:=Fn.mkN 1 10 (.seq (.set 1 (.op z05 [.v 0,.c (.int 0)]))
 (.seq (.ifs (.op pEq [.op pMod [.v 1,.c (.int 2)],.c (.int 1)]) (.ret (.op z0r [.v 0])) .skip)
 (.seq (.set 2 (.op pIx [.op pLst [.c (.int 3),.c (.int 3),.c (.int 12),.op pPow [.c (.int 10),.c (.int 9)]],.op z00 [.v 1,.c (.int 1),.c (.int 4)]]))
 (.seq (.set 3 (.c .non))
 (.seq (.ifs (.op pEq [.op z00 [.v 1,.c (.int 4),.c (.int 5)],.c (.int 0)]) (.set 3 (.op pTup [.op pSub [.op z00 [.v 1,.c (.int 5),.c (.int 7)],.c (.int 3)],.op pSub [.op z00 [.v 1,.c (.int 6),.c (.int 7)],.c (.int 3)]])) .skip)
 (.seq (.set 4 (.op pIx [.op pLst [.c (.int 3),.c (.int 3),.c (.int 5),.c (.int 12)],.op z00 [.v 1,.c (.int 8),.c (.int 4)]]))
 (.seq (.own 5 (.op pLst []))
 (.seq (.set 6 (.c (.int 1)))
 (.seq (.wh (.and (.op pLt [.v 6,.op zaa [.op pLen [.v 0],.c (.int 61)]]) (.op pLt [.op pLen [.v 5],.c (.int 12)])) (.seq (.set 7 (.op pAdd [.c (.int 1),.op z00 [.op pIx [.v 0,.v 6],.c (.int 7),.v 4]]))
 (.seq (.own 8 (.comp 1 [2,3] (.nm 0) (.sl (.v 0) (some (.v 6)) (some (.op zaa [.op pAdd [.v 6,.v 7],.c (.int 61)]))) none (.op z0K [.v 0,.v 1,.v 2])))
 (.seq (.set 9 (.op pTup [.c (.int 0),.c (.int 0)]))
 (.seq (.ifs (.op pEq [.op z00 [.op pIx [.v 0,.v 6],.c (.int 9),.c (.int 2)],.c (.int 1)]) (.set 9 (.op z0K [.op pAdd [.op pIx [.v 0,.v 6],.c (.int 1)],.v 2,.v 3])) .skip)
 (.seq (.app 5 (.op pTup [.op z0Q [.v 8],.v 9]))
 (.set 6 (.op pAdd [.v 6,.v 7]))))))))
 (.ret (.op z0Q [.v 5])))))))))))
end Pu
namespace Zp
open PySem PySem.Spec PyProof.Rows L2
section
variable {prog:Program}{w:World}{A:Around}{E:WvP}{s:Shared}
def nx {j t:Addr}{n:Nat}{xs:Array Value}{x:Value}{Q:WvP}(it:s.heap.IsTupleIter j t n)(h:s.heap.IsTuple t xs)(e:xs[n]? = some x)
  (q:∀h',h'.IsTupleIter j t (n+1)->Heap.SameBut j s.heap h'->Q x { s with heap:=h' }):wpAny (model prog w) A (Builtin.SmallTypes.nextOf (.ref j)) Q E s:=by
 obtain⟨l,g,d,a⟩:=id it;obtain⟨m,f,_,i,b⟩:=h;refine wc (vX it.typeIs uV (ub uV it.typeIs F.entry_tuple_iterator_next ?_ (F.args_tuple_iterator_next_1 _)));show wpAny _ _ (PySem.field _ 0 >>= _) _ _ s;refine wc (uw g a rfl ?_);refine wc (uw g a rfl ?_);refine wc (v6 f b ?_);simp[Int.toNat_natCast,e];refine wc (j6 g a (by simp) (wj ⟨x,rfl,wj (q _ ⟨_,vJ _ g (Obj.isFreed_of_fields (ux a _)),(Obj.cls_mapFields ..).trans d,by rw[ux a];rfl⟩ (uB ..))⟩))
def nxE {j t:Addr}{n:Nat}{xs:Array Value}{Q:WvP}(f:A.handled=none)(it:s.heap.IsTupleIter j t n)(i:s.heap.IsTuple t xs)(e:xs[n]? = none)
  (q:∀h' z,Heap.ExtBut j s.heap h'->(∃o,h'.get? z=some o/\o.cls = .type "StopIteration")->E (.ref z) { s with heap:=h' }):wpAny (model prog w) A (Builtin.SmallTypes.nextOf (.ref j)) Q E s:=by
 obtain⟨r,g,l,b⟩:=id it;obtain⟨u,h,_,p,d⟩:=i
 delta Builtin.SmallTypes.nextOf
 refine wc (vX (name:=Str.ofString "__next__") it.typeIs uV (ub uV it.typeIs F.entry_tuple_iterator_next ?_ (F.args_tuple_iterator_next_1 _)));show wpAny _ _ (PySem.field (.ref j) 0 >>= _) _ _ s;refine wc (uw g b (x :=.ref t) rfl ?_);rw[if_neg (show ¬ (Value.ref t == Value.none)=true from wT)];refine wc (uw g b (x :=.int n 0) rfl ?_);show wpAny _ _ (seqItems? (.ref t) >>= λ_=>_) _ _ s;refine wc (v6 h d ?_);simp only[Int.toNat_natCast,e];refine wc (wpAny_rule (wc (j6 g b (by simp) (show wpAny _ _ (newExc (.type "StopIteration") [] >>= λ_=>_) _ _ _ from wc ?_))));simp only[newExc,newTuple];refine wc (vg (wc (m:=firstArgMember _ _) (wpAny_of_eq (a:=Value.none) (by first | rfl | (simp only[firstArgMember];rfl)) (vg ?_ (by size_fits)))) (by size_fits));simp only[raiseNew];refine wc (wpAny_handled ?_)
 first | rw[show A.in1.handled=none from f] | rw[f]
 exact wc (wj (wpAny_throw (q _ _ (((uB ..).extBut.push _).push _) ⟨_,wp _ rfl,rfl⟩)))
structure St (h:Heap)(z TI TO i1 i2 t1 t2:Addr)(f:Value)(n:Nat):Prop where
 z:IsZip h z TI TO f
 ti:IsPair h TI (.ref i1) (.ref i2)
 to:∃a b,IsPair h TO a b
 a:h.IsTupleIter i1 t1 n
 b:h.IsTupleIter i2 t2 n
def tat {h h':Heap}{t:Addr}{xs:Array Value}(x:h.IsTuple t xs)(k:∀o,h.get? t=some o->h'.get? t=some o):h'.IsTuple t xs:=by
 obtain⟨o,e,r⟩:=x;exact⟨o,k o e,r⟩
variable {z TI TO i1 i2 t1 t2:Addr}{n:Nat}{xs ys:Array Value}{x y:Value}
def item {Q:Option Value->Shared->Prop}(D:ZipApart z TI TO i1 i2 t1 t2)(S:St s.heap z TI TO i1 i2 t1 t2 .none n)(hx:s.heap.IsTuple t1 xs)(hy:s.heap.IsTuple t2 ys)(ex:xs[n]? = some x)(ey:ys[n]? = some y)
  (q:∀h',St h' z TI TO i1 i2 t1 t2 (rawInt s.heap.objs.size) (n+1)->IsPair h' s.heap.objs.size x y->h'.objs.size=s.heap.objs.size+1->(∀c o,c≠z->c≠TO->c≠i1->c≠i2->s.heap.get? c=some o->h'.get? c=some o)->Q (some (.ref s.heap.objs.size)) { s with heap:=h' }):
  wpAny (model prog w) A (pyNext (.ref z)) Q E s:=by
 obtain⟨sz,l,⟨pa,pb,K⟩,sa,sb⟩:=S;have W:s.TypeIs (.ref z) "zip":=⟨_,sz,rfl⟩
 delta pyNext
 refine wc (wpAny_attempt (vX (name:=Str.ofString "__next__") W F.slot_zip_next (ub F.slot_zip_next W F.entry_zip_next ?_ (F.args_zip_next_1 _))));show wpAny _ _ (PySem.field (.ref z) 2 >>= λ_=>_) _ _ _;refine wc (uw sz rfl (x :=.bool false) rfl (show wpAny _ _ (PySem.field (.ref z) 3 >>= λ_=>_) _ _ _ from wc (uw sz rfl (x :=.ref TI) rfl (wc (v6 l rfl ?_)))));show wpAny _ _ (Builtin.SmallTypes.ownedTupleIsFree (.ref z) >>= λ_=>_) _ _ _;refine wc ?_
 delta Builtin.SmallTypes.ownedTupleIsFree
 refine wc (uw sz rfl (x:=Value.none) rfl (wj ?_));simp only[jN];refine wc (wpAny_rule (wc (uw sz rfl (x:=Value.ref TO) rfl (wc (u6 sz (by simp) λg1 L d =>?_)))))
 replace L:IsZip g1 z TI TO .ellipsis:=L
 refine wc ?_;simp only[List.zipIdx_cons,List.zipIdx_nil,List.forIn_cons,List.forIn_nil];refine wc (wc (wpAny_onRaise (show wpAny _ _ (Builtin.SmallTypes.nextOf (.ref i1) >>= λ_=>_) _ _ _ from wc (nx (sa.extBut d.extBut D.i1z) (tat hx λo e=>d.extBut _ _ D.l1z e) ex λg2 Y f=>wj ?_))));have O:IsPair g2 TO pa pb:=f.extBut _ _ D.TOi1 (d.extBut _ _ D.TOz K);refine wc (v6 O rfl (wc (wpAny_updateSeq_pair O λg3 J g =>?_)))
 replace J:IsPair g3 TO x pb:=J
 refine wc (jO (wj ?_));refine wc (wc (wpAny_onRaise (show wpAny _ _ (Builtin.SmallTypes.nextOf (.ref i2) >>= λ_=>_) _ _ _ from wc (nx (((sb.extBut d.extBut D.i2z).extBut f.extBut D.i12.symm).extBut g.extBut D.TOi2.symm)
  (tat hy λo e=>g.extBut _ _ D.l2TO (f.extBut _ _ D.l2i1 (d.extBut _ _ D.l2z e))) ey λg4 b4 i=>wj ?_))))
 have R:IsPair g4 TO x pb:=i.extBut _ _ D.TOi2 J;refine wc (v6 R rfl (wc (wpAny_updateSeq_pair R λa t j =>?_)))
 replace t:IsPair a TO x y:=t
 refine wc (jO (wj (wj (wc (v6 t rfl (wc (wpAny_newTuple ?_)))))));have m:a.objs.size=s.heap.objs.size:=by rw[j.1,i.1,g.1,f.1,d.1]
 have X:IsZip a z TI TO .ellipsis:=j.extBut _ _ D.TOz.symm (i.extBut _ _ D.i2z.symm (g.extBut _ _ D.TOz.symm (f.extBut _ _ D.i1z.symm L)));have N:∀c o,c≠z->c≠TO->c≠i1->c≠i2->s.heap.get? c=some o->a.get? c=some o:=λc o b r C G e=>j.extBut _ _ r (i.extBut _ _ G (g.extBut _ _ r (f.extBut _ _ C (d.extBut _ _ b e))));have Z:a.IsTupleIter i1 t1 (n+1):=((Y.extBut g.extBut D.TOi1.symm).extBut i.extBut D.i12).extBut j.extBut D.TOi1.symm;have b5:a.IsTupleIter i2 t2 (n+1):=b4.extBut j.extBut D.TOi2.symm;have p:z<a.objs.size:=wu X;show wpAny _ _ (Builtin.SmallTypes.ownedTupleHandOut (.ref z) (.ref a.objs.size) >>= λ_=>_) _ _ _;refine wc ?_
 delta Builtin.SmallTypes.ownedTupleHandOut
 have z6:IsZip (a.push { cls :=.type "tuple",data :=.seq #[x,y] }) z TI TO .ellipsis:=wf _ X;refine wc (u6 z6 (by simp) λg7 M H =>?_)
 replace M:IsZip g7 z TI TO (rawInt a.objs.size):=M
 refine u6 M (by simp) λh u I =>?_
 replace u:IsZip h z TI TO (rawInt a.objs.size):=u
 have up:∀c o,c≠z->a.get? c=some o->h.get? c=some o:=λc o b e=>I.extBut _ _ b (H.extBut _ _ b (wf _ e));have U:IsPair h a.objs.size x y:=I.extBut _ _ (jw p) (H.extBut _ _ (jw p) (wp _ rfl));have T:h.objs.size=a.objs.size+1:=by rw[I.1,H.1,v5]
 rw[m] at u U T;refine wj ⟨_,rfl,wj ?_⟩;show Q (some (.ref a.objs.size)) _;rw[m];exact q h ⟨u,up _ _ D.TIz (N _ _ D.TIz D.TITO D.TIi1 D.TIi2 l),⟨_,_,up _ _ D.TOz t⟩,Z.at λo e=>up _ o D.i1z e,b5.at λo e=>up _ o D.i2z e⟩ U T λc o b r C G e=>up c o b (N c o b r C G e)
def fin {Q:Option Value->Shared->Prop}(y:A.handled=none)(D:ZipApart z TI TO i1 i2 t1 t2)(S:St s.heap z TI TO i1 i2 t1 t2 .none n)(C:s.heap.IsTuple t1 xs)(hy:s.heap.IsTuple t2 ys)(e:xs[n]? = none\/ys[n]? = none)
  (q:∀h',(∀c o,c≠z->c≠TO->c≠i1->c≠i2->s.heap.get? c=some o->h'.get? c=some o)->Q none { s with heap:=h' }):wpAny (model prog w) A (pyNext (.ref z)) Q E s:=by
 obtain⟨sz,t,⟨pa,pb,u⟩,J,sb⟩:=S;have K:s.TypeIs (.ref z) "zip":=⟨_,sz,rfl⟩
 have stop:∀h' v,(∀c o,c≠z->c≠TO->c≠i1->c≠i2->s.heap.get? c=some o->h'.get? c=some o)->(∃o,h'.get? v=some o/\o.cls = .type "StopIteration")->wpAny (model prog w) A (isInstance (.ref v) (.type "StopIteration") >>= λb=>if b=true then pure none else throw (Value.ref v)) Q E { s with heap:=h' }:=λh' v kk ⟨o,Z,Y⟩=>
  wc (wpAny_isInstance (T:="StopIteration") (b:=true) ⟨o,Z,Y⟩ isSubtype_stop (wj (q _ kk)))
 delta pyNext
 refine wc (wpAny_attempt (vX (name:=Str.ofString "__next__") K F.slot_zip_next (ub F.slot_zip_next K F.entry_zip_next ?_ (F.args_zip_next_1 _))));show wpAny _ _ (PySem.field (.ref z) 2 >>= λ_=>_) _ _ _;refine wc (uw sz rfl (x :=.bool false) rfl (show wpAny _ _ (PySem.field (.ref z) 3 >>= λ_=>_) _ _ _ from wc (uw sz rfl (x :=.ref TI) rfl (wc (v6 t rfl ?_)))));show wpAny _ _ (Builtin.SmallTypes.ownedTupleIsFree (.ref z) >>= λ_=>_) _ _ _;refine wc ?_
 delta Builtin.SmallTypes.ownedTupleIsFree
 refine wc (uw sz rfl (x:=Value.none) rfl (wj ?_));simp only[jN];refine wc (wpAny_rule (wc (uw sz rfl (x:=Value.ref TO) rfl (wc (u6 sz (by simp) λU j f =>?_)))))
 replace j:IsZip U z TI TO .ellipsis:=j
 refine wc ?_;simp only[List.zipIdx_cons,List.zipIdx_nil,List.forIn_cons,List.forIn_nil];refine wc (wc (wpAny_onRaise (show wpAny _ _ (Builtin.SmallTypes.nextOf (.ref i1) >>= λ_=>_) _ _ _ from wc ?_)))
 cases ex:xs[n]? with
 | none=>
  refine nxE y (J.extBut f.extBut D.i1z) (tat C λo e=>f.extBut _ _ D.l1z e) ex λm v g p =>?_;obtain⟨r,a,d⟩:=p;have L:IsZip m z TI TO .ellipsis:=g _ _ D.i1z.symm j;have ne:v≠z:=λw=>by subst w;rw[L] at a;cases a;simp at d
  exact u6 L (by simp) λg3 _ h=>stop g3 v (λc o i _ l _ w=>h.extBut _ _ i (g _ _ l (f.extBut _ _ i w))) ⟨r,h.extBut _ _ ne a,d⟩
 | some x=>
  have R:ys[n]? = none:=e.resolve_left (by rw[ex];exact λw=>nomatch w);refine nx (J.extBut f.extBut D.i1z) (tat C λo e=>f.extBut _ _ D.l1z e) ex λm a2 g=>wj ?_;have I:IsPair m TO pa pb:=g.extBut _ _ D.TOi1 (f.extBut _ _ D.TOz u);refine wc (v6 I rfl (wc (wpAny_updateSeq_pair I λg3 o3 h =>?_)));refine wc (jO (wj ?_));refine wc (wc (wpAny_onRaise (show wpAny _ _ (Builtin.SmallTypes.nextOf (.ref i2) >>= λ_=>_) _ _ _ from wc (nxE y (((sb.extBut f.extBut D.i2z).extBut g.extBut D.i12.symm).extBut h.extBut D.TOi2.symm)
   (tat hy λo e=>h.extBut _ _ D.l2TO (g.extBut _ _ D.l2i1 (f.extBut _ _ D.l2z e))) R λW v G p =>?_))))
  obtain⟨r,a,d⟩:=p;have M:IsZip W z TI TO .ellipsis:=G _ _ D.i2z.symm (h.extBut _ _ D.TOz.symm (g.extBut _ _ D.i1z.symm j));have ne:v≠z:=λw=>by subst w;rw[M] at a;cases a;simp at d
  exact u6 M (by simp) λX _ H=>stop X v (λc o i N l O w=>H.extBut _ _ i (G _ _ O (h.extBut _ _ N (g.extBut _ _ l (f.extBut _ _ i w))))) ⟨r,H.extBut _ _ ne a,d⟩
end
noncomputable abbrev mk1 (h:Heap)(t:Addr):Heap:=h.push { cls :=.type "tuple_iterator",data :=.fields #[.ref t,.int 0 0] }
abbrev mk3 (h:Heap)(t1 t2:Addr):Heap:=((mk1 (mk1 h t1) t2).push { cls :=.type "tuple",data :=.seq #[.ref h.objs.size,.ref (mk1 h t1).objs.size] }).push { cls :=.type "tuple",data :=.seq #[.none,.none] }
abbrev mk5 (h:Heap)(t1 t2:Addr):Heap:=(mk3 h t1 t2).push { cls :=.type "zip",data :=.fields #[.none,.bool false,.bool false,.ref (mk1 (mk1 h t1) t2).objs.size,.ref ((mk1 (mk1 h t1) t2).push { cls :=.type "tuple",data :=.seq #[.ref h.objs.size,.ref (mk1 h t1).objs.size] }).objs.size] }
def newZ (a b:Addr)(xs ys:Array Value):Meets (Builtin.«zip.__new__» ⟨[.type "zip",.ref a,.ref b],[]⟩) (λ_ R s=>s.heap.IsTuple a xs/\s.heap.IsTuple b ys/\R (.ok (.ret (.ref (mk3 s.heap a b).objs.size))) { s with heap:=mk5 s.heap a b }):=
 .of_wp λi w A R s h=>by
  obtain⟨e,g,d,j,f⟩:=s;obtain⟨l,m,h⟩:=h;have sub:=sub_zip;have n:Heap.IsTuple (Shared.heap ⟨e,g,d,j,f⟩) a xs:=l;have o:Heap.IsTuple (Shared.heap ⟨mk1 e a,g,d,j,f⟩) b ys:=Heap.IsTuple.push m _
  wp_walk using u4 n,u4 o
  exact⟨_,rfl,h⟩
section
variable {prog:Program}{w:World}{A:Around}{E:WvP}{s:Shared}{t1 t2:Addr}{xs ys:Array Value}
def zmo (r:s.heap.IsTuple t1 xs)(t:s.heap.IsTuple t2 ys)
  (q:∀h',St h' (s.heap.objs.size+4) (s.heap.objs.size+2) (s.heap.objs.size+3) s.heap.objs.size (s.heap.objs.size+1) t1 t2 .none 0->(∀c o,s.heap.get? c=some o->h'.get? c=some o)->Q (.ref (s.heap.objs.size+4)) { s with heap:=h' }):
  wpAny (model prog w) A (call (.type "zip") [.ref t1,.ref t2]) Q E s:=by
 refine callType_new F.called_zip (by decide) (F.typeCall_zip_2 _ _) (F.newCall_zip_2 _ _) (λi=>F.args_object_init_3 i _ _) F.entry_zip_new (newZ t1 t2 xs ys) ⟨r,t,?_⟩;have d:(mk1 s.heap t1).objs.size=s.heap.objs.size+1:=v5 ..;have f:(mk1 (mk1 s.heap t1) t2).objs.size=s.heap.objs.size+2:=by rw[v5,d]
 have g:((mk1 (mk1 s.heap t1) t2).push { cls :=.type "tuple",data :=.seq #[.ref s.heap.objs.size,.ref (mk1 s.heap t1).objs.size] }).objs.size=s.heap.objs.size+3:=by rw[v5,f]
 have n:(mk3 s.heap t1 t2).objs.size=s.heap.objs.size+4:=by rw[v5,g]
 have a:∀{h:Heap}{c:Addr}{o u:Obj},h.get? c=some o->(h.push u).get? c=some o:=λe=>wf _ e;have b:(mk5 s.heap t1 t2).get? (mk3 s.heap t1 t2).objs.size=some _:=wp _ rfl;have m:(mk5 s.heap t1 t2).get? ((mk1 (mk1 s.heap t1) t2).push { cls :=.type "tuple",data :=.seq #[.ref s.heap.objs.size,.ref (mk1 s.heap t1).objs.size] }).objs.size=some _:=a (wp _ rfl);have l:(mk5 s.heap t1 t2).get? (mk1 (mk1 s.heap t1) t2).objs.size=some _:=a (a (wp _ rfl));have j:(mk5 s.heap t1 t2).get? (mk1 s.heap t1).objs.size=some _:=a (a (a (wp _ rfl)));have p:(mk5 s.heap t1 t2).get? s.heap.objs.size=some _:=a (a (a (a (wp _ rfl))));show _/\_;rw[n,f,g] at b;rw[g] at m;rw[d,f] at l;rw[d] at j;rw[n];exact⟨⟨_,b,rfl⟩,q _ ⟨b,l,⟨_,_,m⟩,⟨_,p,rfl,rfl⟩,⟨_,j,rfl,rfl⟩⟩ λc o e=>a (a (a (a (a e))))⟩
end
end Zp
namespace L2
open PySem PySem.Spec PyProof.Rows
section
variable {X:Cx}{pins:List (Addr × Obj)}{σ:List (Option V)}{H H':Hp}{s:Shared}{h':Heap}
def Inv.turnedL {t':Nat}{fp:List Addr}(I:Inv X pins σ H s)(k:∀b o,b ∉ fp->s.heap.get? b=some o->h'.get? b=some o)(f:∀b∈fp,FpOk X pins H b):Inv X pins σ H { s with heap:=h',toks:=t' }:=by
 have d:∀b u,H b=some u->b ∉ fp:=λb u e z=>by rw[(f b z).1] at e;cases e
 have t  := λz=>(f _ z).2.1 rfl;refine I.step (λb w =>?_) (λb o _ _ a e _=>k b o a e) (λb o _ _ a e _=>⟨o.slots,k b o a e⟩) (λ_ _ _ _ n=>n)
  (λb o a e=>⟨o,k b o a e⟩) (λ_ _ e=>e) (λ_ _ _ e=>e) (λb ps e=>⟨#[],by rw[e];simp⟩) (λm x =>?_) (λb u e =>?_) I.bare
 .obtain⟨A,i,C,j,l,p⟩:=f b w;exact⟨j,i,l,p⟩
 .obtain⟨o,h,g,y,r⟩:=x;exact⟨o,h,g,k _ o t y,r⟩
 .refine(I.hok b u e).stay (λc v a q=>k c v ?_ q) (λ_ q=>q) λ_ _ q=>q
  rcases a with z | z
  .rw[z];exact d b u e
  .exact d c _ z
end
end L2
namespace Zp
open PySem PySem.Spec PyProof.Rows L2
def Itz (K:W.Frag)(d e:Addr):It:=
 ⟨λi H=>∃a b x y,SqT K H d a/\SqT K H e b/\a[i]? = some x/\b[i]? = some y,
  λi H v f=>∃p x y,v = .ref p/\H p=none/\f=upd H p (.tup [x,y])/\∀a b,SqT K H d a->SqT K H e b->a[i]? = some x/\b[i]? = some y,
  λi H=>∃a b,SqT K H d a/\SqT K H e b/\(a.length<=i\/b.length<=i)⟩
def zcR {P:Program}{w:World}{K:W.Frag}{es:List Expr}{kk:Nat}{a0:Pos}{z TI TO n p G J:Addr}(D:ZipApart z TI TO n p G J):Turn P w K (.Tuple es kk a0) (Itz K G J) [z,TO,n,p,TI] z (λi h=>St h z TI TO n p G J .none i) where
 mem:=by simp
 obj:=λi h m b d=>by
  obtain⟨sz,j,⟨C,F,l⟩,⟨oa,N,ca,da⟩,⟨Z,O,cb,db⟩⟩:=m;simp only[wm,wz,vK] at d
  rcases d with rfl | rfl | rfl | rfl | rfl
  .exact⟨_,sz,λv q=>by cases (show Data.fields _=Data.cell v from q)⟩
  .exact⟨_,l,λv q=>by cases (show Data.seq _ _=Data.cell v from q)⟩
  .exact⟨_,N,λv q=>by rw[da] at q;cases q⟩
  .exact⟨_,O,λv q=>by rw[db] at q;cases q⟩
  .exact⟨_,j,λv q=>by cases (show Data.seq _ _=Data.cell v from q)⟩
 keep:=λi h h' m k=>by
  obtain⟨sz,j,⟨C,F,l⟩,sa,sb⟩:=m;exact⟨k z (by simp) _ sz,k TI (by simp) _ j,⟨C,F,k TO (by simp) _ l⟩,sa.at λo e=>k n (by simp) o e,sb.at λo e=>k p (by simp) o e⟩
 item:=by
  intro X R U Q hc i g s σ H E I S m T;subst R U Q;obtain⟨xs,ys,x,y,L,M,ex,ey⟩:=T;obtain⟨us,r1,p1,_⟩:=I.tuple L;obtain⟨vs,r2,p2,_⟩:=I.tuple M;obtain⟨u,hu,ru⟩:=r1.get ex;obtain⟨v,hv,rv⟩:=r2.get ey;refine item D m (show s.heap.IsTuple G us.toArray from p1) (show s.heap.IsTuple J vs.toArray from p2) (x:=u) (y:=v) (by simpa using hu) (by simpa using hv) λh' r tp _ Y=>⟨_,rfl,?_⟩
  refine wpAny_letOwnedTupleGo_zip r.z λh2 z2 A =>?_;have lt:∀{b o},s.heap.get? b=some o->b≠s.heap.objs.size:=λe=>wJ (wu e);have Z:∀b∈[z,TO,n,p,TI],b≠s.heap.objs.size:=λb d=>by
   obtain⟨sz,j,⟨C,F,l⟩,⟨oa,N,_⟩,⟨oo,O,_⟩⟩:=m;simp only[wm,wz,vK] at d
   rcases d with rfl | rfl | rfl | rfl | rfl
   .exact lt sz
   .exact lt l
   .exact lt N
   .exact lt O
   .exact lt j
  have hz:z≠s.heap.objs.size:=Z z (by simp);have new:(s.heap.push { cls :=.type "tuple",data :=.seq #[u,v] }).get? s.heap.objs.size=some { cls :=.type "tuple",data :=.seq #[u,v] }:=wp _ rfl;have I1:Inv X g σ (upd H s.heap.objs.size (.tup [x,y])) { s with heap:=s.heap.push { cls :=.type "tuple",data :=.seq #[u,v] },toks:=s.toks }:=
   I.laid (λ_ _ q=>wf _ q) (wt _) ⟨wO (show 2<=64 by decide) (by decide),[u,v],.cons ru (.cons rv .nil),⟨_,wp _ rfl,rfl,_,rfl⟩,_,wp _ rfl,rfl⟩
  have t:∀b∈[z,TO,n,p,TI],FpOk X g (upd H s.heap.objs.size (.tup [x,y])) b:=λb d=>by
   obtain⟨f0,f⟩:=S b d;exact⟨by rw[z08 (Z b d)];exact f0,f⟩
  have I2:Inv X g σ (upd H s.heap.objs.size (.tup [x,y])) { s with heap:=h2,toks:=s.toks }:=I1.turnedL (t':=s.toks) (λb o d e=>by
   simp only[wm,wz,vK,not_or] at d;obtain⟨b1,b2,b3,b4,b5⟩:=d;refine A.extBut _ _ b1 ?_
   by_cases he:b=s.heap.objs.size
   .subst he;rw[new] at e
    cases e
    exact tp
   .rw[jF _ _ _ he] at e;exact Y b o b1 b2 b3 b4 e) t
  refine⟨.ref s.heap.objs.size,_,I2,rfl,⟨_,x,y,rfl,I.fresh,rfl,λas bs ha d=>⟨by rw[I.tuple_inj ha L];exact ex,by rw[I.tuple_inj d M];exact ey⟩⟩,⟨z2,A.extBut _ _ D.TIz r.ti,?_,r.a.extBut A.extBut D.i1z,r.b.extBut A.extBut D.i2z⟩,λb d=>(t b d).1⟩;obtain⟨C,F,e⟩:=r.to;exact⟨C,F,A.extBut _ _ D.TOz e⟩
 done:=by
  intro X R U Q hc i g s σ H E I S m T;subst R U Q;obtain⟨xs,ys,L,M,e⟩:=T;obtain⟨us,r1,p1,_⟩:=I.tuple L;obtain⟨vs,r2,p2,_⟩:=I.tuple M;have l1:=r1.length;have l2:=r2.length;refine fin (I.ok.hd hc) D m (show s.heap.IsTuple G us.toArray from p1) (show s.heap.IsTuple J vs.toArray from p2) (e.imp (λq=>by simp;lia) λq=>by simp;lia) λh' Y=>⟨rfl,I.turnedL (t':=s.toks) (λb o d e =>?_) S⟩
  simp only[wm,wz,vK,not_or] at d;exact Y b o d.1 d.2.1 d.2.2.1 d.2.2.2.1 e
 self:=λ_ _ _ _ _ m h=>wpAny_pyIter_zip m.z h
def iZip (K:W.Frag)(e:TA):TI:=λh H R=>e h H λvs d=>∃a b,vs=[.ref a,.ref b]/\(∃f,SqT K d a f)/\(∃g,SqT K d b g)/\R (Itz K a b) d
section
variable {X:Cx}{es:List Expr}{kk:Nat}{tp:Pos}
def zjc {a b:Expr}{A:TA}{p l:Pos}(L:Gl X "zip")(M:X.mg "zip"=none)(J:PA X [a,b] A)(N:autoParam (starEach [a,b] X.env=[(false,eval a X.env),(false,eval b X.env)]) jA1)(j:autoParam (starEach [b] X.env=[(false,eval b X.env)]) jA1):PI X (.Tuple es kk tp) (.Call (.Name "zip" p) [a,b] [] l) (iZip X.K A):=by
 intro d s E H R I h;refine Call_ (z7G I L M (show bootBuiltins "zip"=some (.type "zip") from rfl) (jx (thn (J l d s E H _ I h) λC f z9 =>?_) (by rw[N,j]) (by rw[j];rfl)));obtain⟨vs,u,g,r1,U⟩:=z9;obtain⟨n,t,e,⟨xs,W⟩,⟨ys,Y⟩,q⟩:=U;subst e
 cases r1 with
 | cons r m=>
  cases m with
  | cons Z m=>
   cases m
   cases (show _=Value.ref n from r)
   cases (show _=Value.ref t from Z)
   obtain⟨C,a0,x,_⟩:=g.tuple W;obtain⟨vs,a1,y,_⟩:=g.tuple Y;have Q:n<f.heap.objs.size:=by obtain⟨o,e,_⟩:=x;exact wu e
   have T:t<f.heap.objs.size:=by obtain⟨o,e,_⟩:=y;exact wu e
   refine zmo (show f.heap.IsTuple n C.toArray from x) (show f.heap.IsTuple t vs.toArray from y) λG S O =>?_;refine wpAny_pyIter_zip S.z ?_;have F:Inv X d E u { f with heap:=G,toks:=f.toks }:=g.kept (t':=f.toks) O;refine⟨_,_,_,_,u,rfl,F,zcR (zipApart_new Q T),S,λb w =>?_,q⟩;have i:f.heap.objs.size<=b:=by
    simp only[wm,wz,vK] at w
    rcases w with rfl | rfl | rfl | rfl | rfl
    .exact Nat.le_add_right _ 4
    .exact Nat.le_add_right _ 3
    .exact wt _
    .exact Nat.le_add_right _ 1
    .exact Nat.le_add_right _ 2
   exact g.fpOk i (g.hok.fresh i)
end
end Zp
namespace Pu
open PySem PySem.Spec PyProof.Rows L2 Zp
def gZip (a b:D)(Q:DK):Prop:=match a,b with
 | .tup l,.tup m=>Q (.lst ((l.zip m).map λp =>.tup [p.1,p.2]))
 | _,_=>False
def zcb (a b:D)(Q Q':DK)(m:∀d,Q d->Q' d)(h:gZip a b Q):gZip a b Q':=by
 unfold gZip at h ⊢
 split at h
 .exact m _ h
 omega
def za9:Fn:=fn2 gZip zcb
def zcK {K:W.Frag}{mg:WmP}{G:Hp}{a b:Addr}{xs ys:List V}{l m:List D}(I:SqT K G a xs)(J:SqT K G b ys)(r1:RDs K mg G l xs)(r2:RDs K mg G m ys):Walk K mg G ((l.zip m).map λp =>.tup [p.1,p.2]) (Itz K a b):=λi F H g f=>by
 have j:=z0H (z02 g f) I;have n:=z0H (z02 g f) J;refine⟨λd e =>?_,λL=>⟨xs,ys,j,n,?_⟩⟩
 .rw[wK,uz] at e;obtain⟨⟨N,O⟩,e,rfl⟩:=e;rw[List.getElem?_zip_eq_some] at e;obtain⟨w,s,o⟩:=r1.get e.1;obtain⟨A,t,r⟩:=r2.get e.2;refine⟨⟨xs,ys,w,A,j,n,s,t⟩,λv M y =>?_⟩;obtain⟨p,x,y,rfl,h,rfl,q⟩:=y;obtain⟨C,E⟩:=q xs ys j n;rw[s] at C;rw[t] at E
  cases C
  cases E
  refine⟨z0j h _,upd F p (.tup [w,A]),?_,?_,?_⟩
  .exact Gr.new f h
  .intro c u e
   by_cases z:c=p
   .subst z;rw[z0c] at e ⊢;exact e
   .rw[z08 z] at e ⊢;exact f c u e
  .exact RD.newT (RDs.cons (o.same g) (RDs.cons (r.same g) RDs.nil)) f h
 .simp only[wd,uS] at L;rw[r1.len,r2.len];lia
section
variable {X:Cx}{E:XK}
def zdx {Q p l:Pos}(K:Gl X "zip")(M:X.mg "zip"=none)(J:QXA X E [a,b] [x,y])(i:autoParam (starEach [a,b] X.env=[(false,eval a X.env),(false,eval b X.env)]) jA1)(j:autoParam (starEach [b] X.env=[(false,eval b X.env)]) jA1):
  QXI X E (.Tuple es kk Q) (.Call (.Name "zip" p) [a,b] [] l) (.op za9 [x,y]):=QI.imp (⟨zjc K M J.p i j⟩) <| by
 rintro σ H R ⟨G,o,Q0,e,i,w,N,Y,L,O⟩;refine⟨G,o,_,e,i,w,(show runs _ o (λf=>za9.run f Q0 e) e from N),λf vs r s q C g g3 rds =>?_,O⟩
 match f,q,rds with
 | [z,A],q,rds=>
  have d:gZip z A Q0:=q;unfold gZip at d
  split at d
  .obtain⟨Z,r1,rfl,F,h⟩:=rds;obtain⟨v2,r2,rfl,h,I⟩:=h;subst I;obtain⟨t,U,rfl,m,S⟩:=z1B F;obtain⟨u,W,rfl,n,T⟩:=z1B h;exact⟨t,u,rfl,⟨U,z0H g m⟩,⟨W,z0H g n⟩,L _ r s d C g g3 _ _ rfl (zcK m n S T)⟩
  .exact d.elim
end
end Pu
namespace Pu
open PySem L2
def z2r:Fn:=Fn.mkN 2 4 (.seq (.set 2 (.op pGt [.v 0,.op pTup [.c (.int 0),.c (.int 0)]]))
 (.seq (.set 3 (.op pGt [.v 1,.op pTup [.c (.int 0),.c (.int 0)]]))
 (.seq (.ifs (.op pNe [.v 2,.v 3]) (.ret (.v 2)) .skip)
 (.ret (.op pGt [.op z1q [.v 0,.v 1],.c (.int 0)])))))
def z1R:Fn:=Fn.mkN 2 5 (.seq (.own 2 (.op pLst []))
 (.seq (.set 3 (.c (.int 0)))
 (.seq (.for_ [] (.nm 4) (.v 1) (.seq (.wh (.and (.op pLt [.v 3,.op pLen [.v 0]]) (.op z2r [.op pIx [.v 0,.v 3],.v 4])) (.seq (.app 2 (.op pIx [.v 0,.v 3]))
 (.set 3 (.op pAdd [.v 3,.c (.int 1)]))))
 (.app 2 (.v 4))))
 (.ret (.op pAdd [.v 2,.sl (.v 0) (some (.v 3)) none])))))
def z1C:Fn:=Fn.mkN 2 3 (.seq (.ifs (.op pEq [.op pLen [.v 0],.c (.int 1)]) (.ret (.op pLst [])) .skip)
 (.seq (.set 2 (.op pAdd [.sl (.v 0) (some (.c (.int 1))) none,.sl (.v 0) none (some (.c (.int 1)))]))
 (.ret (.comp 2 [1] (.tp [0,1]) (.op za9 [.v 0,.v 2]) none (.callv z8J 2 [.v 0,.v 1])))))
def z3v:Fn:=Fn.mkN 2 7 (.seq (.set 2 (.op z09 [.v 0]))
 (.seq (.set 3 (.op z09 [.v 1]))
 (.seq (.set 4 (.op z0M [.op pIx [.v 2,.c (.int 0)],.op pIx [.v 3,.c (.int 0)]]))
 (.seq (.own 5 (.op pLst [.v 4]))
 (.seq (.for_ [] (.nm 6) (.op z1R [.op z1C [.v 2,.c (.fn 2)],.op z1C [.v 3,.c (.fn 2)]]) (.seq (.set 4 (.op z0M [.v 4,.v 6]))
 (.app 5 (.v 4))))
 (.ret (.op z09 [.v 5])))))))
open PySem.Spec PyProof.Rows Tab
mutual
def z7K (K:W.Frag):D->Value->Bool
 | .int i,.int j _=>i == j
 | .str x,.str y _=>x == y
 | .non,.none=>true
 | .bl b,.bool c=>b == c
 | .tup e,.ref a=>match K.lookup a with
  | some o=>(match o.cls with | .type t=>t == "tuple" | _=>false) && (match o.data with
   | .seq d _=>(decide (d.size<=sizeLine) && o.dict.isNone) && z9p K e d.toList
   | _=>false)
  | none=>false
 | _,_=>false
def z9p (K:W.Frag):List D->List Value->Bool
 | [],[]=>true
 | d::a,v::vs=>z7K K d v && z9p K a vs
 | _,_=>false
end
def zkR (K:W.Frag)(mg:WmP)(x:Str)(d:D):Prop:=∃v,mg x=some v/\z7K K d v=true
section
variable {K:W.Frag}{mg:WmP}
set_option tactic.hygienic true in
mutual
theorem z9q:∀(d:D) {u:Value},z7K K d u=true->∃v,RelV v u/\∀G,RD K mg G d v
 | .non,u,h=>by
  cases u with
  | none=>exact⟨.non,rfl,λ_=>by rw[RD]⟩
  | _=>cases h
 | .bl b,u,h=>by
  cases u with
  | bool c=>rw[z7K] at h;cases (eq_of_beq h);exact⟨.bl b,rfl,λ_=>RD.bl'⟩
  | _=>cases h
 | .int i,u,h=>by
  cases u with
  | int j t=>rw[z7K] at h;cases (eq_of_beq h);exact⟨.int i,⟨t,rfl⟩,λ_=>RD.int'⟩
  | _=>cases h
 | .str x,u,h=>by
  cases u with
  | str y t=>rw[z7K] at h;cases (eq_of_beq h);exact⟨.str x,⟨t,rfl⟩,λ_=>RD.str'⟩
  | _=>cases h
 | .tup l,u,h=>by
  cases u with
  | ref a=>
   rw[z7K] at h
   split at h
   .rename_i o p
    rw[vI] at h;obtain⟨f,e⟩:=h
    split at e
    .rename_i g n m
     rw[vI,vI] at e;obtain⟨vs,r,q⟩:=z7J l e.2;refine⟨.ref a,rfl,λG=>by
      rw[RD];refine⟨a,vs,rfl,.inr ⟨o,g,n,p,?_,m,ue e.1.1,r,Option.isNone_iff_eq_none.mp e.1.2⟩,q G⟩
      split at f
      .rename_i t s;rw[s,eq_of_beq f]
      .cases f⟩
    .cases e
   .cases h
  | _=>cases h
 | .lst _,_,h=>by cases h
 | .dct _ _,_,h=>by cases h
 | .fn _,_,h=>by cases h
 | .exc _,_,h=>by cases h
 | .ptr _,_,h=>by cases h
 | .fz _ _,_,h=>by cases h
 | .ins _ _ _,_,h=>by cases h
theorem z7J:∀(a:List D) {us:List Value},z9p K a us=true->∃vs,Vals vs us/\∀G,RDs K mg G a vs
 | [],[],_=>⟨[],.nil,λ_=>RDs.nil⟩
 | [],_::_,h=>by cases h
 | _::_,[],h=>by cases h
 | d::a,u::us,h=>by
  rw[z9p,vI] at h;obtain⟨v,r,q⟩:=z9q d h.1;obtain⟨vs,e,b⟩:=z7J a h.2;exact⟨v::vs,.cons r e,λG=>RDs.cons (q G) (b G)⟩
end
end
def zlm {a:Pos}(e:Gl X x)(f:zkR X.K X.mg x d)(b:autoParam (dB x) jB1):QX X E (.Name x a) (.c d):=by
 obtain⟨u,g,h⟩:=f;obtain⟨v,r,q⟩:=z9q d h;exact qx_c ⟨zbw e g r b⟩ q
noncomputable def z2Q:D :=.tup [.tup [.int (1),.int (0)],.tup [.int (0),.int (1)],.tup [.int (-1),.int (0)],.tup [.int (0),.int (-1)]]
def z27:Fn:=Fn.mkN 1 1 (.ret (.op pTup [.op pIx [.v 0,.c (.int 1)],.op pNeg [.op pIx [.v 0,.c (.int 0)]]]))
def z1w:Fn:=Fn.mkN 2 6 (.seq (.ifs (.op pEq [.op pLen [.v 0],.c (.int 1)]) (.ret (.comp 1 [0] (.nm 0) (.c z2Q) none (.op pTup [.v 0,.op pIx [.v 1,.c (.int 0)]]))) .skip)
 (.seq (.own 2 (.op pLst []))
 (.seq (.forr [.op pLen [.v 0]] (.nm 3) (.seq (.set 4 (.op pIx [.v 0,.v 3]))
 (.seq (.set 5 (.callv z8J 1 [.op pIx [.v 0,.op pSub [.v 3,.c (.int 1)]],.v 4]))
 (.seq (.app 2 (.op pTup [.op z27 [.v 5],.v 4]))
 (.ifs (.op pEq [.op pLen [.v 0],.c (.int 2)]) (.app 2 (.op pTup [.v 5,.v 4])) .skip)))))
 (.ret (.v 2)))))
def z1I:Fn:=Fn.mkN 1 2 (.seq (.set 1 (.op z1w [.op z09 [.v 0],.c (.fn 2)]))
 (.ret (.op z0Q [.comp 2 [] (.tp [0,1]) (.v 1) none (.op pTup [.v 0,.op z10 [.v 0,.v 1]])])))
end Pu
namespace Geo
def Hd (l h:List P):Prop:=∃a:List P,a.Pairwise Lx/\(∀p,p∈a↔p∈l)/\h=hull a
def Hd.is {l h:List P}(x:Hd l h)(e:l≠[]):z04 (· ∈ l) h:=by
 obtain⟨f,b,d,rfl⟩:=x;have a:f≠[]:=λz=>by
  cases l with
  | nil=>exact e rfl
  | cons p l=>have:=(d p).mpr (by simp);grind
 have:=zhe a b
 simp_all
theorem z6v:∀{l:List P}{i:Nat}{a b:P},Path R l->l[i]? = some a->l[i+1]? = some b->R a b
 | [],_,_,_,_,e,_=>by simp at e
 | [_],i,_,_,_,e,f=>by simp at f
 | x::y::r,0,a,b,h,e,f=>by
  simp at e f;subst e;subst f;exact h.1
 | x::y::r,i+1,a,b,h,e,f=>z6v h.2 (by simpa using e) (by simpa using f)
theorem z40:∀{u v:List P},Path R (u++v)->Path R v
 | [],_,h=>h
 | [x],[],_=>trivial
 | [x],y::v,h=>h.2
 | x::y::u,v,h=>z40 (u:=y::u) h.2
theorem z61 (det:∀a b c,R a b->R a c->b=c):∀{t:List P},m ∉ t->Path R (t++[m])->t.Nodup
 | [],_,_ =>.nil
 | a::t,i,h=>by
  rw[vf];have d  := λz=>i (wn _ z);refine⟨λg =>?_,z61 det d (z40 (u:=[a]) h)⟩;obtain⟨u,v,e⟩:=List.append_of_mem g;have f  := by
   have:Path R ((a::u)++(a::v++[m])):=by simp_all
   exact z40 this
  have j:m ∉ v:=λz=>d (by rw[e];simp[z]);have:=z3B det d j h f;have:=congrArg List.length this;rw[e] at this;simp at this;lia
def z04.nodup (x:z04 S h):h.Nodup:=by
 obtain⟨m,t,rfl,i,j,g,d⟩:=x.ex
 rcases d with ⟨rfl,_⟩ | ⟨_,d⟩
 .simp
 .rw[vf];exact⟨g,z61 (λa b c e f=>e.det f) g (z40 (u:=[m]) d)⟩
def z04.sub {S:P->Prop}{h:List P}(x:z04 S h):∀p∈h,S p:=by
 obtain⟨m,t,rfl,j,l,n,a⟩:=x.ex
 rcases a with ⟨rfl,_⟩ | ⟨o,a⟩
 .simp_all
 .intro p g;obtain⟨i,b,e⟩:=vi.mp g;have f:(m::t++[m])[i]? = some p:=by rw[wN b,wo b,e]
  have d:i+1<(m::t++[m]).length:=by simp at b ⊢;lia
  exact(z6v a f (wo d)).sa
def Edge.less (e:Edge S a b)(h:∀p,T p->S p)(f:T a)(g:T b):Edge T a b:=⟨f,g,e.ne,λp d=>e.left p (h p d),λp d=>e.btw p (h p d)⟩
theorem z7q (h:∀p,T p->S p):∀{l:List P},(∀p∈l,T p)->Path (Edge S) l->Path (Edge T) l
 | [],_,_=>trivial
 | [_],_,_=>trivial
 | a::b::r,e,d=>⟨d.1.less h (e a (by simp)) (e b (by simp)),z7q h (λp d=>e p (wn _ d)) d.2⟩
def z04.of {S T:P->Prop}{h:List P}(x:z04 S h)(e:∀p,T p->S p)(i:∀p∈h,T p):z04 T h:=by
 obtain⟨m,t,rfl,j,f,g,a⟩:=x.ex;refine⟨m,t,rfl,i m (by simp),λp b=>f p (e p b),g,?_⟩
 rcases a with ⟨rfl,a⟩ | ⟨d,a⟩
 .exact .inl ⟨rfl,λp b=>a p (e p b)⟩
 .exact .inr ⟨d,z7q e (λp b=>by
   grind) a⟩
def z4e {a b c:P}(e:Edge S a b)(f:Edge S b c)(h:a≠c):0<Qa a b c:=by
 have H:=e.left c f.sb
 rcases uJ H with z | z
 .exact z
 exfalso
 have x:Qa a b c=0:=z.symm;have U:Qa b c a=0:=by rw[<- x];unfold Qa;grind
 obtain⟨Y,Q⟩:=e.btw c f.sb x;obtain⟨Z,R⟩:=f.btw a e.sa U;have o:=e.ne;have p:=f.ne;obtain⟨m,n⟩:=a;obtain⟨g,i⟩:=b;obtain⟨j,l⟩:=c;simp only[Qa,dot] at*;generalize K:g - m=u1 at*;generalize L:i - n=u2 at*;generalize M:j - m=v1 at*;generalize N:l - n=v2 at*;have F:(j - g)*(m - g)+(l - i)*(n - i)=(u1*u1+u2*u2) - (u1*v1+u2*v2):=by
  have:j - g=v1 - u1:=by lia
  have:l - i=v2 - u2:=by lia
  have:m - g = -u1:=by lia
  have:n - i = -u2:=by lia
  grind
 have G:(m - j)*(g - j)+(n - l)*(i - l)=(v1*v1+v2*v2) - (u1*v1+u2*v2):=by
  have:m - j = -v1:=by lia
  have:n - l = -v2:=by lia
  have:g - j=u1 - v1:=by lia
  have:i - l=u2 - v2:=by lia
  grind
 rw[F] at Q;rw[G] at R;have u:(u1*v1+u2*v2)*(u1*v1+u2*v2)=(u1*u1+u2*u2)*(v1*v1+v2*v2):=by
  have:(u1*u1+u2*u2)*(v1*v1+v2*v2) - (u1*v1+u2*v2)*(u1*v1+u2*v2)=(u1*v2 - u2*v1)*(u1*v2 - u2*v1):=by grind
  rw[x] at this;lia
 have J:0<=u1*v1+u2*v2:=by
  have:(v1*u1+v2*u2)=u1*v1+u2*v2:=by grind
  lia
 generalize W:u1*v1+u2*v2=d at*;generalize I:u1*u1+u2*u2=uu at*;generalize X:v1*v1+v2*v2=vv at*;have w:0<=uu:=by have:=z0g u1;have:=z0g u2;lia
 have T:0<=vv:=by have:=z0g v1;have:=z0g v2;lia
 have C:d*d<=uu*d:=wE (by lia) J;have E:uu*d<=uu*vv:=wH (by lia) w;have s:uu*(vv - d)=0:=by
  have:uu*(vv - d)=uu*vv - uu*d:=by grind
  omega
 rcases wM.mp s with z | z
 .obtain⟨y,A⟩:=z3E (I.trans z);exact o (uc (by show m=g;lia) (by show n=i;lia))
 .have r:vv=d:=by lia
  have t:d*(uu - d)=0:=by
   have:d*(uu - d)=uu*d - d*d:=by grind
   rw[r] at u;omega
  rcases wM.mp t with z | z
  .have q:v1*v1+v2*v2=0:=by lia
   obtain⟨y,A⟩:=z3E q;exact h (uc (by show m=j;lia) (by show n=l;lia))
  .have O:(u1 - v1)*(u1 - v1)+(u2 - v2)*(u2 - v2)=0:=by
    have:(u1 - v1)*(u1 - v1)+(u2 - v2)*(u2 - v2)=(u1*u1+u2*u2) - 2*(u1*v1+u2*v2)+(v1*v1+v2*v2):=by grind
    lia
   obtain⟨y,A⟩:=z3E O;exact p (uc (by show g=j;lia) (by show i=l;lia))
end Geo
open Lean in
def al (s:String)(r:=true):MacroM (TSyntax `tactic):=do
 let a←(s.splitOn " ").toArray.mapM λw=>do
  let h:=w.toList.dropWhile (!"?!#%=~*^$".contains ·)
  let f:=mkIdent (w.dropEnd h.length).toString.toName
  if h=[] then `(tacticSeq|exact $f) else if h=['$'] then `(tacticSeq|refine $f ?_;with_unfolding_all rfl) else
   let x←h.toArray.mapM λc=>if c='?' then `(?_) else if c='*' then `(_) else if c='^' then `(by decide) else pure (mkIdent (if c='!' then `S else if c='=' then `rfl else if c='#' then `lk2 else if c='~' then `n1 else `lk1))
   if h.contains '?' then `(tacticSeq|refine $f $x*) else `(tacticSeq|exact $f $x*)
 if r then `(tactic|with_reducible first $[|$a]*) else `(tactic|first $[|$a]*)
open Lean in
def rf (s:String):MacroM Term:=do
 let l:=s.splitOn ":"
 return Syntax.mkApp (mkIdent l.head!.toName) (←l.getLast!.toList.toArray.mapM λc=>if c='?' then `(?_) else if c='_' then `(_) else if c='n' then pure (mkIdent `lkN) else do
  let i:=mkIdent (if c='i' then `id else if c='c' then `CX else if c='k' then `k else if c='p' then `ps else if c='s' then `sp else if c='G' then `G else if c='t' then `t else `n)
  let v←if c='0' then `(0) else if c='2' then `(2) else `(?_)
  return⟨(←`(Parser.Term.namedArgument|($i:ident:=$v))).raw⟩)
open Lean in
def sh (s:String)(t:TSyntax `tactic):MacroM (TSyntax `tactic):=do `(tactic|((with_reducible show $(←rf s));$t))
open Lean in
def sq (s:String):MacroM (TSyntax `tactic):=do
 let a←(s.splitOn " ").toArray.mapM λw=>do
  let l:=w.splitOn ":"
  let x←l.tail.toArray.mapM λv=>if v="a" then `(tactic|try apply Pu.z9l) else if v="b" then `(tactic|apply Pu.z9l) else if v="c" then `(tactic|focus exact⟨by decide,by decide,by decide⟩) else if v="d" then `(tactic|focus (simp only[wU,vZ];decide)) else `(tactic|focus walk_at $(Syntax.mkStrLit v))
  let x:=#[←`(tactic|with_reducible apply $(mkIdent (`Pu++l.head!.toName)))]++x
  `(tacticSeq|$[$x:tactic];*)
 `(tactic|first $[|$a]*)
open Lean in
def rl (s:String)(n:Nat)(t:TSyntax `tactic):MacroM (TSyntax `Lean.Parser.Tactic.tacticSeq):=do `(tacticSeq|with_reducible refine $(←rf s);rotate_left $(quote n);$t:tactic)
local macro_rules | `(tactic| walk_at "bt") => `(tactic| first | assumption | (refine L2.Bt.add ?_ ?_ <;> walk_at "bt") | (refine L2.Bt.sub ?_ ?_ <;> walk_at "bt") | (refine L2.Bt.mul ?_ ?_ <;> walk_at "bt") | (apply L2.Bt.neg;walk_at "bt") | exact L2.bt_k (by decide +kernel) | exact L2.bt_n (by omega) (by omega))
local macro_rules | `(tactic| walk_at "mu") => `(tactic| exact⟨L2.Bt.le (by walk_at "bt") (by decide),L2.Bt.le (by walk_at "bt") (by decide)⟩)
local macro_rules | `(tactic| walk_at "ps") => `(tactic| first | assumption | decide | omega)
local macro_rules | `(tactic| walk_at "bb") => `(tactic| first | exact L2.z9I (by decide) (by decide) | exact L2.Bt.le (by walk_at "bt") (by decide) | exact L2.z9I (by omega) (by omega))
local macro_rules | `(tactic| walk_at "sf") => `(tactic| first | exact Pu.Safe.of_noL rfl rfl _ | exact Pu.Safe.of_noL (Pu.z17 _) (Pu.z18 _) _ | (repeat (first | exact trivial | refine⟨trivial,?_⟩)) | assumption)
local macro_rules | `(tactic| walk_at "en") => do
 let a←("List.set_cons_zero List.set_cons_succ wI uD List.replicate List.cons_append List.nil_append Nat.reduceSub Pu.dem Pu.vis Pu.visB Pu.demB jn uO Option.getD_some Pu.z1a List.replicate_succ List.replicate_zero".splitOn " ").toArray.mapM λw=>`(Lean.Parser.Tactic.simpLemma|$(Lean.mkIdent w.toName):ident)
 `(tactic| try simp only[$a,*])
local macro_rules | `(tactic| walk_at "st") => sq "e_c e_v:b zkr zeo zmh zmg zmf zg3 zih zm3 zlW zlX zlZ:mu zfe:ps:bb zjP:ps zjO:c zm1:a zm2:a o_lt o_le o_gt o_eq o_ne o_is zgU zjT zjS zlU:d zm0:d zjN zm4 zjV zjU zjQ zmj e_or zmi n_bl zfs zma zm9 e_sl zjp zjo zkn zmq zmp zaO z3C z4k zl0 zd4 zi7 s_if zl1 zeR zl4:en zg0 z0O:sf:en zmn:en zkD:en"
local macro_rules | `(tactic| walk_at "go") => `(tactic| repeat walk_at "st")
local macro_rules | `(tactic| walk_at "fn") => `(tactic| ((refine Pu.zl7 rfl ?_);(walk_at "en")))
local macro_rules | `(tactic| walk_at "fe") => `(tactic| ((refine Pu.zl8 rfl ?_);(walk_at "en")))
local macro_rules | `(tactic| ac_nf) => `(tactic| walk_at "go")
local macro_rules | `(tactic| ac_rfl) => `(tactic| walk_at "en")
namespace Pu
open PySem L2
def szl {n:Nat}(h:n<=1000000):n<=sizeLine:=wO h (by decide)
def szl' {n:Nat}(h:n<=1000000):n<sizeLine:=Nat.lt_of_le_of_lt h (by decide)
abbrev Vb (n:Nat)(p:Int × Int):Prop:=Bt n p.1/\Bt n p.2
abbrev Wb (n:Nat)(l:List (Int × Int)):Prop:=∀p∈l,Vb n p
theorem Vb.le {m n:Nat}{p:Int × Int}(h:Vb m p)(q:autoParam (m<=n) jB1):Vb n p:=⟨h.1.le q,h.2.le q⟩
theorem Wb.le {m n:Nat}{l:List (Int × Int)}(h:Wb m l)(q:autoParam (m<=n) jB1):Wb n l:=λp a=>(h p a).le q
def z36 (b:Vb 30000000 p)(e:Vb 30000000 r)(q:Q (.int (p.1*r.2 - p.2*r.1))):z1q.run [vec p,vec r] Q X:=by
 obtain⟨f,g⟩:=b;obtain⟨i,j⟩:=e;walk_at "fn";ac_nf;exact q
def z3o (b:Vb 30000000 p)(e:Vb 30000000 r)(q:Q (.int (p.1*r.1+p.2*r.2))):z10.run [vec p,vec r] Q X:=by
 obtain⟨f,g⟩:=b;obtain⟨i,j⟩:=e;walk_at "fn";ac_nf;exact q
def z1U (q:Q (vec (r.1 - p.1,r.2 - p.2))):z0v.run [vec p,vec r] Q X:=by
 walk_at "fn";ac_nf;exact q
def Vb.step {p r:Int × Int}(h:Vb 20000000 p)(k:Vb 20000000 r):Vb 30000000 (r.1 - p.1,r.2 - p.2):=⟨(Bt.sub k.1 h.1).le,(Bt.sub k.2 h.2).le⟩
def zb2 {a b c:Int × Int}{Q:DK}{X:XP}(g:Vb 20000000 a)(f:Vb 20000000 b)(i:Vb 20000000 c)(q:Q (.int (Qa a b c))):z3e.run [vec a,vec b,vec c] Q X:=by
 walk_at "fn";ac_nf;refine z1U ?_;ac_nf;refine z1U ?_;refine z36 (g.step f) (f.step i) ?_;have e:(b.1 - a.1)*(c.2 - b.2) - (b.2 - a.2)*(c.1 - b.1)=Qa a b c:=by unfold Qa;grind
 simp_all
def z8L {T:Nat->Fn}{i n:Nat}{es:List Ex}{a:Pu.Env}{Q:DK}{X:XP}(h:a.get i=some (.fn n))(q:runs es a (λb=>(T n).run b Q X) X):(Ex.callv T i es).run a Q X:=⟨n,h,q⟩
def zbH (q:Q (.lst l.reverse)):z1N.run [.lst l] Q X:=q
def zkM {a:Type}{b:a}{r:List a}:atI (b::r).reverse (-1)=some b:=by
 unfold atI ixN;rw[if_neg (by decide),List.length_reverse,wU,if_pos (by lia)];rw[show ((-1)+((r.length+1:Nat):Int)).toNat=r.length by lia];simp
def zhy {d:Type}{a b:d}{r:List d}:atI (b::a::r).reverse (-2)=some a:=by
 unfold atI ixN;rw[if_neg (by decide),List.length_reverse,wU,wU,if_pos (by lia)];rw[show ((-2)+((r.length+1+1:Nat):Int)).toNat=r.length by lia];simp
def z5Y {l:List (Int × Int)}{Q:DK}{X:XP}(M:Wb 20000000 l)(R:l.length<=100000)(q:Q (.lst ((z2e l).reverse.map vec))):z2D.run [.lst (l.map vec),.fn 0] Q X:=by
 walk_at "fn";refine z4k (zd4 ?_);ac_nf;refine z1A (λx O=>by cases O) ?_;ac_rfl;ac_nf;refine z0J (f:=vec) (λI j=>Ee2 λ(y:List (Int × Int)) x=>Aa4 (y=z2e I) (∀p∈y,p∈l) (y.length<=I.length) (j=[.s (.lst (l.map vec)),.s (.fn 0),.o (.lst (y.reverse.map vec)),x])) ⟨[],_,rfl,(λp hp=>by cases hp),wt _,rfl⟩ ?_ ?_
 .rintro I v r j e ⟨y,x,w,C,z,rfl⟩;have L:v∈l:=by rw[e];simp
  show Sm.run _ _ _ _ _;ac_rfl;refine Sm.cut (λj=>Ee1 λ(g:List (Int × Int))=>Aa4 (g=pops v y) (∀p∈g,p∈l) (g.length<=I.length) (j=[.s (.lst (l.map vec)),.s (.fn 0),.o (.lst (g.reverse.map vec)),.s (vec v)])) ?_ ?_
  .refine z51 (λj=>Ee1 λ(g:List (Int × Int))=>Aa4 (pops v g=pops v y) (∀p∈g,p∈l) (g.length<=I.length) (j=[.s (.lst (l.map vec)),.s (.fn 0),.o (.lst (g.reverse.map vec)),.s (vec v)])) (λj=>nL j 2) ⟨y,rfl,C,z,rfl⟩ ?_;rintro j ⟨g,m,i,u,rfl⟩;ac_nf
   match g,m,i,u with
   | [],m,i,u=>
    refine t_no (by simp) ?_;refine z3C ?_;exact⟨[],by rw[<- m];rfl,i,u,rfl⟩
   | [b],m,i,u=>
    refine t_no (by simp) ?_;refine z3C ?_;exact⟨[b],by rw[<- m];rfl,i,u,rfl⟩
   | b::a::r,m,i,u=>
    refine zkX (by simp;lia) ?_;ac_nf;refine z8L rfl ?_;ac_nf;refine z19 (z0P zhy) ?_;ac_nf;refine z19 (z0P zkM) ?_;ac_nf;have J:∀p,p∈l->Vb 20000000 p:=M;refine zb2 (J a (i a (by simp))) (J b (i b (by simp))) (J v L) ?_;ac_nf;refine z0G (λK =>?_) (λK =>?_)
    .refine zl2 (z0w rfl ?_);unfold popL;rw[wd,List.length_reverse,wK,show (b::a::r).reverse[(b::a::r).length - 1]? = some b by simp];refine⟨⟨a::r,?_,λp hp=>i p (wn _ hp),by simp at u ⊢;lia,?_⟩,?_⟩
     .rw[<- m];show _=pops v (b::a::r);rw[pops,if_pos K]
     .simp
     .show List.length _<List.length _;simp
    .exact⟨b::a::r,by rw[<- m,pops,if_neg K],i,u,rfl⟩
  .rintro j ⟨g,m,i,u,rfl⟩;refine z4l (l:=[]) (z0w rfl ?_);ac_nf;have N:I.length<l.length:=by rw[e];simp
   refine⟨by simp;exact szl' (by lia),Safe.of_noL rfl rfl _,?_⟩;ac_rfl;refine⟨v::g,.s (vec v),?_,λp hp =>?_,by simp;lia,by simp⟩
   .unfold z2e at w ⊢;rw[List.foldl_append, <- w,m]
    rfl
   .rcases wm.mp hp with rfl | hp
    .exact L
    .exact i p hp
 rintro j ⟨y,x,w,C,z,rfl⟩;ac_nf;rw[w];exact q
def z6V {a:Type}(l:List a):(l.drop (HT.sIx l.length 0 none)).take (HT.sIx l.length l.length (some (-1)) - HT.sIx l.length 0 none)=l.dropLast:=by
 rw[List.dropLast_eq_take];show (l.drop 0).take ((if (-1)<0 then ((-1:Int)+l.length).toNat else min (-1).toNat l.length) - 0)=_
 grind
def z6o (g:Wb 20000000 l)(i:l.length<=100000)(q:Q (vecs (hull l))):z26.run [.lst (l.map vec),.fn 0] Q X:=by
 walk_at "fn";ac_nf;rw[wd];refine z0G (λh =>?_) (λh =>?_)
 .ac_nf;rw[hull,if_pos (by lia)] at q;exact q
 ac_nf;refine z5Y g i ?_;have f:∀(l:List (Int × Int)) s,(l.foldl (λs v=>v::pops v s) s).length<=l.length+s.length:=by
  have j:∀v s,(pops v s).length<=s.length:=by
   intro v s
   induction s with
   | nil=>exact wt _
   | cons b s e=>
    cases s with
    | nil=>exact wt _
    | cons a s=>
     rw[pops]
     split
     .exact Nat.le_succ_of_le e
     .exact wt _
  intro l
  induction l with
  | nil=>intro s;simp
  | cons v l e=>
   intro s;rw[List.foldl_cons];have:=e (v::pops v s);have:=j v s;simp only[wU] at*;lia
 have m:(z2e l).length<=l.length:=wO (f l []) (wt _);have o:(z2e l.reverse).length<=l.length:=wO (f l.reverse []) (by simp);refine z0O ?_ ?_
 .exact⟨trivial,trivial,trivial,trivial,trivial⟩
 ac_rfl;ac_nf;refine zbH ?_;ac_nf;rw[<- List.map_reverse];refine z5Y (λp hp=>g p (by simpa using hp)) (by simpa using i) ?_;refine z0O ⟨trivial,trivial,trivial,trivial,trivial⟩ ?_;ac_rfl;ac_nf;rw[z2W,z2W,z6V,z6V];refine zbI (by simp;exact szl (by lia)) ?_;ac_nf;rw[<- wA];rw[hull,if_neg (by lia)] at q;exact q
def zfm:HT.z0q [a.1,a.2] [b.1,b.2]=true↔Lx a b:=by
 rw[HT.z0R,HT.z0R];unfold Lx
 split
 .split
  .rw[HT.z2N]
   simp_all
  .simp;lia
 .simp;lia
def pk (p:Int × Int):List Int:=[p.1,p.2]
def zf7 (h:pk p=pk r):p=r:=by
 unfold pk at h
 grind
def zda:∀{ks b:List (List Int)}{l:List (Int × Int)},ks=l.map pk->Rows ks b->∃a:List (Int × Int),b=a.map pk/\a.Pairwise Lx/\∀p,p∈a↔p∈l:=by
 intro ks b l e h;have j:∀k∈b,∃p,k=pk p:=λk i=>by
  have:=(h.mem k).mp i;rw[e] at this;obtain⟨p,_,rfl⟩:=we.mp this;exact⟨p,rfl⟩
 have m:∃a:List _,b=a.map pk:=by
  clear h e
  induction b with
  | nil=>exact⟨[],rfl⟩
  | cons k b n=>
   obtain⟨p,d⟩:=j k wv;obtain⟨a,f⟩:=n λk i=>j k (wn _ i);exact⟨p::a,by rw[d,f];rfl⟩
 obtain⟨a,rfl⟩:=m;refine⟨a,rfl,?_,λp =>?_⟩
 .have:=h.up;rw[wZ] at this;exact this.imp λz=>zfm.mp z
 .have:=h.mem (pk p);rw[e] at this
  constructor
  .intro d;obtain⟨r,f,g⟩:=we.mp (this.mp (we.mpr ⟨p,d,rfl⟩));rw[<- zf7 g];exact f
  .intro d;obtain⟨r,f,g⟩:=we.mp (this.mpr (we.mpr ⟨p,d,rfl⟩));rw[<- zf7 g];exact f
def Vs (d:D)(l:List (Int × Int)):Prop:=d = .tup (l.map vec)\/d = .lst (l.map vec)
def zaG (l:List (Int × Int)):l.map vec=(l.map pk).map tupD:=by rw[wP];rfl
def Vs.set {d:D}{l:List (Int × Int)}{P:List (List Int)->Prop}(h:Vs d l)(a:l.length<=63)(q:P (l.map pk)):zaY d P:=by
 rcases h with rfl | rfl
 .exact⟨l.map pk,zaG l,by simpa using a,q⟩
 .exact⟨l.map pk,zaG l,by simpa using a,q⟩
def z0D (g:Vs d l)(f:Wb 20000000 l)(m:l.length<=63)(q:∀h,Hd l h->Q (vecs h)):z09.run [d] Q X:=by
 walk_at "fn";refine g.set m ⟨λk i =>?_,λu h =>?_⟩
 .obtain⟨p,_,rfl⟩:=we.mp i;unfold pk;simp
 obtain⟨o,rfl,e,b⟩:=zda rfl h;ac_nf;rw[<- zaG];have nd  := e.imp λz=>z.ne;have r  := z1V nd λx j=>(b x).mp j;exact z6o (λp hp=>f p ((b p).mp hp)) (by lia) (q _ ⟨o,e,b,rfl⟩)
def dot (p r:Int × Int):Int:=p.1*r.1+p.2*r.2
def za2 (i:Vb 30000000 b)(o:Wb 30000000 l)(r:l≠[])(w:l.length<sizeLine)(q:∀m,m∈l.map (dot · b)->(∀p∈l,dot p b<=m)->Q (.int m)):z28.run [vecs l,vec b] Q X:=by
 walk_at "fn";refine⟨by simp_all,?_⟩;refine z13 (g:=λp =>.int (dot p b)) (λp hp K f =>?_) ?_
 .ac_nf;exact z3o (o p hp) i f
 have e:(l.map λp=>D.int (dot p b))=(l.map (dot · b)).map D.int:=by rw[wP];rfl
 rw[e];refine zjR (by simpa using r) λk j u=>q k j λp hp=>u _ (we.mpr ⟨p,hp,rfl⟩)
end Pu
namespace Geo
def z04.cyc {S:P->Prop}{h:List P}(x:z04 S h)(l:2<=h.length){j:Nat}(g:j<h.length){a b:P}(e:h[(j+h.length - 1) % h.length]? = some a)(f:h[j]? = some b):Edge S a b:=by
 obtain⟨m,t,rfl,n,o,p,d⟩:=x.ex
 rcases d with ⟨rfl,_⟩ | ⟨_,d⟩
 .simp at l
 cases j with
 | zero=>
  rw[show (0+(m::t).length - 1) % (m::t).length=(m::t).length - 1 by simp_all] at e;simp at f;subst f;refine z6v (i:=(m::t).length - 1) d ?_ ?_
  .grind
  .simp
 | succ j=>
  rw[show (j+1+(m::t).length - 1) % (m::t).length=j by rw[show j+1+(m::t).length - 1=j+(m::t).length by lia,uv];exact wV (by lia)] at e;refine z6v (i:=j) d ?_ ?_
  .rw[wN (by lia)];exact e
  .rw[wN g];exact f
def In (h:List P)(p:P):Prop:=match h with
 | []=>False
 | [m]=>p=m
 | [a,b]=>Qa a b p=0/\0<=dot a b p/\0<=dot b a p
 | h=>∀j a b,j<h.length->h[(j+h.length - 1) % h.length]? = some a->h[j]? = some b->0<=Qa a b p
def In.three (d:3<=h.length):In h p↔∀j a b,j<h.length->h[(j+h.length - 1) % h.length]? = some a->h[j]? = some b->0<=Qa a b p:=by
 match h,d with
 | a::b::c::r,_=>rfl
def z04.in {S:P->Prop}{h:List P}(x:z04 S h){p:P}(d:S p):In h p:=by
 match h,x with
 | [],x=>obtain⟨m,t,e,_⟩:=x.ex;cases e
 | [m],x=>
  obtain⟨w,t,e,q,s,u,f⟩:=x.ex
  cases e
  rcases f with ⟨_,f⟩ | ⟨f,_⟩
  .exact f p d
  simp_all
 | [a,b],x=>
  have g:Edge S a b:=x.cyc (j:=1) (by simp) (by simp) (by simp) rfl;have i:Edge S b a:=x.cyc (j:=0) (by simp) (by simp) (by simp) rfl;have A:Qa b a p = -Qa a b p:=by unfold Qa;grind
  have z:Qa a b p=0:=by have:=g.left p d;have:=i.left p d;lia
  exact⟨z,g.btw p d z⟩
 | a::b::c::r,x=>exact λj y z o l n=>(x.cyc (by simp) o l n).left p d
def cy (h:List P)(i:Nat):P:=h.getD (i % h.length) (0,0)
def z0X {h:List P}{i:Nat}(a:0<h.length):h[i % h.length]? = some (cy h i):=by
 unfold cy;have:=je i a
 simp_all
def z2d (a:0<h.length):cy h i∈h:=ww (z0X a)
def z6t (a:0<n):((i+1) % n+n - 1) % n=i % n:=by
 have b:=je i a;have e:(i+1) % n=(i % n+1) % n:=by simp
 rw[e]
 rcases wW (i % n+1) n with z | z
 .rw[wV z,show i % n+1+n - 1=i % n+n by lia,uv,wV b]
 .have:i % n+1=n:=by lia
  rw[this,Nat.mod_self,Nat.zero_add,wV (by lia)];lia
def z2V (x:z04 S h)(a:2<=h.length)(i:Nat):Edge S (cy h i) (cy h (i+1)):=
 x.cyc a (je _ (by lia)) (by rw[z6t (by lia)];exact z0X (by lia)) (z0X (by lia))
def zct (x:z04 S h)(o:3<=h.length)(i:Nat):cy h i≠cy h (i+2):=λz=>by
 have f:=x.nodup;have m:=z0X (h:=h) (i:=i) (by lia);have d:=z0X (h:=h) (i:=i+2) (by lia);rw[<- z] at d;obtain⟨a,g⟩:=wq.mp m;obtain⟨b,j⟩:=wq.mp d;have e:i % h.length=(i+2) % h.length:=by
  rcases ur _ _ with y | y | y
  .exact(vN.mp f _ _ a b y (g.trans j.symm)).elim
  .exact y
  .exact(vN.mp f _ _ b a y (j.trans g.symm)).elim
 have l:(i+2) % h.length=(i % h.length+2) % h.length:=by simp
 rw[l] at e;generalize i % h.length=r at*
 rcases wW (r+2) h.length with y | y
 .rw[wV y] at e;lia
 .have n:(r+2) % h.length=r+2 - h.length:=by
   rw[Nat.mod_eq_sub_mod y];exact wV (by lia)
  lia
theorem zby:∀{l:List P},(∀i a b,l[i]? = some a->l[i+1]? = some b->R a b)->Path R l
 | [],_=>trivial
 | [_],_=>trivial
 | x::y::r,h=>⟨h 0 x y rfl rfl,zby λi a b d e=>h (i+1) a b (by simpa using d) (by simpa using e)⟩
def ze5 (a:0<=Qa y m p)(b:0<=Qa m z p)(d:0<Qa y m z)(e:Lx m y)(f:Lx m z)(g:Lx p m):False:=by
 unfold Lx at e f g;have q:=zfK (u1:=y.1 - m.1) (u2:=y.2 - m.2) (w1:=m.1 - p.1) (w2:=m.2 - p.2) (z1:=z.1 - m.1) (z2:=z.2 - m.2) (by lia) (by lia) (by lia) (by unfold Qa at a;grind) (by unfold Qa at b;grind);unfold Qa at d
 grind
def z04.fill (x:z04 S h)(l:∀p∈h,T p)(g:∀p,T p->In h p):z04 T h:=by
 have sub:=x.sub
 match h,x,l,g,sub with
 | [],x,_,_,_=>obtain⟨m,t,e,_⟩:=x.ex;cases e
 | [m],x,l,g,_=>exact⟨m,[],rfl,l m (by simp),λp d=>by rw[g p d];exact Lx.irr,by simp,.inl ⟨rfl,g⟩⟩
 | [a,b],x,l,g,sub=>
  obtain⟨m,t,e,h1,w,I,h4⟩:=x.ex
  cases e
  have r:Edge S a b:=x.cyc (j:=1) (by simp) (by simp) (by simp) rfl;have a3:Lx a b:=by
   rcases Lx.tri a b with z | z | z
   .exact z
   .exact absurd z r.ne
   .exact absurd z (w b r.sb)
  refine⟨a,[b],rfl,l a (by simp),λp d z =>?_,I,.inr ⟨by simp,⟨⟨l a (by simp),l b (by simp),r.ne,λp d =>?_,λp d _=>(g p d).2⟩,⟨l b (by simp),l a (by simp),vQ r.ne,λp d =>?_,λp d _=>⟨(g p d).2.2,(g p d).2.1⟩⟩,trivial⟩⟩⟩
  .obtain⟨y1,y2,y3⟩:=g p d;obtain⟨L,M⟩:=a;obtain⟨U,W⟩:=b;obtain⟨C,E⟩:=p;simp only[Qa,dot,Lx] at*;generalize a6:U - L=u1 at*;generalize a7:W - M=u2 at*;generalize a4:C - L=q1 at*;generalize a5:E - M=F at*;have hz:q1<0\/q1=0/\F<0:=by lia
   rcases(show 0<u1\/u1=0/\0<u2 by lia) with u | ⟨u,k2⟩
   .have r:(q1*u1+F*u2)*u1=q1*(u1*u1+u2*u2):=by grind
    have n1:=z0g u1;have n2:=z0g u2;have n3:0<u1*u1:=w5 u u;have Y:0<=q1*(u1*u1+u2*u2):=by rw[<- r];exact wS y2 (wC u)
    have e3:0<=q1:=z3T (show 0<u1*u1+u2*u2 by lia) Y;have Z:q1=0:=by lia
    subst Z;have G:u1*F=0:=by lia
    rcases wM.mp G with z | z <;> lia
   .subst u;have G:u2*q1=0:=by lia
    rcases wM.mp G with z | z
    .lia
    .subst z;have:0<=F*u2:=by lia
     have:=z3T k2 this;lia
  .rw[(g p d).1];exact uQ _
  .have z0:Qa b a p = -Qa a b p:=by unfold Qa;grind
   rw[z0,(g p d).1];exact uQ _
 | a0::R::X::r0,x,l,g,sub=>
  generalize hh:a0::R::X::r0=h at*;have A:3<=h.length:=by rw[<- hh];simp
  have n:∀p,T p->∀i,0<=Qa (cy h i) (cy h (i+1)) p:=λp d i=>by
   have q:=(In.three A).mp (g p d) ((i+1) % h.length) (cy h i) (cy h (i+1)) (je _ (by lia));exact q (by rw[z6t (by lia)];exact z0X (by lia)) (z0X (by lia))
  have Qb:=z2V x (by lia);have J:=zct x A;have K:∀i,0<Qa (cy h i) (cy h (i+1)) (cy h (i+2)):=λi=>z4e (Qb i) (Qb (i+1)) (J i);have N:∀i,T (cy h i):=λi=>l _ (z2d (by lia));have H:∀i,Edge T (cy h (i+1)) (cy h (i+2)):=λi=>⟨N _,N _,(Qb (i+1)).ne,λp d=>n p d (i+1),λp d z=>⟨z9n (K i) (n p d i) z,zbL (K (i+1)) (n p d (i+2)) z⟩⟩
  have f:∀i,cy h (i+h.length)=cy h i:=λi=>by unfold cy;rw[uv]
  obtain⟨m,t,e,h1,w,I,h4⟩:=x.ex;have s:cy h 0=m:=by unfold cy;rw[e];simp
  refine⟨m,t,e,l m (by rw[e];simp),λp d z =>?_,I,.inr ⟨λy=>by rw[e,y] at A;simp at A,zby λi a b ea eb =>?_⟩⟩
  .have l1:Lx m (cy h 1):=by
    rcases Lx.tri m (cy h 1) with y | y | y
    .exact y
    .exact absurd (s.trans y) (Qb 0).ne
    .exact absurd y (w _ (Qb 0).sb)
   have O:Edge S (cy h (h.length - 1)) m:=by
    have:=Qb (h.length - 1);rw[show h.length - 1+1=0+h.length by lia,f,s] at this;exact this
   have l2:Lx m (cy h (h.length - 1)):=by
    rcases Lx.tri m (cy h (h.length - 1)) with y | y | y
    .exact y
    .exact absurd y.symm O.ne
    .exact absurd y (w _ O.sa)
   have C:=n p d (h.length - 1);rw[show h.length - 1+1=0+h.length by lia,f,s] at C;have E:=n p d 0;rw[s] at E;have Q:=K (h.length - 1);rw[show h.length - 1+1=0+h.length by lia,show h.length - 1+2=1+h.length by lia,f,f,s] at Q;exact ze5 C E Q l2 l1 z
  .have hn:h.length=t.length+1:=by rw[e];simp
   have get:∀i z,(m::t++[m])[i]? = some z->i<=h.length/\z=cy h i:=λi z o=>by
    rcases ur i h.length with y | y | y
    .rw[<- e,wN y] at o;refine⟨by lia,?_⟩;have:=z0X (h:=h) (i:=i) (by lia);rw[wV y,o] at this;exact(wY this)
    .rw[<- e,wQ (by lia),y] at o;simp at o;refine⟨by lia,?_⟩;rw[show i=0+h.length by lia,f,s];exact o.symm
    .rw[<- e,uF (by simp;lia)] at o
     cases o
   obtain⟨i1,rfl⟩:=get i a ea;obtain⟨i2,rfl⟩:=get (i+1) b eb;have:=H (i+h.length - 1);rw[show i+h.length - 1+1=i+h.length by lia,show i+h.length - 1+2=i+1+h.length by lia,f,f] at this;exact this
end Geo
namespace Pu
open PySem L2
def z9K {a:Type}{l:List a}{k:Nat}(h:k<l.length):atI l k=l[k]? := by
 unfold atI ixN
 simp_all
def zcH {a:Type}{x:a}{r:List a}:atI (x::r) 0=some x:=z9K (by simp)
def zhz {d:Type}{l:List d}{k:Nat}(h:k<l.length):atI l (k - 1)=l[(k+l.length - 1) % l.length]? := by
 unfold atI ixN
 by_cases a:0<=(k:Int) - 1
 .rw[if_pos a,if_pos (by lia)];show l[((k:Int) - 1).toNat]? = _;rw[show (k+l.length - 1) % l.length=k - 1 by rw[show k+l.length - 1=(k - 1)+l.length by lia,uv];exact wV (by lia)]
  congr 1
  lia
 .rw[if_neg a,if_pos (by lia)];have b:k=0:=by lia
  subst b;show l[(((0):Int) - 1+l.length).toNat]? = _;rw[show (0+l.length - 1) % l.length=l.length - 1 by rw[Nat.zero_add];exact wV (by lia)]
  congr 1
  lia
abbrev P:=Geo.P
def stp (a b:P):P:=(b.1 - a.1,b.2 - a.2)
def rt (s:P):P:=(s.2,-s.1)
noncomputable def z0n (h:List P)(j:Nat):List (P × P):=(rt (stp (Geo.cy h (j+h.length - 1)) (Geo.cy h j)),Geo.cy h j)::if h.length=2 then [(stp (Geo.cy h (j+h.length - 1)) (Geo.cy h j),Geo.cy h j)] else []
def ways:List P:=[(1,0),(0,1),(-1,0),(0,-1)]
noncomputable def z06 (h:List P):List (P × P):=if h.length=1 then ways.map λb=>(b,Geo.cy h 0) else (List.range h.length).flatMap (z0n h)
abbrev zgJ (x:P × P):D :=.tup [vec x.1,vec x.2]
def z5W (q:Q (vec (rt s))):z27.run [vec s] Q X:=by
 walk_at "fn";ac_nf;exact q
def z8P {h:List P}{k:Nat}(a:k<h.length):atI h k=some (Geo.cy h k):=by
 rw[z9K a, <- z0X (by lia),wV a]
def zkx {h:List P}{k:Nat}(a:k<h.length):atI h (k - 1)=some (Geo.cy h (k+h.length - 1)):=by rw[zhz a,z0X (by lia)]
def z4O (W:h.length<=100000)(N:h≠[])(q:Q (.lst ((z06 h).map zgJ))):z1w.run [vecs h,.fn 2] Q X:=by
 have C:0<h.length:=w6.mpr N;walk_at "fn";ac_nf;rw[wd];refine z0G (λL =>?_) (λL =>?_)
 .ac_nf;show onL (z03 (vecs ways)) _;ac_nf;refine⟨by rw[wd];exact szl' (by decide),?_⟩;refine z13 (g:=λb=>zgJ (b,Geo.cy h 0)) (λb R K J =>?_) ?_
  .ac_nf;refine z19 (z0P (z8P (k:=0) C)) ?_;ac_nf;exact J
  .rw[z06,if_pos (by lia),wP] at q;exact q
 refine zeR ?_;refine z4k (zd4 ?_);ac_nf;refine z1A (λx O=>by cases O) ?_;ac_rfl;ac_nf;rw[wd];refine z9c (by lia) (by lia) ?_;have w:(h.length:Int).toNat=h.length:=by simp
 rw[w];have m:∀i:List Nat,(i.flatMap (z0n h)).length<=2*i.length:=by
  intro i
  induction i with
  | nil=>simp
  | cons k i Y=>
   rw[List.flatMap_cons,wD];have:(z0n h k).length<=2:=by unfold z0n;split <;> simp
   simp only[wU];lia
 refine z0J (f:=λ(j:Nat)=>D.int j) (λi p=>Ee3 λ(x y z)=>(∀d,noL d=true->noD d=true->True)/\p=[.s (vecs h),.s (.fn 2),.o (.lst ((i.flatMap (z0n h)).map zgJ)),x,y,z]) ⟨_,_,_,λ_ _ _=>trivial,rfl⟩ ?_ ?_
 .rintro i k r p e ⟨x,y,z,_,rfl⟩;have u:k<h.length:=by
   have:k∈List.range h.length:=by rw[e];simp
   simpa using this
  have U:i.length<h.length:=by
   have:=congrArg List.length e;simp at this;lia
  have M:=m i;show Sm.run _ _ _ _ _;ac_rfl;ac_nf;refine z19 (z0P (z8P u)) ?_;refine z0O (Safe.of_noL rfl rfl _) ?_;ac_rfl;ac_nf;refine z8L rfl ?_;ac_nf;refine z19 (z0P (zkx u)) ?_;ac_nf;refine z1U ?_;refine z0O (Safe.of_noL rfl rfl _) ?_;ac_rfl;refine z4k (z4l (l:=[]) (z0w rfl ?_));ac_nf;refine z5W ?_;ac_nf;refine⟨by rw[wd];exact szl' (by lia),Safe.of_noL rfl rfl _,?_⟩;ac_rfl;ac_nf;rw[wd];refine z0G (λI =>?_) (λI =>?_)
  .refine z4l (l:=[]) (z0w rfl ?_);ac_nf;refine⟨by rw[wD,wd];exact szl' (by simp only[wU,vZ];lia),Safe.of_noL rfl rfl _,?_⟩;ac_rfl;refine⟨.s (.int k),.s (vec (Geo.cy h k)),.s (vec (stp (Geo.cy h (k+h.length - 1)) (Geo.cy h k))),λ_ _ _=>trivial,?_⟩;rw[List.flatMap_append,wA,List.flatMap_cons,List.flatMap_nil,vk,z0n,if_pos (by lia)];simp[stp]
  .ac_nf;refine⟨.s (.int k),.s (vec (Geo.cy h k)),.s (vec (stp (Geo.cy h (k+h.length - 1)) (Geo.cy h k))),λ_ _ _=>trivial,?_⟩;rw[List.flatMap_append,wA,List.flatMap_cons,List.flatMap_nil,vk,z0n,if_neg (by lia)];simp[stp]
 rintro p ⟨x,y,z,_,rfl⟩;ac_nf;rw[z06,if_neg (by lia)] at q;exact q
def z3R:dot p (rt (stp a b))<=dot b (rt (stp a b))↔0<=Qa a b p:=by
 have e:dot b (rt (stp a b)) - dot p (rt (stp a b))=Qa a b p:=by
  unfold dot rt stp Qa
  grind
 lia
def z5d:dot p (stp a b)<=dot b (stp a b)↔0<=Geo.dot b a p:=by
 have e:dot b (stp a b) - dot p (stp a b)=Geo.dot b a p:=by
  unfold dot stp Geo.dot
  grind
 lia
def z2B (a:h.length≠1)(b:s∈z06 h):∃j,j<h.length/\s∈z0n h j:=by
 rw[z06,if_neg a] at b
 simp_all
def z1p (b:h.length≠1)(a:j<h.length)(d:s∈z0n h j):s∈z06 h:=by
 rw[z06,if_neg b,List.mem_flatMap];exact⟨j,v4.mpr a,d⟩
def z6m (A:h≠[])(d:∀s∈z06 h,dot p s.1<=dot s.2 s.1):In h p:=by
 match h,A,d with
 | [m],_,d=>
  have g:=d ((1,0),m) (by simp[z06,ways,Geo.cy]);have l:=d ((0,1),m) (by simp[z06,ways,Geo.cy]);have e:=d ((-1,0),m) (by simp[z06,ways,Geo.cy]);have f:=d ((0,-1),m) (by simp[z06,ways,Geo.cy]);unfold dot at g l e f;dsimp only at g l e f;show p=m;exact uc (by lia) (by lia)
 | [a,b],_,d=>
  have t:∀s,s∈z0n [a,b] 0->s∈z06 [a,b]:=λs z=>z1p (by simp) (by simp) z;have u:∀s,s∈z0n [a,b] 1->s∈z06 [a,b]:=λs z=>z1p (by simp) (by simp) z;have g:=z3R.mp (d _ (t (rt (stp b a),a) (by simp[z0n,Geo.cy])));have l:=z3R.mp (d _ (u (rt (stp a b),b) (by simp[z0n,Geo.cy])));have e:=z5d.mp (d _ (t (stp b a,a) (by simp[z0n,Geo.cy])));have f:=z5d.mp (d _ (u (stp a b,b) (by simp[z0n,Geo.cy])));have C:Qa b a p = -Qa a b p:=by unfold Qa;grind
  exact⟨by lia,e,f⟩
 | a::b::c::r,_,d=>
  refine(In.three (by simp)).mpr λj x y q ex w =>?_;have n:Geo.cy (a::b::c::r) j=y:=by
   have:=z0X (h:=a::b::c::r) (i:=j) (by simp);rw[wV q,w] at this;exact(wY this).symm
  have o:Geo.cy (a::b::c::r) (j+(a::b::c::r).length - 1)=x:=by
   have:=z0X (h:=a::b::c::r) (i:=j+(a::b::c::r).length - 1) (by simp);rw[ex] at this;exact(wY this).symm
  have:=d (rt (stp x y),y) (z1p (j:=j) (by simp) q (by rw[z0n,n,o];exact wv));exact z3R.mp this
set_option tactic.hygienic true in
def z3S (x:z04 S h)(a:s∈z06 h):s.2∈h/\∀p,S p->dot p s.1<=dot s.2 s.1:=by
 by_cases i:h.length=1
 .obtain⟨m,rfl⟩:∃m,h=[m]:=by
   match h,i with
   | [m],_=>exact⟨m,rfl⟩
  rw[z06,if_pos i] at a;obtain⟨b,o,rfl⟩:=we.mp a;refine⟨by simp[Geo.cy],λp d =>?_⟩;have:p=m:=x.in d;subst this;exact uQ _
 .obtain⟨j,q,a⟩:=z2B i a;have l:2<=h.length:=by lia
  have e:=z2V x l (j+h.length - 1);rw[show j+h.length - 1+1=j+h.length by lia,show Geo.cy h (j+h.length)=Geo.cy h j by unfold Geo.cy;rw[uv]] at e;unfold z0n at a
  rcases wm.mp a with rfl | a
  .exact⟨z2d (by lia),λp d=>z3R.mpr (e.left p d)⟩
  .split at a
   .rename_i g
    rw[wg.mp a];refine⟨z2d (by lia),λp d=>z5d.mpr ?_⟩;have f:=z2V x l j;have n:Geo.cy h (j+h.length - 1)=Geo.cy h (j+1):=by unfold Geo.cy;rw[g];congr 1
    rw[n] at e ⊢;have u:Qa (Geo.cy h j) (Geo.cy h (j+1)) p = -Qa (Geo.cy h (j+1)) (Geo.cy h j) p:=by unfold Qa;grind
    have r:=e.left p d;have t:=f.left p d;exact(f.btw p d (by lia)).1
   .cases a
end Pu
namespace Geo
def sc (p b:P):Int:=p.1*b.1+p.2*b.2
def zat (b:P):∀{h:List P},h≠[]->∃i,i<h.length/\∀p∈h,sc p b<=sc (cy h i) b:=by
 have d:∀{h:List P},h≠[]->∃c∈h,∀p∈h,sc p b<=sc c b:=by
  intro h
  induction h with
  | nil=>intro z;exact absurd rfl z
  | cons x r m=>
   intro _
   cases r with
   | nil=>simp_all
   | cons y r=>
    obtain⟨c,g,f⟩:=m (by simp)
    by_cases z:sc x b<=sc c b
    .refine⟨c,wn _ g,λp a =>?_⟩
     rcases wm.mp a with rfl | a
     .exact z
     .exact f p a
    .refine⟨x,by simp,λp a =>?_⟩
     rcases wm.mp a with rfl | a
     .exact uQ _
     .have:=f p a;lia
 intro h l;obtain⟨c,g,f⟩:=d l;obtain⟨i,j,e⟩:=vi.mp g;refine⟨i,j,λp a =>?_⟩;have:cy h i=c:=by
  have:=z0X (h:=h) (i:=i) (by lia);rw[wV j,wo j,e] at this
  simp_all
 rw[this];exact f p a
def z04.far (x:z04 S h)(l:In h p)(b:P):∃c∈h,sc p b<=sc c b:=by
 match h,x,l with
 | [],x,_=>obtain⟨m,t,e,_⟩:=x.ex;cases e
 | [m],x,l=>exact⟨m,by simp,by rw[show p=m from l];exact uQ _⟩
 | [y,z],x,l=>
  obtain⟨H,O,I⟩:=l;have E:Edge S y z:=x.cyc (j:=1) (by simp) (by simp) (by simp) rfl;have J:=E.ne;obtain⟨y1,y2⟩:=y;obtain⟨r,s⟩:=z;obtain⟨u,w⟩:=p;obtain⟨d,f⟩:=b;simp only[Qa,dot] at H O I;generalize a3:r - y1=u1 at*;generalize a4:s - y2=u2 at*;generalize a1:u - y1=n at*;generalize a2:w - y2=o at*;have g:0<u1*u1+u2*u2:=by
   have:=z0g u1;have:=z0g u2
   rcases uJ (show 0<=u1*u1+u2*u2 by lia) with k | k
   .exact k
   .obtain⟨U,W⟩:=z3E k.symm;exact(J (uc (by show y1=r;lia) (by show y2=s;lia))).elim
  by_cases hb:0<=u1*d+u2*f
  .refine⟨(r,s),by simp,?_⟩;simp only[sc];have U:y1 - r = -u1:=by lia
   have W:y2 - s = -u2:=by lia
   have k3:u - r=n - u1:=by lia
   have k4:w - s=o - u2:=by lia
   rw[U,W,k3,k4] at I;have a:(r*d+s*f - (u*d+w*f))*(u1*u1+u2*u2)=((n - u1) * -u1+(o - u2) * -u2)*(u1*d+u2*f)+(u1*o - u2*n)*(u2*d - u1*f):=by
    have E:r=u1+y1:=by lia
    have e2:s=u2+y2:=by lia
    have F:u=n+y1:=by lia
    have G:w=o+y2:=by lia
    subst E e2 F G
    grind
   rw[H,uE,uH] at a;have:=z3T g (by rw[a];exact wS I hb);lia
  .refine⟨(y1,y2),by simp,?_⟩;simp only[sc];have a:(y1*d+y2*f - (u*d+w*f))*(u1*u1+u2*u2)=(n*u1+o*u2) * -(u1*d+u2*f) - (u1*o - u2*n)*(u1*f - u2*d):=by
    have F:u=n+y1:=by lia
    have G:w=o+y2:=by lia
    subst F G
    grind
   rw[H,uE,Int.sub_zero] at a;have:=z3T g (by rw[a];exact wS O (by lia));lia
 | a0::Z::c0::r0,x,l=>
  generalize Q:a0::Z::c0::r0=h at*;have R:3<=h.length:=by rw[<- Q];simp
  have A:∀i,0<=Qa (cy h i) (cy h (i+1)) p:=λi=>by
   have q:=(In.three R).mp l ((i+1) % h.length) (cy h i) (cy h (i+1)) (je _ (by lia));exact q (by rw[z6t (by lia)];exact z0X (by lia)) (z0X (by lia))
  have Qb:=z2V x (by lia);have L:=zct x R;have tn:∀i,0<Qa (cy h i) (cy h (i+1)) (cy h (i+2)):=λi=>z4e (Qb i) (Qb (i+1)) (L i);have C:∀i,cy h (i+h.length)=cy h i:=λi=>by unfold cy;rw[uv]
  obtain⟨i,hi,T⟩:=zat b (h:=h) (by rw[<- Q];simp);refine⟨cy h i,z2d (by lia),?_⟩;have m1:=T (cy h (i+h.length - 1)) (z2d (by lia));have m2:=T (cy h (i+1)) (z2d (by lia));have M:=tn (i+h.length - 1);have X:=A (i+h.length - 1);have Y:=A i;rw[show i+h.length - 1+1=i+h.length by lia,C] at M X;rw[show i+h.length - 1+2=(i+1)+h.length by lia,C] at M;generalize cy h (i+h.length - 1)=y at*;generalize cy h i=c at*;generalize cy h (i+1)=z at*;unfold Qa at M X Y;unfold sc at m1 m2 ⊢;have N:0<(z.1 - c.1)*(y.2 - c.2) - (z.2 - c.2)*(y.1 - c.1):=by grind
  have K:0<=(p.1 - c.1)*(y.2 - c.2) - (p.2 - c.2)*(y.1 - c.1):=by grind
  have a:(c.1*b.1+c.2*b.2 - (p.1*b.1+p.2*b.2))*((z.1 - c.1)*(y.2 - c.2) - (z.2 - c.2)*(y.1 - c.1))=((p.1 - c.1)*(y.2 - c.2) - (p.2 - c.2)*(y.1 - c.1))*(c.1*b.1+c.2*b.2 - (z.1*b.1+z.2*b.2))+((z.1 - c.1)*(p.2 - c.2) - (z.2 - c.2)*(p.1 - c.1))*(c.1*b.1+c.2*b.2 - (y.1*b.1+y.2*b.2)):=by grind
  have n1:=wS K (show 0<=c.1*b.1+c.2*b.2 - (z.1*b.1+z.2*b.2) by lia);have n2:=wS Y (show 0<=c.1*b.1+c.2*b.2 - (y.1*b.1+y.2*b.2) by lia);have:=z3T N (by rw[a];lia);lia
def sca (c:Int)(v:P):P:=(v.1*c,v.2*c)
def zb0 {c:Int}(f:0<c)(h:sca c a=sca c b):a=b:=by
 have d:=congrArg Prod.fst h;have e:=congrArg Prod.snd h;exact uc (w9 (by lia) d) (w9 (by lia) e)
def zkb {c:Int}(f:0<c):Lx (sca c a) (sca c b)->Lx a b:=by
 intro h
 rcases h with h | ⟨d,e⟩
 .exact .inl (Int.lt_of_mul_lt_mul_right h (by lia))
 .exact .inr ⟨w9 (by lia) d,Int.lt_of_mul_lt_mul_right e (by lia)⟩
def zfz (c:Int)(a b p:P):Qa (sca c a) (sca c b) (sca c p)=c*c*Qa a b p:=by
 simp[Qa,sca]
 grind
def zcl (c:Int)(a b p:P):dot (sca c a) (sca c b) (sca c p)=c*c*dot a b p:=by
 simp[dot,sca]
 grind
theorem Path.mapTo (d:∀a b,R a b->R' (f a) (f b)):∀{l:List P},Path R l->Path R' (l.map f)
 | [],_=>trivial
 | [_],_=>trivial
 | a::b::r,h=>⟨d a b h.1,Path.mapTo d h.2⟩
theorem z04.sca {l h:List P}{c:Int}(j:0<c)(x:z04 (· ∈ l) h):z04 (· ∈ l.map (sca c)) (h.map (sca c)):=by
 have u:0<c*c:=w5 j j;obtain⟨m,t,rfl,o,r,s,i⟩:=x.ex;refine⟨Geo.sca c m,t.map (Geo.sca c),by rw[wI],we.mpr ⟨m,o,rfl⟩,λp g z =>?_,λz =>?_,?_⟩
 .obtain⟨q,d,rfl⟩:=we.mp g;exact r q d (zkb j z)
 .obtain⟨q,d,e⟩:=we.mp z;exact s (zb0 j e ▸ d)
 .rcases i with ⟨rfl,i⟩ | ⟨n,i⟩
  .refine .inl ⟨rfl,λp g =>?_⟩;obtain⟨q,d,rfl⟩:=we.mp g;rw[i q d]
  .refine .inr ⟨by simpa using n,?_⟩;have:=i.mapTo (R':=Edge (· ∈ l.map (Geo.sca c))) (f:=Geo.sca c) λa b e =>?_
   .rw[wA,wI] at this;exact this
   refine⟨we.mpr ⟨a,e.sa,rfl⟩,we.mpr ⟨b,e.sb,rfl⟩,λz=>e.ne (zb0 j z),λp g =>?_,λp g z =>?_⟩
   .obtain⟨q,d,rfl⟩:=we.mp g;rw[zfz];exact wS (by lia) (e.left q d)
   .obtain⟨q,d,rfl⟩:=we.mp g;rw[zfz] at z;have w:Qa a b q=0:=(wM.mp z).resolve_left (by lia);have:=e.btw q d w;rw[zcl,zcl];exact⟨wS (by lia) this.1,wS (by lia) this.2⟩
theorem z4v:∀{l:List Int},(∀x∈l,0<=x)->0<=l.sum/\∀x∈l,x<=l.sum
 | [],_=>⟨by simp,λx a=>by cases a⟩
 | y::l,h=>by
  have d:=z4v (l:=l) λx a=>h x (by simp[a]);have b:=h y (by simp);rw[vC]
  grind
end Geo
namespace Pu
open PySem L2
def Far (m:Int)(p:Int × Int):Prop:=(-m<=p.1/\p.1<=m) /\ -m<=p.2/\p.2<=m
def Far.vb {m:Int}{n:Nat}{p:Int × Int}(h:Far m p)(f:m<2 ^ n):Vb n p:=by
 obtain⟨⟨a,b⟩,d,e⟩:=h;refine⟨z0b ?_,z0b ?_⟩ <;> lia
def zbb {s t:Sm}{b:Pu.Env}{N:Pu.Env->Prop}{Q:DK}{X:XP}(W:Pu.Env->Prop)(h:s.run b W Q X)(k:∀a,W a->t.run a N Q X):(Sm.seq s t).run b N Q X:=s.mono b W _ Q Q X X k (λ_ z=>z) (λ_ z=>z) h
def zfy {a:Type}{f:a->D}{l:List a}{k:Int}(h:0<=k):cutD (l.map f) (some k) none=(l.drop k.toNat).map f:=by
 have b:HT.sIx l.length 0 (some k)=min k.toNat l.length:=by
  show (if k<0 then (k+l.length).toNat else min _ _)=_;rw[if_neg (by lia)]
 rw[z2W,b];show ((l.drop _).take (l.length - min _ _)).map f=_;rw[uk (by simp)]
 simp_all
open Mth
structure Pl (x y b u v t:Int):Prop where
 pos:0<t
 cop:Int.gcd ((Int.gcd u v):Int) t=1
 cx:u*b=x*t
 cy:v*b=y*t
def Pl.of {x y b u v t:Int}(h:Plc x y b u v t):Pl x y b u v t:=⟨by have:=h.pos;lia,h.cop,h.cx,h.cy⟩
def z6U {u v t b:Int}(e:Int.gcd ((Int.gcd u v):Int) t=1)(h:t ∣ u*b)(i:t ∣ v*b):t ∣ b:=by
 have f:t.natAbs ∣ u.natAbs*b.natAbs:=by rw[<- vL];simp_all
 have g:t.natAbs ∣ v.natAbs*b.natAbs:=by rw[<- vL];simp_all
 have d:=j4 f g;rw[Nat.gcd_mul_right] at d;have a:Nat.Coprime t.natAbs (Nat.gcd u.natAbs v.natAbs):=by
  rw[z2R,jh] at e;exact e
 exact ua.mp (a.dvd_of_dvd_mul_left d)
def Pl.dvd {x y b u v t:Int}(h:Pl x y b u v t):t ∣ b:=z6U h.cop ⟨x,by rw[h.cx,vA]⟩ ⟨y,by rw[h.cy,vA]⟩
def Pl.eq {x y b u v t a i t':Int}(q:0<b)(h:Pl x y b u v t)(k:Pl x y b a i t'):u=a/\v=i/\t=t':=by
 have g:b≠0:=by lia
 have j:∀{u a x:Int},u*b=x*t->a*b=x*t'->u*t'=a*t:=λ{u a x} o p=>by
  apply w9 g
  calc u*t'*b=(u*b)*t':=by grind
   _=(a*b)*t:=by rw[o,p];grind
   _=a*t*b:=by grind
 have d:=j h.cx k.cx;have f:=j h.cy k.cy;have m:t ∣ t':=z6U h.cop ⟨a,by rw[d,vA]⟩ ⟨i,by rw[f,vA]⟩;have n:t' ∣ t:=z6U k.cop ⟨u,by rw[<- d,vA]⟩ ⟨v,by rw[<- f,vA]⟩;have e:t=t':=Int.dvd_antisymm (by have:=h.pos;lia) (by have:=k.pos;lia) m n;subst e;have l:t≠0:=by have:=h.pos;lia
 exact⟨w9 l d,w9 l f,rfl⟩
def Pl.bt {x y b u v t:Int}{n m:Nat}(i:0<b)(h:Pl x y b u v t)(f:Bt n b)(g:Bt m x)(d:Bt m y):Bt n t/\Bt m u/\Bt m v:=by
 obtain⟨k,a⟩:=h.dvd;have j:=h.pos;have le:∀{u x:Int},u*b=x*t->u.natAbs<=x.natAbs:=λ{u x} e=>by
  have:u*k=x:=by
   apply w9 (show t≠0 by lia);rw[<- e,a]
   grind
  rw[<- this,vL];exact Nat.le_mul_of_pos_right _ (by lia)
 refine⟨f.of_abs ?_,g.of_abs (le h.cx),d.of_abs (le h.cy)⟩;rw[a,vL];exact Nat.le_mul_of_pos_right _ (by lia)
def zcI (a:Int):(if a<0 then -a else a)=a.natAbs:=by split <;> lia
def z3p (q:Q (.int ((Int.gcd a b):Int))):z0e.run [.int a,.int b] Q X:=by
 walk_at "fn";ac_nf;rw[zcI,zcI];refine z51 (λf=>Ee3 λ(g s:Nat) x=>Nat.gcd g s=Int.gcd a b/\f=[.s (.int a),.s (.int b),.s (.int g),.s (.int s),x]) (λf=>(nI f 3).toNat) ⟨a.natAbs,b.natAbs,_,rfl,rfl⟩ ?_;rintro f ⟨g,s,x,e,rfl⟩;ac_nf;refine z9R (z0G (λz =>?_) (λz =>?_))
 .ac_nf;have:s=0:=by lia
  subst this;rw[Nat.gcd_zero_right] at e;rw[e];exact q
 .ac_nf;have i:g % s=((g % s:Nat):Int):=by simp
  refine⟨⟨s,g % s,_,by rw[<- e,jh g s,Nat.gcd_rec s g,jh],by rw[i]⟩,?_⟩;show (g % (s:Int)).toNat<(s:Int).toNat
  rw[i];have:=je g (show 0<s by lia);lia
def z5F (e:0<b)(f:Bt 8000 b)(q:∀u v t,Pl x y b u v t->Q (.tup [.int u,.int v,.int t])):z1S.run [.int x,.int y,.int b] Q X:=by
 have hp:=zf6 (x:=x) (y:=y) e;have i:=z9x (x:=x) (y:=y) e;have g:Bt 9000 _:=Bt.le (f.of_abs (by
  have:=ua.mpr (z4Y x y b);exact Nat.le_of_dvd (by lia) this))
 walk_at "fn";ac_nf;refine z3p ?_;ac_nf;refine z3p ?_;rw[show ((Int.gcd _ y):Int)=g3 x y b from rfl];ac_nf;exact q _ _ _ (Pl.of hp)
def gcd0 (u t:Int):Int.gcd ((Int.gcd u 0):Int) t=Int.gcd u t:=by simp[Int.gcd]
def Pl.low {t b:Int}(f:0<b):Pl t 0 b (t / (Int.gcd t b)) 0 (b / (Int.gcd t b)):=by
 obtain⟨i,a,d,h,e⟩:=z3f (t:=t) f;refine⟨by lia,by rw[gcd0];exact e,?_,by simp⟩;generalize (Int.gcd t b)=g at*;generalize t / g=u at*;generalize b / g=w at*;rw[d,a]
 grind
def z8n {a b c d:Int}(C:0<b)(I:0<d)(p:Int.gcd a b=1)(w:Int.gcd c d=1)(O:Bt 8000 a)(e:Bt 8000 b)(R:Bt 8000 c)(f:Bt 8000 d)
  (q:∀u t,Pl (a*d+c*b) 0 (b*d) u 0 t->Q (.tup [.int u,.int t])):z4y.run [.tup [.int a,.int b],.tup [.int c,.int d]] Q X:=by
 obtain⟨g,i⟩:∃g,g=((Int.gcd b d):Int):=⟨_,rfl⟩
 obtain⟨t,m⟩:∃t,t=a*(d / g)+c*(b / g):=⟨_,rfl⟩
 obtain⟨r,j⟩:∃r,r=((Int.gcd g t):Int):=⟨_,rfl⟩
 obtain⟨o,J,gl,K,pl⟩:=zbp (x:=a) (y:=0) (z:=b) (a:=c) (b:=0) (c:=d) (v:=0) (r:=r) C I (by rw[gcd0];exact p) (by rw[gcd0];exact w) i m (by simp) (by rw[j];simp);have U:Bt 9000 g:=Bt.le (e.of_abs gl);have W:Bt 9000 r:=Bt.le (e.of_abs K);have L:Bt 8000 (d / g):=f.of_abs (z14 o);have M:Bt 8000 (b / g):=e.of_abs (z14 o);have N:Bt 8000 (d / r):=f.of_abs (z14 J);walk_at "fn";ac_nf;refine z3p ?_;rw[<- i];ac_nf;rw[<- m];refine z3p ?_;rw[<- j];ac_nf;have:=Pl.of pl;simp only[Int.zero_ediv,uE,uH] at this;exact q _ _ this
abbrev Sh:=Nat × Int × Int
noncomputable abbrev shD (s:Sh):D :=.tup [.int (s.1),.tup [.int s.2.1,.int s.2.2]]
def wx (l:List P)(k:Nat):Int:=(Geo.cy l k).1
def wy (l:List P)(k:Nat):Int:=(Geo.cy l k).2
def z0I {c k m:Int}(g:0<=k)(b:k<=1000)(e:0<m)(q:∀r:Int,0<=r->r<m->Q (.int r)):z00.run [.int c,.int k,.int m] Q X:=by
 have f:Bt 700 (c % 170141183460469231731687303715884105727+(k+3)*1000000007):=(Bt.add (z0b (n:=130) (by lia)) (z0b (n:=130) (by lia))).le;walk_at "fn";ac_nf;exact q _ (j1 _ (by lia)) (jv _ e)
def Ln (d:D):Prop:=d = .non\/∃p:P,d=vec p/\Far 3 p
def zb9 {c m:Int}(u:0<=m)(r:m<=1000000000)(q:∀p,Far 1000000000 p->Q (vec p)):z0f.run [.int c,.int m] Q X:=by
 have b:0<2*m+1:=by lia
 have e:Bt 640 m:=z0b (by lia);have f:Bt 9000 (2*m+1):=Bt.le (m:=40) (z0b (by lia));walk_at "fn";ac_nf;have g:=j1 c (show 2*m+1≠0 by lia);have i:=jv c b;have j:=j1 (c / (2*m+1)) (show 2*m+1≠0 by lia);have o:=jv (c / (2*m+1)) b;exact q (c % (2*m+1) - m,c / (2*m+1) % (2*m+1) - m) ⟨⟨by lia,by lia⟩,by lia,by lia⟩
abbrev wtD (x:List P × P):D :=.tup [vecs x.1,vec x.2]
def zbJ (x:List P × P):noL (wtD x)=true:=by
 have:=z17 x.1;simpa[noLs,noL] using this
def zbK (x:List P × P):noD (wtD x)=true:=by
 have:=z18 x.1;simpa[noDs,noD] using this
def min2 (a b:Int):(if b<a then b else a)=min a b:=by split <;> lia
def zeU {k:Int}(h:0<=k):HT.sIx n d (some k)=min k.toNat n:=by
 show (if k<0 then (k+n).toNat else min _ n)=_;rw[if_neg (by lia)]
def z99 (q:∀c,(c % 2=1->ns≠[])->Q (.int c)):z05.run [.lst (ns.map .int),.int 0] Q X:=by
 walk_at "fn";refine z0G (λh =>?_) (λh =>?_)
 .ac_nf;rw[wd] at h;obtain⟨v,_,e⟩:=z4K (by decide) h;rw[z0P e];exact q v λ_ z=>by simp_all
 .exact q 0 λz=>by lia
theorem z4f {a b:Type}{f:a->D}{g:b->D}{P:a->b->Prop}{G:D->(Option D->Prop)->Prop}:∀{l:List a}{M:List D->Prop},(∀x∈l,∀K:Option D->Prop,(∀y,P x y->K (some (g y)))->G (f x) K)->(∀ys:List b,ys.length=l.length->(∀(i:Nat) h,∃y,ys[i]? = some y/\P l[i] y)->M (ys.map g))->z4h G (l.map f) M
 | [],_,_,q=>q [] rfl (λi h=>absurd h (by simp))
 | x::r,M,h,q=>h x wv _ λy j=>z4f (λz m=>h z (wn _ m)) λys e d=>q (y::ys) (by simp[e]) λi n=>by
  cases i with
  | zero=>exact⟨y,rfl,j⟩
  | succ i=>exact d i _
def most (l:List P)(b:P):Int->Prop:=λm=>m∈l.map (dot · b)/\∀p∈l,dot p b<=m
def zh0 (h:most l b m)(k:most l b n):m=n:=by
 obtain⟨p,a,rfl⟩:=we.mp h.1;obtain⟨r,d,rfl⟩:=we.mp k.1;exact Int.le_antisymm (k.2 p a) (h.2 r d)
abbrev zcZ (s:P × P):D :=.tup [vec s.1,.int (dot s.2 s.1)]
def zfS (o:h≠[])(m:Wb 10000000 h)(a:s∈z06 h):Vb 20000000 s.1/\s.2∈h:=by
 have e  := w6.mpr o
 by_cases n:h.length=1
 .rw[z06,if_pos n] at a;obtain⟨b,d,rfl⟩:=we.mp a;refine⟨?_,z2d e⟩;show Vb _ b;unfold ways at d;simp[wm,wz,vK] at d
  rcases d with rfl | rfl | rfl | rfl <;> exact⟨(bt_k (by decide +kernel)).le,(bt_k (by decide +kernel)).le⟩
 .obtain⟨j,p,a⟩:=z2B n a;have g:=m _ (z2d (i:=j+h.length - 1) e);have l:=m _ (z2d (i:=j) e);have f:Vb 20000000 (stp _ _):=⟨(Bt.sub l.1 g.1).le,(Bt.sub l.2 g.2).le⟩
  rcases wm.mp a with rfl | a
  .exact⟨⟨f.2,f.1.neg⟩,z2d e⟩
  .split at a
   .rw[wg.mp a];exact⟨f,z2d e⟩
   .cases a
def zaW (x:z04 S h)(d:s∈z06 h):s.1≠(0,0):=by
 by_cases f:h.length=1
 .rw[z06,if_pos f] at d;obtain⟨b,a,rfl⟩:=we.mp d;show b≠(0,0);unfold ways at a;simp only[wm,wz,vK] at a
  rcases a with rfl | rfl | rfl | rfl <;> decide
 .obtain⟨j,m,d⟩:=z2B f d;have e:=z2V x (by lia) (j+h.length - 1);rw[show j+h.length - 1+1=j+h.length by lia,show Geo.cy h (j+h.length)=Geo.cy h j by unfold Geo.cy;rw[uv]] at e;have i:stp (Geo.cy h (j+h.length - 1)) (Geo.cy h j)≠(0,0):=λz=>by
   unfold stp at z
   injection z with g l
   exact e.ne (uc (by lia) (by lia))
  unfold z0n at d
  rcases wm.mp d with rfl | d
  .intro z;unfold rt at z
   injection z with g l
   exact i (uc (by dsimp only;lia) g)
  simp_all
def z5c (h:List P):(z06 h).length<=2*h.length+4:=by
 unfold z06
 split
 .simp[ways]
 .have:∀a:List Nat,(a.flatMap (z0n h)).length<=2*a.length:=by
   intro a
   induction a with
   | nil=>simp
   | cons k a b=>
    rw[List.flatMap_cons,wD];have:(z0n h k).length<=2:=by unfold z0n;split <;> simp
    grind
  grind
def z4j (z:Vs d l)(f:Wb 10000000 l)(C:l≠[])(J:l.length<=63)(q:∀h,Hd l h->Q (.tup ((z06 h).map zcZ))):z1I.run [d] Q X:=by
 walk_at "fn";ac_nf;refine z0D z f.le J λh o =>?_;have x:=o.is C;have i:=x.sub;have L:h.length<=l.length:=z1V x.nodup i;have b:h≠[]:=by
  obtain⟨m,t,w,_⟩:=x.ex;rw[w];simp
 ac_nf;refine z4O (by lia) b ?_;have I:=z5c h;refine z0O ⟨trivial,trivial,trivial⟩ ?_;ac_rfl;ac_nf;refine⟨by rw[wd];exact szl' (by lia),?_⟩;refine z13 (g:=zcZ) (λs j K y =>?_) ?_
 .obtain⟨r,u⟩:=zfS b (λp hp=>f p (i p hp)) j;refine⟨rfl,?_⟩;show Ex.run _ _ _ _;unfold z0l z0l z0l;ac_rfl;ac_nf;refine z3o r.le ((f _ (i _ u)).le) ?_;ac_nf;have e:s.1.1*s.2.1+s.1.2*s.2.2=dot s.2 s.1:=by unfold dot;grind
  rw[e];exact y
 ac_nf;exact q h o
def zlY (q:Q (.bl (!decide (x=y)))):pNe.run [.bl x,.bl y] Q X:=q
theorem filterMap_map {a b:Type}{f:a->Option b}{g:a->b}:∀{ks:List a},(∀k∈ks,f k=some (g k))->ks.filterMap f=ks.map g
 | [],_=>rfl
 | k::ks,h=>by rw[v9,h k (by simp),wI,filterMap_map λx d=>h x (by simp[d])]
def zhf (x:z04 T h)(d:∀p∈h,S p)(g:∀p,S p->∀b:P,∃c,T c/\dot p b<=dot c b):z04 S h:=by
 refine x.fill d λp i=>z6m (by obtain⟨m,t,e,_⟩:=x.ex;rw[e];simp) λs d =>?_;obtain⟨c,f,a⟩:=g p i s.1;exact jU a ((z3S x d).2 c f)
def z2t (q:Q (vec (p.1+r.1,p.2+r.2))):z0M.run [vec p,vec r] Q X:=by
 walk_at "fn";ac_nf;exact q
def mv (s p:P):P:=(p.1+s.1,p.2+s.2)
def z5X (b:Wb 600 l)(e:Vb 600 s)(j:l.length<=62)(q:∀h,Hd (l.map (mv s)) h->Q (vecs h)):z29.run [.tup [vecs l,vec s]] Q X:=by
 walk_at "fn";ac_nf;refine⟨by rw[wd];exact szl' (by lia),?_⟩;refine z13 (g:=λp=>vec (mv s p)) (λp hp K i =>?_) ?_
 .ac_nf;exact z2t i
 refine z0D (.inr (by rw[wP];rfl)) (λp hp =>?_) (by simp;lia) q;obtain⟨v,f,rfl⟩:=we.mp hp;exact⟨(Bt.add (b v f).1 e.1).le,(Bt.add (b v f).2 e.2).le⟩
end Pu
namespace Geo
def cx (u v:P):Int:=u.1*v.2 - u.2*v.1
def Rs (u:P):Prop:=0<u.1\/(u.1=0/\0<u.2)
instance (u:P):Decidable (Rs u):=inferInstanceAs (Decidable (_\/_))
def Be (u v:P):Prop:=(Rs u/\¬ Rs v)\/((Rs u↔Rs v)/\0<cx u v)
instance (u v:P):Decidable (Be u v):=inferInstanceAs (Decidable (_\/_))
def z7g (h:u≠(0,0)):Rs (ng u)↔¬ Rs u:=by
 obtain⟨a,b⟩:=u;have:¬ (a=0/\b=0):=λ⟨d,e⟩=>h (by rw[d,e]);simp[Rs,ng];lia
def zav (u v:P):cx (ng u) (ng v)=cx u v:=by simp[cx,ng];grind
def zfx (u v:P):cx (ng u) v=cx v u:=by simp[cx,ng];grind
def zcv (u v:P):cx u (ng v) = -cx u v:=by simp[cx,ng];grind
def zm5 (h:u≠(0,0)):ng u≠(0,0):=λz=>h (by
 have a:=congrArg Prod.fst z;have b:=congrArg Prod.snd z;simp[ng] at a b;exact uc (by lia) (by lia))
def zca {u v w:P}(n:Rs u)(f:Rs v)(o:Rs w)(g:0<cx u v)(h:0<cx v w):0<cx u w:=by
 obtain⟨u1,b⟩:=u;obtain⟨a,d⟩:=v;obtain⟨w1,e⟩:=w;simp only[Rs,cx] at*;have j:(u1*e - b*w1)*a=(u1*d - b*a)*w1+(a*e - d*w1)*u1:=by grind
 rcases f with f | ⟨f,i⟩
 .rcases uj 0 (u1*e - b*w1) with z | z
  .exact z
  .exfalso
   have p:(u1*e - b*w1)*a<=0:=vF z (by lia);have q:0<=(u1*d - b*a)*w1:=wS (by lia) (by lia);have r:0<=(a*e - d*w1)*u1:=wS (by lia) (by lia);have m:(a*e - d*w1)*u1=0:=by omega
   have l:u1=0:=(wM.mp m).resolve_left (by lia);subst l;have:=w5 (show 0<b by lia) f;simp at g;lia
 .subst f;have:0<=d*w1:=wS (by lia) (by lia);simp at h;lia
def zc9 {u v w:P}(n:Rs u)(a:Rs v)(o:Rs w)(h:0<cx u w):0<cx u v\/0<cx v w:=by
 obtain⟨b,g⟩:=u;obtain⟨i,j⟩:=v;obtain⟨w1,m⟩:=w;simp only[Rs,cx] at*
 rcases uj 0 _ with d | d
 .exact .inl d
 rcases uj 0 _ with f | f
 .exact .inr f
 exfalso
 have p:(b*j - g*i)*w1<=0:=vF d (by lia);have r:(i*m - j*w1)*b<=0:=vF f (by lia)
 rcases a with a | ⟨a,e⟩
 .have:=w5 h a;lia
 .subst a;simp at d;have l:b=0:=by
   rcases uj 0 b with q | q
   .have:=w5 q e;lia
   .lia
  subst l;have:0<=g*w1:=wS (by lia) (by lia);simp at h;lia
def Be.tr {u v w:P}(g:u≠(0,0))(h:v≠(0,0))(i:w≠(0,0))(f:Be u v)(e:Be v w):Be u w:=by
 rcases f with ⟨a,b⟩ | ⟨a,b⟩
 .rcases e with ⟨c,d⟩ | ⟨c,d⟩
  .exact absurd c b
  .exact .inl ⟨a,λz=>b (c.mpr z)⟩
 .rcases e with ⟨c,d⟩ | ⟨c,d⟩
  .exact .inl ⟨a.mpr c,d⟩
  .refine .inr ⟨a.trans c,?_⟩
   by_cases r:Rs u
   .exact zca r (a.mp r) (c.mp (a.mp r)) b d
   .have:=zca ((z7g g).mpr r) ((z7g h).mpr λz=>r (a.mpr z)) ((z7g i).mpr λz=>r (a.mpr (c.mpr z))) (by rw[zav];exact b) (by rw[zav];exact d)
    rwa [zav] at this
def Be.wk {u v w:P}(d:u≠(0,0))(e:v≠(0,0))(f:w≠(0,0))(h:Be u w):Be u v\/Be v w:=by
 rcases h with ⟨a,b⟩ | ⟨a,b⟩
 .by_cases r:Rs v
  .exact .inr (.inl ⟨r,b⟩)
  .exact .inl (.inl ⟨a,r⟩)
 .by_cases r:Rs u
  .by_cases s:Rs v
   .rcases zc9 r s (a.mp r) b with z | z
    .exact .inl (.inr ⟨⟨λ_=>s,λ_=>r⟩,z⟩)
    .exact .inr (.inr ⟨⟨λ_=>a.mp r,λ_=>s⟩,z⟩)
   .exact .inl (.inl ⟨r,s⟩)
  .by_cases s:Rs v
   .exact .inr (.inl ⟨s,λz=>r (a.mpr z)⟩)
   .rcases zc9 ((z7g d).mpr r) ((z7g e).mpr s) ((z7g f).mpr λz=>r (a.mpr z)) (by rw[zav];exact b) with z | z
    .rw[zav] at z;exact .inl (.inr ⟨⟨λq=>absurd q r,λq=>absurd q s⟩,z⟩)
    .rw[zav] at z;exact .inr (.inr ⟨⟨λq=>absurd q s,λq=>absurd (a.mpr q) r⟩,z⟩)
def Be.irr:¬ Be u u:=by
 rintro(⟨a,b⟩ | ⟨_,b⟩)
 .exact b a
 .have:cx u u=0:=by simp[cx];grind
  lia
noncomputable def Dt (t:P)(l:List P):Int:=(l.map (cx · t)).sum
def Dt.app (t:P)(l m:List P):Dt t (l++m)=Dt t l+Dt t m:=by unfold Dt;simp_all
theorem Dt.nonneg {t:P}:∀{l:List P},(∀u∈l,0<=cx u t)->0<=Dt t l
 | [],_=>by simp[Dt]
 | u::l,h=>by
  have:=Dt.nonneg (l:=l) λx a=>h x (by simp[a]);have:=h u (by simp);simp[Dt] at*;lia
theorem Dt.nonpos {t:P}:∀{l:List P},(∀u∈l,cx u t<=0)->Dt t l<=0
 | [],_=>by simp[Dt]
 | u::l,h=>by
  have:=Dt.nonpos (l:=l) λx a=>h x (by simp[a]);have:=h u (by simp);simp[Dt] at*;lia
theorem z6w {t:P}(d:∀u v:P,R u v->Be v t->Be u t):∀{E:List P},E.Pairwise R->∃F G,E=F++G/\(∀u∈F,Be u t)/\(∀u∈G,¬ Be u t)
 | [],_=>⟨[],[],rfl,λ_ h=>by(cases h),λ_ h=>by(cases h)⟩
 | u::E,h=>by
  rw[vd] at h
  by_cases b:Be u t
  .obtain⟨F,G,e,f,g⟩:=z6w d h.2;exact⟨u::F,G,by rw[e];rfl,λx a=>(wm.mp a).elim (λz=>z ▸ b) (f x),g⟩
  .exact⟨[],u::E,rfl,λ_ h=>by(cases h),λx a=>(wm.mp a).elim (λz=>z ▸ b) λz q=>b (d u x (h.1 x z) q)⟩
def lead {t:P}(p:t≠(0,0))(i:∀u∈E,u≠(0,0))(j:E.Pairwise Be)(J:Dt t E=0)(e:E=F++G)(y:∀u∈F,Be u t)(n:∀u∈G,¬ Be u t)(k:E=K++L):Dt t K<=Dt t F:=by
 have x:Dt t F+Dt t G=0:=by rw[<- Dt.app, <- e];exact J
 have M:∀u∈F,u≠(0,0):=λu b=>i u (by rw[e];simp[b]);have N:∀u∈G,u≠(0,0):=λu b=>i u (by rw[e];simp[b]);have H:=zm5 p
 by_cases r:Rs t
 .have A:∀u∈F,0<cx u t:=λu b=>by
   rcases y u b with ⟨_,z⟩ | ⟨_,z⟩
   .exact absurd r z
   .exact z
  have S:0<=Dt t F:=Dt.nonneg λu b=>wC (A u b)
  rcases jI.mp (k.symm.trans e) with ⟨a,d,f⟩ | ⟨c,d,f⟩
  .have:0<=Dt t a:=Dt.nonneg λu b=>wC (A u (by rw[d];simp[b]));rw[d,Dt.app];lia
  .rw[d,Dt.app]
   rcases uj 0 (Dt t c) with z | z
   .exfalso
    obtain⟨u,b,o⟩:∃u∈c,0<cx u t:=by
     apply vO;intro q;have:=Dt.nonpos (t:=t) (l:=c) λu b=>by
      rcases uj 0 (cx u t) with w | w
      .exact absurd ⟨u,b,w⟩ q
      .exact w
     lia
    have s:¬ Rs u:=λw=>n u (by rw[f];simp[b]) (.inr ⟨⟨λ_=>r,λ_=>w⟩,o⟩);have rt:¬ Rs (ng t):=λw=>(z7g p).mp w r;have m:Be (ng t) u :=.inr ⟨⟨λw=>absurd w rt,λw=>absurd w s⟩,by rw[zfx];exact o⟩;have W:0<=Dt t L:=Dt.nonneg λv h=>by
     have g:Be u v:=by
      rw[k,d,uh] at j;exact j.2.2 u (by simp[b]) v h
     have Q:=i v (by rw[k];simp[h]);have I:=m.tr H (N u (by rw[f];simp[b])) Q g
     rcases I with ⟨w,_⟩ | ⟨_,w⟩
     .exact absurd w rt
     .rw[zfx] at w;lia
    rw[f,Dt.app] at x;lia
   .lia
 .have C:∀u∈G,cx u t<=0:=λu b=>by
   have s:¬ Rs u:=λw=>n u b (.inl ⟨w,r⟩)
   rcases uj 0 (cx u t) with w | w
   .exact absurd (.inr ⟨⟨λq=>absurd q s,λq=>absurd q r⟩,w⟩) (n u b)
   .exact w
  have T:Dt t G<=0:=Dt.nonpos C
  rcases jI.mp (k.symm.trans e) with ⟨a,d,f⟩ | ⟨c,d,f⟩
  .rw[d,Dt.app]
   rcases uj (Dt t a) 0 with z | z
   .exfalso
    obtain⟨v,h,o⟩:∃v∈a,cx v t<0:=by
     apply vO;intro q;have:=Dt.nonneg (t:=t) (l:=a) λu b=>by
      rcases uj (cx u t) 0 with w | w
      .exact absurd ⟨u,b,w⟩ q
      .exact w
     lia
    have R:Rs v:=by
     rcases y v (by rw[d];simp[h]) with ⟨w,_⟩ | ⟨_,w⟩
     .exact w
     .lia
    have rt:Rs (ng t):=(z7g p).mpr r;have m:Be v (ng t) :=.inr ⟨⟨λ_=>rt,λ_=>R⟩,by rw[zcv];lia⟩;have U:Dt t K<=0:=Dt.nonpos λu b=>by
     have g:Be u v:=by
      rw[k,f,uh] at j;exact j.2.2 u b v (by simp[h])
     have O:=i u (by rw[k];simp[b])
     rcases g.tr O (M v (by rw[d];simp[h])) H m with ⟨_,w⟩ | ⟨_,w⟩
     .exact absurd rt w
     .rw[zcv] at w;lia
    rw[d,Dt.app] at x;lia
   .lia
  .have:Dt t c<=0:=Dt.nonpos λu b=>C u (by rw[f];simp[b]);rw[d,Dt.app];lia
def sb (a b:P):P:=(b.1 - a.1,b.2 - a.2)
def pl (a b:P):P:=(a.1+b.1,a.2+b.2)
noncomputable def vs (l:List P):P:=((l.map (·.1)).sum,(l.map (·.2)).sum)
def z1F (u:P)(l:List P):vs (u::l)=pl u (vs l):=rfl
def z8X (l m:List P):vs (l++m)=pl (vs l) (vs m):=by
 simp[vs,pl,wA,j2]
def vs_perm (h:l.Perm m):vs l=vs m:=by
 induction h with
 | nil=>rfl
 | cons x _ d=>rw[z1F,z1F,d]
 | swap x y l=>simp only[z1F,pl];exact uc (by simp;lia) (by simp;lia)
 | trans _ _ a b=>exact a.trans b
theorem z8N (t:P):∀l:List P,Dt t l=cx (vs l) t
 | []=>by simp[Dt,vs,cx]
 | u::l=>by
  have a:=z8N t l;rw[z1F,show Dt t _=cx u t+Dt t l by simp[Dt],a];simp[cx,pl]
  grind
def df:List P->List P
 | a::b::r=>sb a b::df (b::r)
 | _=>[]
theorem z9C:∀{r:List P}{a q:P},q∈a::r->∃K L,df (a::r)=K++L/\vs K=sb a q
 | [],a,q,h=>by
  rw[wg.mp h];exact⟨[],[],rfl,by simp[vs,sb]⟩
 | b::r,a,q,h=>by
  rcases wm.mp h with rfl | h
  .exact⟨[],_,rfl,by simp[vs,sb]⟩
  .obtain⟨K,L,e,v⟩:=z9C h;refine⟨sb a b::K,L,by rw[df,e];rfl,?_⟩;rw[z1F,v];simp only[pl,sb];exact uc (by simp;lia) (by simp;lia)
theorem zku:∀{r:List P}{a:P}{K L:List P},df (a::r)=K++L->∃q∈a::r,vs K=sb a q
 | [],a,K,L,h=>by
  have  := (jt.mp h.symm).1;subst this;exact⟨a,by simp,by simp[vs,sb]⟩
 | b::r,a,[],L,h=>⟨a,by simp,by simp[vs,sb]⟩
 | b::r,a,u::K,L,h=>by
  obtain⟨rfl,d⟩:=List.cons.inj h;obtain⟨q,e,v⟩:=zku d;refine⟨q,wn _ e,?_⟩;rw[z1F,v];simp only[pl,sb];exact uc (by simp;lia) (by simp;lia)
theorem z9E:∀{r:List P}{a z:P},vs (df (a::r++[z]))=sb a z
 | [],a,z=>by simp[df,vs,sb]
 | b::r,a,z=>by
  show vs (sb a b::df (b::r++[z]))=_;rw[z1F,z9E];simp only[pl,sb];exact uc (by simp;lia) (by simp;lia)
theorem zfv:∀{r s:List P}{a m:P},df (a::r++m::s)=df (a::r++[m])++df (m::s)
 | [],s,a,m=>by
  rfl
 | b::r,s,a,m=>by
  show sb a b::df (b::r++m::s)=sb a b::df _++df _;rw[zfv]
  rfl
noncomputable def mg:List P->List P->List P
 | E,[]=>E
 | E,f::F=>E.takeWhile (λu=>decide (Be u f))++f::mg (E.dropWhile (λu=>decide (Be u f))) F
theorem z4u:∀(E F:List P),(mg E F).Perm (E++F)
 | E,[]=>by simp[mg]
 | E,f::F=>by
  have a:=z4u (E.dropWhile (λu=>decide (Be u f))) F;refine(jA _ (a.cons f)).trans ?_
  conv=>rhs;rw[<- jf (p:=λu=>decide (Be u f)) (l:=E),vS]
  exact jA _ jL.symm
theorem zfi:∀{E F K L:List P},mg E F=K++L->∃b g d i,E=b++g/\F=d++i/\K.Perm (b++d)
 | E,[],K,L,h=>⟨K,L,[],[],h,rfl,by simp⟩
 | E,f::F,K,L,h=>by
  rw[mg] at h;have m:=jf (p:=λu=>decide (Be u f)) (l:=E);generalize E.takeWhile (λu=>decide (Be u f))=T at*;generalize E.dropWhile (λu=>decide (Be u f))=R at*
  rcases jI.mp h with ⟨a,e,j⟩ | ⟨c,e,j⟩
  .cases a with
   | nil=>exact⟨T,R,[],f::F,m.symm,rfl,by rw[e]⟩
   | cons x a=>
    rw[List.cons_append] at j;obtain⟨rfl,n⟩:=List.cons.inj j;obtain⟨b,g,d,i,o,q,r⟩:=zfi n;refine⟨T++b,g,f::d,i,by rw[<- m,o,vS],by rw[q,List.cons_append],?_⟩;rw[e,vS];exact jA _ ((r.cons f).trans jL.symm)
  .exact⟨K,c++R,[],f::F,by rw[<- m,e,vS],rfl,by simp⟩
def Nz (l:List P):Prop:=∀u∈l,u≠(0,0)
def Be.asym {u v:P}(a:u≠(0,0))(b:v≠(0,0))(h:Be u v):¬ Be v u:=λz=>Be.irr (h.tr a b a z)
theorem zk8:∀{E F:List P},Nz E->Nz F->E.Pairwise (λx y=>¬ Be y x)->F.Pairwise (λx y=>¬ Be y x)->(mg E F).Pairwise (λx y=>¬ Be y x)
 | E,[],_,_,h,_=>by rw[mg];exact h
 | E,f::F,H,I,g,n=>by
  have A:=jf (p:=λu=>decide (Be u f)) (l:=E);have G:∀u∈E.takeWhile (λu=>decide (Be u f)),Be u f:=λu a=>by
   have:=List.all_eq_true.mp (List.all_takeWhile (p:=λu=>decide (Be u f)) (l:=E)) u a;simpa using this
  have o:∀d r,E.dropWhile (λu=>decide (Be u f))=d::r->¬ Be d f:=λd r e z=>by
   have:=List.head?_dropWhile_not (λu=>decide (Be u f)) E;rw[e] at this;simp at this;exact this z
  rw[mg];have K:=z4u (E.dropWhile (λu=>decide (Be u f))) F;generalize E.takeWhile (λu=>decide (Be u f))=T at*;generalize E.dropWhile (λu=>decide (Be u f))=R at*;have J:Nz T:=λu a=>H u (by rw[<- A];simp[a]);have s:Nz R:=λu a=>H u (by rw[<- A];simp[a]);have t:=I f (by simp);have m:Nz F:=λu a=>I u (by simp[a]);rw[<- A,uh] at g;rw[vd] at n;have L:=zk8 s m g.2.1 n.2;have j:∀y∈mg R F,y∈R\/y∈F:=λy b=>wB.mp (K.mem_iff.mp b);rw[uh,vd];refine⟨g.1,⟨λy b =>?_,L⟩,λx i y b =>?_⟩
  .rcases j y b with z | z
   .cases R with
    | nil=>cases z
    | cons d r=>
     have C:=o d r rfl
     rcases wm.mp z with rfl | z
     .exact C
     .intro w
      rcases w.wk (v:=d) (s y (by simp[z])) (s d (by simp)) t with q | q
      .exact(vd.mp g.2.1).1 y z q
      .exact C q
   .exact n.1 y z
  .rcases wm.mp b with rfl | b
   .exact(G x i).asym (J x i) t
   .rcases j y b with z | z
    .exact g.2.2 x i y z
    .intro w;exact n.1 y z (w.tr (m y z) (J x i) t (G x i))
def zh2 {t:P}(p:t≠(0,0))(j:Nz E)(m:Nz F)(C:E.Pairwise Be)(G:F.Pairwise Be)(zE:vs E=(0,0))(zF:vs F=(0,0)):
  ∃K L,mg E F=K++L/\∀r H s I,E=r++H->F=s++I->Dt t r+Dt t s<=Dt t K:=by
 have J:∀{l:List P},vs l=(0,0)->Dt t l=0:=λ{l} h=>by rw[z8N,h];simp[cx]
 have wk:∀{l:List P},Nz l->l.Pairwise Be->l.Pairwise (λx y=>¬ Be y x):=λ{l} n h=>by
  have:l.Pairwise λx y=>(x∈l/\y∈l):=u9 λx g y i=>⟨g,i⟩
  exact(h.and this).imp λ{x y} ⟨q,g,i⟩=>q.asym (n x g) (n y i)
 have z:∀{l:List P}{R:P->P->Prop},Nz l->l.Pairwise R->l.Pairwise λx y=>(x≠(0,0)/\y≠(0,0))/\R x y:=λ{l R} n h=>by
  have:l.Pairwise λx y=>(x≠(0,0)/\y≠(0,0)):=u9 λx g y i=>⟨n x g,n y i⟩
  exact this.and h
 have e:∀u v:P,((u≠(0,0)/\v≠(0,0))/\Be u v)->Be v t->Be u t:=λu v ⟨⟨a,b⟩,c⟩ d=>c.tr a b p d;have o:∀u v:P,((u≠(0,0)/\v≠(0,0))/\¬ Be v u)->Be v t->Be u t:=λu v ⟨⟨a,b⟩,c⟩ d=>(d.wk b a p).resolve_left c;have nM:Nz (mg E F):=λu f=>(wB.mp ((z4u E F).mem_iff.mp f)).elim (j u) (m u);obtain⟨X,E2,M,S,U⟩:=z6w e (z j C);obtain⟨F1,F2,N,T,W⟩:=z6w e (z m G);obtain⟨K,L,Q,pK,qK⟩:=z6w o (z nM (zk8 j m (wk j C) (wk m G)));refine⟨K,L,Q,λr H s I Y Z =>?_⟩;have a1:=lead p j C (J zE) M S U Y;have a2:=lead p m G (J zF) N T W Z;have w:∀{A B:List P},(∀u∈A,Be u t)->(∀u∈B,¬ Be u t)->(A++B).filter (λu=>decide (Be u t))=A:=λ{A B} ha hb=>by
  rw[List.filter_append,List.filter_eq_self.mpr λu f=>vz (ha u f),List.filter_eq_nil_iff.mpr λu f=>by simpa using hb u f,vk]
 have O:=(z4u E F).filter (λu=>decide (Be u t));rw[Q,w pK qK,List.filter_append,M,w S U,N,w T W] at O;have:Dt t K=Dt t X+Dt t F1:=by rw[z8N,vs_perm O, <- z8N,Dt.app]
 lia
def rd (h:List P):List P:=if h.length=1 then [] else df (h++h.take 1)
def zka {a b c:P}(h:Lx a b)(k:Lx b c):Lx a c:=by
 simp[Lx] at*;lia
def zh3 (h:Lx a b):Rs (sb a b):=by
 simp[Lx,Rs,sb] at*;lia
def zbS (h:Lx b a):¬ Rs (sb a b):=by
 simp only[Lx,Rs,sb] at*;lia
def zi4 (h:a≠b):sb a b≠(0,0):=λz=>h (by
 have d:=congrArg Prod.fst z;have e:=congrArg Prod.snd z;simp[sb] at d e
 grind)
theorem zer (e:∀a b,R a b->a≠b):∀{p:List P},Path R p->Nz (df p)
 | [],_=>λu d=>by(cases d)
 | [_],_=>λu d=>by(cases d)
 | a::b::r,h=>λu d=>by
  rcases wm.mp d with rfl | d
  .exact zi4 (e a b h.1)
  .exact zer e h.2 u d
theorem z9D:u∈df p->∃a b,(∀R:P->P->Prop,Path R p->R a b)/\u=sb a b:=by
 match p with
 | []=>intro h;cases h
 | [_]=>intro h;cases h
 | a::b::r=>
  intro h
  rcases wm.mp h with rfl | h
  .exact⟨a,b,λR q=>q.1,rfl⟩
  .obtain⟨x,y,q,e⟩:=z9D h;exact⟨x,y,λR w=>q R w.2,e⟩
theorem z6u:∀{p:List P},p.Pairwise R->Path R p
 | [],_=>trivial
 | [_],_=>trivial
 | a::b::r,h=>by
  rw[vd] at h;exact⟨h.1 b (by simp),z6u h.2⟩
theorem zhl (j:∀a b c d:P,O a b->O c d->(Rs (sb a b)↔Rs (sb c d)))(tr:∀a b c:P,O a b->O b c->a≠c):∀{p:List P},Path (Edge S) p->Path O p->(df p).Pairwise Be
 | [],_,_ =>.nil
 | [_],_,_ =>.nil
 | [a,b],_,_=>List.pairwise_singleton _ _
 | a::b::c::r,h,o=>by
  have g:=zhl j tr h.2 o.2;have i:=zer (λ_ _ e=>e.ne) h.2;rw[df,vd];refine⟨λu f =>?_,g⟩;have first:Be _ _ :=.inr ⟨j a b b c o.1 o.2.1,by
   have:=z4e h.1 h.2.1 (tr a b c o.1 o.2.1);have e:Qa a b c=cx (sb a b) (sb b c):=by simp[Qa,cx,sb];grind
   rwa [e] at this⟩
  rw[df] at f g i
  rcases wm.mp f with rfl | f
  .exact first
  .exact first.tr (zi4 h.1.ne) (i _ (by simp)) (i u (by simp[f])) ((vd.mp g).1 u f)
structure Rnd (h:List P):Prop where
 nz:Nz (rd h)
 up:(rd h).Pairwise Be
 zero:vs (rd h)=(0,0)
def Hd.rnd (x:Hd l h)(G:l≠[]):Rnd h:=by
 obtain⟨rl,C,E,rfl⟩:=x;have H:rl≠[]:=λz=>by
  obtain⟨p,r,rfl⟩:=List.exists_cons_of_ne_nil G;have:=(E p).mpr (by simp);rw[z] at this
  cases this
 have N:=w6.mpr H
 rcases wW rl.length 2 with z | z
 .have e:hull rl=rl:=if_pos (by lia);have:rd (hull rl)=[]:=by rw[e];exact if_pos (by lia)
  refine⟨?_,?_,?_⟩ <;> rw[this]
  .exact λu f=>by(cases f)
  .exact .nil
  .rfl
 .obtain⟨m,M,A,B,e,Q,L,F,o,n,J,K,s,t⟩:=z64 z C;have i:rd (hull rl)=df (m::A++[M])++df (M::B++[m]):=by
   unfold rd;rw[if_neg (by rw[e];simp),e];show df (m::A++M::B++[m])=_;rw[vS,List.cons_append];exact zfv
  have up:=z6u J;have j:=z6u K;have g:∀a b,Edge (· ∈ rl) a b->a≠b:=λa b e=>e.ne;refine⟨?_,?_,?_⟩
  .rw[i];intro u f
   rcases wB.mp f with f | f
   .exact zer g s u f
   .exact zer g t u f
  .rw[i,uh];refine⟨zhl (O:=Lx) (λa b c d q w=>⟨λ_=>zh3 w,λ_=>zh3 q⟩) (λa b c q w z=>by subst z;exact Lx.irr (zka q w)) s up,zhl (O:=λx y=>Lx y x) (λa b c d q w=>⟨λz=>absurd z (zbS q),λz=>absurd z (zbS w)⟩) (λa b c q w z=>by subst z;exact Lx.irr (zka q w)) t j,λu f v I =>?_⟩;obtain⟨a,b,q,rfl⟩:=z9D f;obtain⟨c,d,w,rfl⟩:=z9D I;exact .inl ⟨zh3 (q _ up),zbS (w _ j)⟩
  .rw[i,z8X,z9E,z9E];simp only[pl,sb];exact uc (by simp;lia) (by simp;lia)
def zin (e:h=a::r)(k:rd h=K++L):∃q∈h,vs K=sb a q:=by
 subst e;unfold rd at k
 split at k
 .have  := (jt.mp k.symm).1;subst this;exact⟨a,by simp,by simp[vs,sb]⟩
 .obtain⟨q,b,v⟩:=zku k;refine⟨q,?_,v⟩;simp at b ⊢
  grind
set_option tactic.hygienic true in
def z9b (e:h=a::r)(b:q∈h):∃K L,rd h=K++L/\vs K=sb a q:=by
 subst e;unfold rd
 split
 .rename_i z
  have  := uM.mp (by simpa using z);subst this;rw[wg.mp b];exact⟨[],[],rfl,by simp[vs,sb]⟩
 .exact z9C (by simp at b ⊢;rcases b with z | z;exact .inl z;simp_all)
def join {r s e f r1 r2:List P}(N:Hd r e)(O:Hd s f)(G:r≠[])(H:s≠[])(m:e=a::r1)(n:f=b::r2):
  (∀K L,mg (rd e) (rd f)=K++L->∃p∈e,∃q∈f,pl (pl a b) (vs K)=pl p q)/\
  ∀p∈e,∀q∈f,∀d:P,∃K L,mg (rd e) (rd f)=K++L/\sc (pl p q) d<=sc (pl (pl a b) (vs K)) d:=by
 have g:=N.rnd G;have R2:=O.rnd H;refine⟨λK L k =>?_,λp h q i d =>?_⟩
 .obtain⟨Q,R,S,T,I,J,M⟩:=zfi k;obtain⟨p,h,j⟩:=zin m I;obtain⟨q,i,l⟩:=zin n J;refine⟨p,h,q,i,?_⟩;rw[vs_perm M,z8X,j,l];simp only[pl,sb]
  grind
 .by_cases o:d=(0,0)
  .subst o;exact⟨[],_,rfl,by simp[sc]⟩
  .have C:((-d.2,d.1):P)≠(0,0):=λz=>o (by
    have t:=congrArg Prod.fst z;have u:=congrArg Prod.snd z;simp at t u;exact uc u t)
   obtain⟨K,L,k,far⟩:=zh2 C g.nz R2.nz g.up R2.up g.zero R2.zero;obtain⟨w,y,E,j⟩:=z9b m h;obtain⟨x,A,F,l⟩:=z9b n i;refine⟨K,L,k,?_⟩;have:=far w y x A E F;rw[z8N,z8N,z8N,j,l] at this;simp only[cx,sb,sc,pl] at*
   grind
end Geo
namespace Pu
open PySem L2
def zjW (q:Q (.bl (HT.z0q [r.1,r.2] [p.1,p.2]))):pGt.run [vec p,vec r] Q X:=q
def zfl (u:P):HT.z0q [(0),0] [u.1,u.2]=decide (Geo.Rs u):=by
 rw[jW];exact(zfm (a:=(0,0))).trans ⟨λh=>by simp[Lx,Geo.Rs] at *;lia,λh=>by simp[Lx,Geo.Rs] at *;lia⟩
def z7e {u v:P}(hu:Vb 30000000 u)(g:Vb 30000000 v)(q:Q (.bl (decide (Be u v)))):z2r.run [vec u,vec v] Q X:=by
 walk_at "fn";ac_nf;refine zjW (p:=u) (r:=(0,0)) ?_;rw[show HT.z0q [((0,0)).1,((0,0)).2] [u.1,u.2]=decide (Geo.Rs u) from zfl u];ac_nf;refine zjW (p:=v) (r:=(0,0)) ?_;rw[show HT.z0q [((0,0)).1,((0,0)).2] [v.1,v.2]=decide (Geo.Rs v) from zfl v];ac_nf;refine zlY ?_;refine z9R (z0G (λe =>?_) (λe =>?_))
 .ac_nf;refine z36 hu g ?_;ac_nf;have f:Geo.Rs u↔Geo.Rs v:=by rw[<- decide_eq_true_iff (p:=Geo.Rs u),e,decide_eq_true_iff]
  have:decide (0<u.1*v.2 - u.2*v.1)=decide (Be u v):=decide_eq_decide.mpr ⟨λz =>.inr ⟨f,z⟩,λz=>by
   rcases z with ⟨a,b⟩ | ⟨_,b⟩
   .exact absurd (f.mp a) b
   .exact b⟩
  rw[this];exact q
 .ac_nf;have:decide (Geo.Rs u)=decide (Be u v):=decide_eq_decide.mpr ⟨λz =>.inl ⟨z,λw=>e (by rw[vz z,vz w])⟩,λz=>by
   rcases z with ⟨a,_⟩ | ⟨a,_⟩
   .exact a
   .exact absurd (decide_eq_decide.mpr a) e⟩
  rw[this];exact q
def z5E (Z:Wb 30000000 E)(hF:Wb 30000000 F)(zE:E.length<=1000)(zF:F.length<=1000)(q:Q (.lst ((Geo.mg E F).map vec))):z1R.run [.lst (E.map vec),.lst (F.map vec)] Q X:=by
 walk_at "fn";ac_nf;refine z1A (λx hx=>by cases hx) ?_;ac_rfl;ac_nf;refine z0J (f:=vec) (λI y=>Ee3 λ(m:List P) n R=>Aa4 (∀G,Geo.mg E (I++G)=m++Geo.mg (E.drop n) G) (n<=E.length) (m.length=n+I.length) (y=[.s (.lst (E.map vec)),.s (.lst (F.map vec)),.o (.lst (m.map vec)),.s (.int n),R])) ⟨[],0,_,λG=>by simp,by simp,by simp,rfl⟩ ?_ ?_
 .rintro I f r y e ⟨m,n,R,O,Y,W,rfl⟩;have hf:=hF f (by rw[e];simp);have hd:I.length<=1000:=by
   have:=congrArg List.length e;simp at this;lia
  show Sm.run _ _ _ _ _;ac_rfl;refine zbb (λL=>Ee2 λg j=>g=m++(E.drop n).takeWhile (λu=>decide (Be u f))/\E.drop j=(E.drop n).dropWhile (λu=>decide (Be u f))/\j<=E.length/\g.length=j+I.length/\L=[.s (.lst (E.map vec)),.s (.lst (F.map vec)),.o (.lst (g.map vec)),.s (.int j),.s (vec f)]) ?_ ?_
  .refine z51 (λy=>Ee2 λ(g:List P) j=>Aa5 (g++(E.drop j).takeWhile (λu=>decide (Be u f))=m++(E.drop n).takeWhile (λu=>decide (Be u f))) ((E.drop j).dropWhile (λu=>decide (Be u f))=(E.drop n).dropWhile (λu=>decide (Be u f))) (j<=E.length) (g.length=j+I.length) (y=[.s (.lst (E.map vec)),.s (.lst (F.map vec)),.o (.lst (g.map vec)),.s (.int j),.s (vec f)])) (λy=>(E.length - nI y 3).toNat) ⟨m,n,rfl,rfl,Y,W,rfl⟩ ?_;rintro y ⟨g,j,J,w,N,K,rfl⟩;ac_nf;rw[wd];refine z0G (λz =>?_) (λz =>?_)
   .have C:j<E.length:=by lia
    obtain⟨u,hu,M⟩:=z4K (xs:=E) (i:=j) (by lia) (by lia);have p:E.drop j=u::E.drop (j+1):=by
     rw[u8 C]
     congr 1
     rw[z9K C,wo C] at M;exact wY M
    ac_nf;refine z19 (z0P M) ?_;ac_nf;refine z7e (Z u hu) hf ?_;refine z0G (λb =>?_) (λb =>?_)
    .refine z4k (z4l (l:=[]) (z0w rfl ?_));ac_nf;refine z19 (z0P M) ?_;refine⟨by rw[wd];exact szl' (by lia),Safe.of_noL rfl rfl _,?_⟩;ac_rfl;ac_nf;refine⟨⟨g++[u],j+1,?_,?_,by lia,by simp;lia,by rw[wA];simp⟩,?_⟩
     .rw[<- J,p,List.takeWhile_cons,if_pos (by simpa using b),vS]
      rfl
     .rw[<- w,p,List.dropWhile_cons,if_pos (by simpa using b)]
     .show ((E.length:Int) - (j+1)).toNat<(E.length - (j:Int)).toNat
      lia
    .rw[p,List.takeWhile_cons,if_neg (by simpa using b),vk] at J;rw[p,List.dropWhile_cons,if_neg (by simpa using b), <- p] at w;exact⟨g,j,J,w,N,K,rfl⟩
   .ac_nf;have p:E.drop j=[]:=List.drop_eq_nil_of_le (by lia);rw[p] at J w;simp only[List.takeWhile_nil,vk,List.dropWhile_nil] at J w;exact⟨g,j,J,by rw[p];exact w,N,K,rfl⟩
  rintro L ⟨g,j,rfl,w,N,K,rfl⟩;refine z4l (l:=[]) (z0w rfl ?_);ac_nf;refine⟨by rw[wd,K];exact szl' (by lia),Safe.of_noL rfl rfl _,?_⟩;ac_rfl;refine⟨m++(E.drop n).takeWhile (λu=>decide (Be u f))++[f],j,_,λG =>?_,N,by rw[wD,K];simp;lia,by rw[wA (l₂:=[f])];rfl⟩;rw[vS,List.singleton_append,O (f::G),Geo.mg,w];simp
 rintro y ⟨m,n,R,O,Y,W,rfl⟩;have U:=O [];rw[vk,Geo.mg] at U;ac_nf;rw[zfy (by lia)];refine zbI (by simp;exact szl (by lia)) ?_;rw[<- wA,show ((n:Int)).toNat=n by lia, <- U];exact q
def zjL (q:Q (.lst ((l.zip m).map λp =>.tup [p.1,p.2]))):za9.run [.tup l,.tup m] Q X:=q
def z5z {a:Type}{f:a->D}{l:List a}{k:Int}(h:0<=k):cutD (l.map f) none (some k)=(l.take k.toNat).map f:=by
 have b:HT.sIx l.length l.length (some k)=min k.toNat l.length:=by
  show (if k<0 then (k+l.length).toNat else min _ _)=_;rw[if_neg (by lia)]
 rw[z2W,b];show ((l.drop 0).take (min _ _ - 0)).map f=_
 simp_all
theorem zeH:∀r (a z:P),((a::r).zip (r++[z])).map (λp=>Geo.sb p.1 p.2)=df (a::r++[z])
 | [],a,z=>rfl
 | b::r,a,z=>by
  show Geo.sb a b::((b::r).zip (r++[z])).map _=Geo.sb a b::df (b::r++[z]);rw[zeH r b z]
def z3U (b:h.length<=1000)(i:h≠[])(q:Q (.lst ((Geo.rd h).map vec))):z1C.run [vecs h,.fn 2] Q X:=by
 walk_at "fn";ac_nf;rw[wd];refine z0G (λz =>?_) (λz =>?_)
 .ac_nf;have:Geo.rd h=[]:=if_pos (by lia);rw[this] at q;exact q
 ac_nf;obtain⟨a,r,rfl⟩:=List.exists_cons_of_ne_nil i;rw[zfy (by decide),z5z (by decide)];refine z7z (by simp;exact szl (by simp at b;lia)) ?_;rw[<- wA,show (a::r).drop (1:Int).toNat++(a::r).take (1:Int).toNat=r++[a] from rfl];refine z0O (Safe.of_noL (z17 _) (z18 _) _) ?_;ac_rfl;ac_nf;refine zjL ?_;rw[List.zip_map,wP];ac_nf;refine⟨by rw[wd];exact szl' (by simp at b ⊢;lia),?_⟩;refine z13 (g:=λp:P × P=>vec (Geo.sb p.1 p.2)) (λp hp K f =>?_) ?_
 .refine⟨rfl,?_⟩;show Ex.run _ _ _ _;unfold z0l z0l z0l;ac_rfl;refine z8L rfl ?_;ac_nf;exact z1U f
 have e:Geo.rd (a::r)=df (a::r++[a]):=if_neg (by lia);rw[show (((a::r).zip (r++[a])).map λp=>vec (Geo.sb p.1 p.2))=(((a::r).zip (r++[a])).map λp=>Geo.sb p.1 p.2).map vec by rw[wP];rfl,zeH, <- e];exact q
theorem zfu:∀(l:List P),(df l).length<=l.length - 1
 | []=>by simp[df]
 | [_]=>by simp[df]
 | a::b::r=>by
  have:=zfu (b::r);rw[df]
  simp_all
def zii (e:Wb 20000000 h):Wb 30000000 (Geo.rd h):=λu d=>by
 unfold Geo.rd at d
 split at d
 .cases d
 .obtain⟨a,b,R,rfl⟩:=z9D d;have:∀p∈h++h.take 1,p∈h:=λp g=>(wB.mp g).elim id vE;have f:=R (λa b=>a∈h/\b∈h) (z6u (u9 λx i y j=>⟨this x i,this y j⟩));exact(e a f.1).step (e b f.2)
def Sm2 (d e:List P)(p:P):Prop:=∃a∈d,∃b∈e,p=Geo.pl a b
end Pu
namespace Geo
def In.of_far (x:z04 S h)(d:∀b,∃c∈h,sc p b<=sc c b):In h p:=by
 match h,x,d with
 | [],x,_=>obtain⟨m,t,e,_⟩:=x.ex;cases e
 | [m],x,d=>
  have g:∀b,sc p b<=sc m b:=λb=>by
   obtain⟨c,f,le⟩:=d b;rw[wg.mp f] at le;exact le
  have i:=g (1,0);have n:=g (-1,0);have o:=g (0,1);have q:=g (0,-1);simp only[sc] at i n o q;show p=m;exact uc (by omega) (by omega)
 | [a,b],x,d=>
  have g:∀u,sc p u<=sc a u\/sc p u<=sc b u:=λu=>by
   obtain⟨c,f,le⟩:=d u;simp only[wm,wz,vK] at f
   rcases f with rfl | rfl
   .exact .inl le
   .exact .inr le
  have K:=z0g (b.1 - a.1);have L:=z0g (b.2 - a.2);have i:=g (-(b.2 - a.2),b.1 - a.1);have n:=g (b.2 - a.2,-(b.1 - a.1));have o:=g (a.1 - b.1,a.2 - b.2);have q:=g (b.1 - a.1,b.2 - a.2);clear g d x;have r:sc p (-(b.2 - a.2),b.1 - a.1)=sc a (-(b.2 - a.2),b.1 - a.1)+Qa a b p:=by simp only[sc,Qa];grind
  have s:sc b (-(b.2 - a.2),b.1 - a.1)=sc a (-(b.2 - a.2),b.1 - a.1):=by simp only[sc];grind
  have w:sc p (b.2 - a.2,-(b.1 - a.1))=sc a (b.2 - a.2,-(b.1 - a.1)) - Qa a b p:=by simp only[sc,Qa];grind
  have y:sc b (b.2 - a.2,-(b.1 - a.1))=sc a (b.2 - a.2,-(b.1 - a.1)):=by simp only[sc];grind
  have z:sc p (a.1 - b.1,a.2 - b.2)=sc a (a.1 - b.1,a.2 - b.2) - dot a b p:=by simp only[sc,dot];grind
  have A:sc b (a.1 - b.1,a.2 - b.2)=sc a (a.1 - b.1,a.2 - b.2) - ((b.1 - a.1)*(b.1 - a.1)+(b.2 - a.2)*(b.2 - a.2)):=by simp only[sc];grind
  have C:sc p (b.1 - a.1,b.2 - a.2)=sc b (b.1 - a.1,b.2 - a.2) - dot b a p:=by simp only[sc,dot];grind
  have E:sc a (b.1 - a.1,b.2 - a.2)=sc b (b.1 - a.1,b.2 - a.2) - ((b.1 - a.1)*(b.1 - a.1)+(b.2 - a.2)*(b.2 - a.2)):=by simp only[sc];grind
  show Qa a b p=0/\0<=dot a b p/\0<=dot b a p;generalize Qa a b p=M at*;generalize dot a b p=N at*;generalize dot b a p=O at*;generalize (b.1 - a.1)*(b.1 - a.1)=Q at*;generalize (b.2 - a.2)*(b.2 - a.2)=R at*;rw[r,s] at i;rw[w,y] at n;rw[z,A] at o;rw[C,E] at q;refine⟨?_,?_,?_⟩ <;> omega
 | a0::I::J::t,x,d=>
  refine(In.three (by simp)).mpr λj a b H F G =>?_;have e:=x.cyc (by simp) H F G;obtain⟨c,f,le⟩:=d (b.2 - a.2,-(b.1 - a.1));have l:=e.left c (x.sub c f);simp only[sc] at le;simp only[Qa] at l ⊢
  grind
def Ms:List (List P)->P->Prop
 | [],p=>p=(0,0)
 | d::a,p=>∃q∈d,∃r,Ms a r/\p=pl q r
def zbs (a b:P):pl a b=pl b a:=by simp only[pl];grind
def zbr (a b c:P):pl a (pl b c)=pl b (pl a c):=by simp[pl];grind
def zbP (h:l.Perm m):∀p,Ms l p->Ms m p:=by
 induction h with
 | nil=>exact λ_ h=>h
 | cons x _ j=>rintro p ⟨q,a,r,i,e⟩;exact⟨q,a,r,j r i,e⟩
 | swap x y l=>rintro p ⟨q,a,r,⟨n,b,o,d,rfl⟩,rfl⟩;exact⟨n,b,_,⟨q,a,o,d,rfl⟩,zbr _ _ _⟩
 | trans _ _ f g=>exact λp h=>g p (f p h)
def z6J:Ms (ds++[d]) p↔∃r,Ms ds r/\∃q∈d,p=pl r q:=by
 constructor
 .intro h;obtain⟨q,a,r,b,e⟩:=zbP (List.perm_append_singleton d ds) p h;exact⟨r,b,q,a,by rw[e,zbs]⟩
 .rintro⟨r,b,q,a,e⟩;exact zbP (List.perm_append_singleton d ds).symm p ⟨q,a,r,b,by rw[e,zbs]⟩
def zkZ (a b u:P):sc (pl a b) u=sc a u+sc b u:=by simp[sc,pl];grind
def ze2 (x:z04 (Ms ds) h)(l:z04 (· ∈ d0) d)(y:z04 (λp=>∃a∈h,∃b∈d,p=pl a b) h'):z04 (Ms (ds++[d0])) h':=by
 refine y.fill (λp i =>?_) (λp i =>?_)
 .obtain⟨a,o,b,s,e⟩:=y.sub p i;exact z6J.mpr ⟨a,x.sub a o,b,l.sub b s,e⟩
 .obtain⟨r,z,q,w,rfl⟩:=z6J.mp i;refine In.of_far y λu =>?_;obtain⟨c,t,le⟩:=x.far (x.in z) u;obtain⟨n,g,A⟩:=l.far (l.in w) u;obtain⟨m,f,j⟩:=y.far (y.in ⟨c,t,n,g,rfl⟩) u;refine⟨m,f,?_⟩;rw[zkZ] at j ⊢;omega
def zk7:z04 (Ms []) [(0,0)]:=⟨(0,0),[],rfl,rfl,λp a=>by(have  := a;rw[this];exact Lx.irr),by simp,.inl ⟨rfl,λ_ h=>h⟩⟩
def Far (S:P->Prop)(b:P)(F:Int):Prop:=(∀p,S p->sc p b<=F)/\∃p,S p/\sc p b=F
end Geo
namespace Pu
open PySem L2
structure Wt4 (x:List P × P)(n:Nat:=140):Prop where
 wb:Wb n x.1
 ne:x.1≠[]
 len:x.1.length<=12
 vb:Vb n x.2
def Wt4.up (h:Wt4 x 136):Wt4 x:=⟨λp a=>⟨(h.wb p a).1.le,(h.wb p a).2.le⟩,h.ne,h.len,⟨h.vb.1.le,h.vb.2.le⟩⟩
def zeQ {c m:Int}(M:0<=m)(w:m<=10000000000000000000000000000000000000000)(o:Ln d)(q:∀p,Far 10000000000000000000000000000000000000000 p->Q (vec p)):z0K.run [.int c,.int m,d] Q X:=by
 have I:Bt 640 m:=z0b (by lia)
 rcases o with rfl | ⟨⟨a,b⟩,rfl,⟨⟨e,f⟩,g,i⟩⟩
 .walk_at "fn";ac_nf;refine z9R (z6f rfl ?_);ac_nf;refine z0I (by decide) (by decide) (by lia) λr y r1 =>?_;ac_nf;refine z0I (by decide) (by decide) (by lia) λu N O =>?_;ac_nf;exact q (r - m,u - m) ⟨⟨by show _<=r - m;lia,by show r - m<=_;lia⟩,by show _<=u - m;lia,by show u - m<=_;lia⟩
 .dsimp only at e f g i;have z:Bt 640 a:=z0b (by lia);have C:Bt 640 b:=z0b (by lia);walk_at "fn";ac_nf;refine z9R (z9S rfl ?_);ac_nf;refine z0I (by decide) (by decide) (by decide) λr y r1 =>?_;ac_nf;have J:Bt 640 (r - 3):=z0b (by lia);ac_nf;have j:∀x:Int,-3<=x->x<=3 -> -9<=x*(r - 3)/\x*(r - 3)<=9:=λx K L=>by
   rcases(by lia:x = -3\/x = -2\/x = -1\/x=0\/x=1\/x=2\/x=3) with rfl | rfl | rfl | rfl | rfl | rfl | rfl <;> lia
  have:=j a e f;have:=j b g i;exact q (a*(r - 3),b*(r - 3)) ⟨⟨by show _<=a*(r - 3);lia,by show a*(r - 3)<=_;lia⟩,by show _<=b*(r - 3);lia,by show b*(r - 3)<=_;lia⟩
def z0S (x:z04 S h):h≠[]:=by obtain⟨m,t,e,_⟩:=x.ex;rw[e];simp
def vs_perm (h:l.Perm m):Geo.vs l=Geo.vs m:=by
 induction h with
 | nil=>rfl
 | cons x _ a=>rw[z1F,z1F,a]
 | swap x y l=>rw[z1F,z1F,z1F,z1F,zbr]
 | trans _ _ i j=>rw[i,j]
def zhG (h:List P):Geo.vs (Geo.rd h)=(0,0):=by
 unfold Geo.rd
 split
 .rfl
 .cases h with
  | nil=>rfl
  | cons a r=>rw[show (a::r)++(a::r).take 1=a::r++[a] from rfl,z9E];simp[Geo.sb]
def zdc (k:h.length≠1->h.length<=n):(Geo.rd h).length<=n:=by
 unfold Geo.rd
 split
 .simp
 .have:=zfu (h++h.take 1);simp at*;lia
def z7c (O:Wb 600 l1)(R:Wb 600 l2)(I:z04 (· ∈ l1) l1)(N:z04 (· ∈ l2) l2)(z1:l1.length<=62)(z2:l2.length<=62)(z:(Geo.rd l1).length+(Geo.rd l2).length<=62)
  (q:∀h,z04 (Sm2 l1 l2) h->(Geo.rd h).length<=(Geo.rd l1).length+(Geo.rd l2).length->Q (vecs h)):z3v.run [vecs l1,vecs l2] Q X:=by
 walk_at "fn";ac_nf;have n1:l1≠[]:=z0S I;have n2:l2≠[]:=z0S N;refine z0D (.inl rfl) O.le (by lia) λh1 x1 =>?_;obtain rfl:h1=l1:=(x1.is n1).unique I;refine z0O (Safe.of_noL (z17 _) (z18 _) _) ?_;ac_rfl;ac_nf;refine z0D (.inl rfl) R.le (by lia) λh2 x2 =>?_;obtain rfl:h2=l2:=(x2.is n2).unique N;refine z0O (Safe.of_noL (z17 _) (z18 _) _) ?_;ac_rfl;obtain⟨a,r1,C,_⟩:=I.ex;obtain⟨b,r2,e2,_⟩:=N.ex;have J:=Geo.join x1 x2 n1 n2 C e2;have c1:Wb 20000000 h1:=O.le;have c2:Wb 20000000 h2:=R.le;ac_nf;refine z19 (d:=vec a) (by rw[C];exact zcH) ?_;ac_nf;refine z19 (d:=vec b) (by rw[e2];exact zcH) ?_;refine z2t ?_;refine z0O (Safe.of_noL rfl rfl _) ?_;ac_rfl;ac_nf;refine z1A (λx hx=>by rw[wg.mp hx];exact Safe.of_noL rfl rfl _) ?_;ac_rfl;ac_nf;refine z3U (by lia) (by rw[C];simp) ?_;ac_nf;refine z3U (by lia) (by rw[e2];simp) ?_;refine z5E (zii c1) (zii c2) (by lia) (by lia) ?_;have km:=(z4u (Geo.rd h1) (Geo.rd h2)).length_eq;rw[wD] at km;have vM:Geo.vs (Geo.mg (Geo.rd h1) (Geo.rd h2))=(0,0):=by
  rw[vs_perm (z4u _ _),z8X,zhG,zhG]
  rfl
 generalize Geo.mg (Geo.rd h1) (Geo.rd h2)=M at*;ac_nf;refine z0J (f:=vec) (λg ρ=>Ee2 λH x6=>H.length=g.length+1/\(∀p,p∈H↔∃K L,g=K++L/\p=Geo.pl (Geo.pl a b) (Geo.vs K))/\ρ=[.s (vecs h1),.s (vecs h2),.s (vecs h1),.s (vecs h2),.s (vec (Geo.pl (Geo.pl a b) (Geo.vs g))),.o (.lst (H.map vec)),x6]) ⟨[Geo.pl a b],_,rfl,λp =>?_,by simp[Geo.vs,Geo.pl];rfl⟩ ?_ ?_
 .constructor
  .intro h;exact⟨[],[],rfl,by rw[wg.mp h];simp[Geo.vs,Geo.pl]⟩
  .rintro⟨K,L,e,rfl⟩;rw[(jt.mp e.symm).1];simp[Geo.vs,Geo.pl]
 .rintro g u r ρ e ⟨H,x6,U,j,rfl⟩;have hd:g.length<M.length:=by rw[e];simp
  show Sm.run _ _ _ _ _;ac_rfl;ac_nf;refine z2t ?_;refine z0O (Safe.of_noL rfl rfl _) ?_;ac_rfl;refine z4l (l:=[]) (z0w rfl ?_);ac_nf;refine⟨by rw[wd];exact szl' (by lia),Safe.of_noL rfl rfl _,?_⟩;ac_rfl;have ev:(((Geo.pl (Geo.pl a b) (Geo.vs g)).1+u.1,(Geo.pl (Geo.pl a b) (Geo.vs g)).2+u.2))=Geo.pl (Geo.pl a b) (Geo.vs (g++[u])):=by
   rw[z8X];simp[Geo.pl,Geo.vs,Int.add_assoc]
  rw[ev];refine⟨H++[Geo.pl (Geo.pl a b) (Geo.vs (g++[u]))],_,by simp[U],λp =>?_,by rw[wA];rfl⟩;rw[wB,j,wg]
  constructor
  .rintro(⟨K,L,e,rfl⟩ | rfl)
   .exact⟨K,L++[u],by rw[e,vS],rfl⟩
   .exact⟨g++[u],[],by simp,rfl⟩
  .rintro⟨K,L,e,rfl⟩
   rcases List.eq_nil_or_concat L with rfl | ⟨L',w,rfl⟩
   .rw[vk] at e;exact .inr (by rw[e])
   .rw[List.concat_eq_append, <- vS] at e;exact .inl ⟨K,L',(List.append_inj' e rfl).1,rfl⟩
 rintro ρ ⟨H,x6,U,j,rfl⟩;have i:∀p∈H,Sm2 h1 h2 p:=λp hp=>by
  obtain⟨K,L,e,rfl⟩:=(j p).mp hp;obtain⟨p,hp,q,hq,e⟩:=J.1 K L e;exact⟨p,hp,q,hq,e⟩
 ac_nf;refine z0D (l:=H) (.inr rfl) (λp hp =>?_) (by lia) λh x =>?_
 .obtain⟨u,hu,v,W,rfl⟩:=i p hp;exact⟨(Bt.add (O u hu).1 (R v W).1).le,(Bt.add (O u hu).2 (R v W).2).le⟩
 have hn:H≠[]:=λz=>by rw[z] at U;simp at U
 have y:=x.is hn;refine q h (zhf y (λp hp=>i p (y.sub p hp)) λp hp w =>?_) (zdc λn1 =>?_)
 .obtain⟨u,hu,v,W,rfl⟩:=hp;obtain⟨Y,a0,lu⟩:=I.far (I.in hu) w;obtain⟨Z,a1,lv⟩:=N.far (N.in W) w;obtain⟨K,L,e,le⟩:=J.2 Y a0 Z a1 w;refine⟨_,(j _).mpr ⟨K,L,e,rfl⟩,?_⟩;have s1:dot (Geo.pl u v) w=Geo.sc u w+Geo.sc v w:=by simp only[dot,Geo.pl,Geo.sc];grind
  have s2:Geo.sc (Geo.pl Y Z) w=Geo.sc Y w+Geo.sc Z w:=by simp only[Geo.pl,Geo.sc];grind
  have s3:dot (Geo.pl (Geo.pl a b) (Geo.vs K)) w=Geo.sc (Geo.pl (Geo.pl a b) (Geo.vs K)) w:=rfl;rw[s1,s3];lia
 .have e0:M≠[]:=λe=>by
   have:=z1V (m:=[Geo.pl a b]) y.nodup λp hp=>by
    obtain⟨K,L,e',rfl⟩:=(j p).mp (y.sub p hp);rw[e] at e';rw[(jt.mp e'.symm).1];simp[Geo.vs,Geo.pl]
   have h0:0<h.length:=w6.mpr (z0S y);simp at this;lia
  have:=z1V (m:=(List.range M.length).map λk=>Geo.pl (Geo.pl a b) (Geo.vs (M.take k))) y.nodup λp hp=>by
   obtain⟨K,L,e,rfl⟩:=(j p).mp (y.sub p hp);have C:=congrArg List.length e;rw[wD] at C;have hM:=w6.mpr e0
   rcases wW K.length M.length with z | z
   .exact we.mpr ⟨K.length,v4.mpr z,by rw[e,List.take_left]⟩
   .have:L=[]:=uM.mp (by lia);rw[this,vk] at e;exact we.mpr ⟨0,v4.mpr hM,by rw[<- e,vM];rfl⟩
  rw[wd,uf] at this;lia
noncomputable def tl (ws:List (List P × P)):Nat:=(ws.map λx=>x.1.length).sum
def z54 (ws:List (List P × P))(x:List P × P):tl (ws++[x])=tl ws+x.1.length:=by simp[tl]
def zh1 (A B n:Nat):min A n - min B n<=A - B:=by omega
def zfZ (h0:ns≠[])(hz:ns.length<=63)(q:∀ws:List (List P × P),(∀x∈ws,Wt4 x 136)->ws.length<=12->tl ws<=60->Q (.tup (ws.map wtD))):z0r.run [.lst (ns.map .int)] Q X:=by
 have hp:=w6.mpr h0;obtain⟨c0,_,e0⟩:=z4K (xs:=ns) (i:=0) (by decide) (by lia);walk_at "fn";ac_nf;refine z19 (z0P e0) ?_;ac_nf;refine menu (ns:=[3,12,10 ^ 9]) (by lia) (by show c0 / 2 % 3<3;lia) λm U =>?_;have b:0<=m/\m<=1000000000:=by
  simp only[wm,wz,vK] at U;lia
 clear U;have bm:Bt 640 m:=z0b (by lia);ac_nf;refine z1A (λx e=>by cases e) ?_;ac_rfl;ac_nf;refine z51 (λJ=>Ee5 λws a (Z x5 x6:B)=>(∀x∈ws,Wt4 x 136)/\ws.length<=12/\1<=a/\a<=100/\tl ws<a/\tl ws<=60/\J=[.s (.lst (ns.map .int)),.s (.int m),.o (.lst (ws.map wtD)),.s (.int a),Z,x5,x6]) (λJ=>(100 - nI J 3).toNat) ⟨[],1,_,_,_,λ_ z=>by(cases z),by simp,by simp,by simp,by simp[tl],by simp[tl],rfl⟩ ?_;rintro J ⟨ws,a,Z,x5,x6,r,j,a0,ha,a1,I,rfl⟩;ac_nf;rw[wd,min2];refine z0G (λh =>?_) (λh =>?_)
 .ac_nf;rw[wd];refine z0G (λM =>?_) (λM =>?_)
  .obtain⟨c,_,C⟩:=z4K (xs:=ns) (i:=a) (by lia) (by lia);ac_nf;refine z19 (z0P C) ?_;ac_nf;have W:0<=c % 12/\c % 12<12:=by lia
   generalize c % 12=sz at*;refine z19 (z0P C) ?_;ac_nf;generalize c / 12=f at*;refine zb9 b.1 b.2 λu N =>?_;ac_nf;refine z1A (λx e=>by rw[wg.mp e];exact Safe.of_noL rfl rfl _) ?_;ac_rfl;refine z4k (zl5 (z0w rfl ?_));ac_nf;rw[z2W];have key:∀L:Nat,L<=(if 61<a+(1+sz) then 61 else a+(1+sz)).toNat - ((a:Int)+1).toNat->L<=11/\L<=sz.toNat/\L<=60 - a:=λL hL=>by split at hL <;> lia
   have R:0<=(if 61<a+(1+sz) then 61 else a+(1+sz)):=by split <;> lia
   have a3:=key ((ns.drop (HT.sIx ns.length 0 (some (a+1)))).take (HT.sIx ns.length ns.length (some (if 61<a+(1+sz) then 61 else a+(1+sz))) - HT.sIx ns.length 0 (some (a+1)))).length (by rw[vh,jp,zeU (k:=(a:Int)+1) (by lia),zeU R];exact wO (j0 ..) (zh1 ..));clear key R;generalize (ns.drop (HT.sIx ns.length 0 (some ((a:Int)+1)))).take (HT.sIx ns.length ns.length (some (if 61<(a:Int)+(1+sz) then 61 else a+(1+sz))) - HT.sIx ns.length 0 (some ((a:Int)+1)))=Y at*;refine⟨by rw[wd];exact szl' (by lia),?_⟩;refine z4g (g:=vec) (P:=λ_ p=>Far 1000000000 p) (λc _ K hK =>?_) λw a2 hy =>?_
   .ac_nf;exact zb9 b.1 b.2 hK
   refine⟨by simp;exact szl (by lia),λd hd =>?_,?_⟩
   .obtain⟨y,_,rfl⟩:=we.mp hd;exact Safe.of_noL rfl rfl _
   ac_rfl;rw[show vec u::w.map vec=(u::w).map vec from rfl];refine z4k (z4l (l:=[]) (z0w rfl ?_));ac_nf;refine zjO ⟨by decide,by decide,by lia⟩ ?_;have hw:0<(2*m+1) ^ (2:Int).toNat:=by
    show 0<(2*m+1) ^ 2;exact Int.pow_pos (by lia)
   have bw:Bt 9000 ((2*m+1) ^ (2:Int).toNat):=by
    have O:Bt 40 (2*m+1):=z0b (by lia);show Bt 9000 ((2*m+1) ^ 2);rw[show (2*m+1) ^ 2=(2*m+1)*(2*m+1) by grind];exact(Bt.mul O O).le
   refine zfe hw bw ?_;ac_nf;refine zb9 b.1 b.2 λs W =>?_;ac_nf;refine⟨by rw[wd];exact szl' (by lia),Safe.of_noL (zbJ (u::w,s)) (zbK (u::w,s)) _,?_⟩;ac_rfl;ac_nf;refine⟨⟨ws++[(u::w,s)],a+(1+sz.toNat),.s (.int (1+sz)),.s (.int f),.o (.lst ((u::w).map vec)),λx e =>?_,by simp;lia,by lia,by lia,by rw[z54];simp;lia,by rw[z54];simp;lia,?_⟩,?_⟩
   .rcases wB.mp e with e | e
    .exact r x e
    .rw[wg.mp e];refine⟨λp hp =>?_,by simp,by show (u::w).length<=12;simp;lia,(W.vb (n:=30) (by decide)).le⟩
     rcases wm.mp hp with rfl | hp
     .exact(N.vb (n:=30) (by decide)).le
     .obtain⟨_,_,hf⟩:=hy p hp;exact(hf.vb (n:=30) (by decide)).le
   .rw[wA,show ((a+(1+sz.toNat):Nat):Int)=(a:Int)+(1+sz) by lia]
    rfl
   .show (100 - ((a:Int)+(1+sz))).toNat<(100 - (a:Int)).toNat
    lia
  .ac_nf;exact q ws r j I
 .ac_nf;exact q ws r j I
noncomputable def tr (x:List P × P):List P:=x.1.map (mv x.2)
abbrev MS (ws:List (List P × P)):P->Prop:=Ms (ws.map tr)
theorem zk6:∀{a:List (List P)}{p:P},(∀d∈a,Wb 150 d)->Ms a p->Vb (150+a.length) p
 | [],p,_,h=>by
  have  := h;rw[this];exact⟨Bt.le (m:=1) (z0b (by decide)),Bt.le (m:=1) (z0b (by decide))⟩
 | d::a,p,i,⟨q,j,r,l,e⟩=>by
  have f:=i d (by simp) q j;have g:=zk6 (λd b=>i d (by simp[b])) l;rw[e];exact⟨Bt.le (Bt.add f.1 g.1) (by simp;lia),Bt.le (Bt.add f.2 g.2) (by simp;lia)⟩
def zfJ (h:Wt4 x):Wb 150 (tr x):=λp b=>by
 obtain⟨v,a,rfl⟩:=we.mp b;exact⟨Bt.le (Bt.add (h.wb v a).1 h.vb.1),Bt.le (Bt.add (h.wb v a).2 h.vb.2)⟩
def zaM (ws:List (List P × P))(n:Nat):tl (ws.take n)<=tl ws:=by
 have:=congrArg tl (u5 n ws);simp only[tl,wA,j2] at this ⊢;lia
def zil (h:List P):h.length<=(Geo.rd h).length+1:=by
 unfold Geo.rd
 split
 .simp;lia
 .have:∀l,l.length<=(df l).length+1:=λl=>by
   induction l with
   | nil=>simp
   | cons a r d=>cases r with
    | nil=>simp
    | cons b r=>rw[df];simp_all
  grind
def z79 (x:z04 S h):z04 (· ∈ h) h:=x.of x.sub λ_ a=>a
def z25:Fn:=Fn.mkN 3 3 (.ret (.op pGt [.op pAdd [.op z0d [.op pIx [.v 1,.c (.int 0)],.op pIx [.v 0,.c (.int 0)]],.op z0d [.op pIx [.v 1,.c (.int 1)],.op pIx [.v 0,.c (.int 1)]]],.op z0d [.v 2,.op pIx [.v 0,.c (.int 2)]]]))
end Pu
namespace Geo
def zfE (ne:a≠b):(Qa a b p=0/\0<=dot a b p/\0<=dot b a p)↔(0<=Qa a b p/\0<=Qa b a p/\(a.1 - p.1)*(b.1 - p.1)+(a.2 - p.2)*(b.2 - p.2)<=0):=by
 obtain⟨f,g⟩:=a;obtain⟨h,i⟩:=b;obtain⟨d,e⟩:=p;simp only[Qa,dot];have q:(h - f)*(e - g) - (i - g)*(d - f)=(f - d)*(i - e) - (g - e)*(h - d):=by grind
 have r:(f - h)*(e - i) - (g - i)*(d - h) = -((f - d)*(i - e) - (g - e)*(h - d)):=by grind
 have t:(d - f)*(h - f)+(e - g)*(i - g)=((f - d)*(f - d)+(g - e)*(g - e)) - ((f - d)*(h - d)+(g - e)*(i - e)):=by grind
 have u:(d - h)*(f - h)+(e - i)*(g - i)=((h - d)*(h - d)+(i - e)*(i - e)) - ((f - d)*(h - d)+(g - e)*(i - e)):=by grind
 have o:¬ (f - d=h - d/\g - e=i - e):=λz=>ne (uc (by simp;lia) (by simp;lia));rw[q,r,t,u];generalize f - d=A at*;generalize g - e=B at*;generalize h - d=C at*;generalize i - e=E at*;clear q r t u ne;have l:∀x:Int,0<=x*x:=λx=>by
  rcases Int.le_total 0 x with z | z
  .exact wS z z
  .exact v3 z z
 constructor
 .rintro⟨y,F,G⟩;refine⟨by lia,by lia,?_⟩
  rcases uj 0 (A*C+B*E) with z | z
  .exfalso
   have j:(A*C+B*E)*(A*C+B*E)+(A*E - B*C)*(A*E - B*C)=(A*A+B*B)*(C*C+E*E):=by grind
   rw[y,uE,uH] at j;have df:(A - C)*(A - C)+(B - E)*(B - E)=(A*A+B*B)+(C*C+E*E) - 2*(A*C+B*E):=by grind
   have L:=l (A - C);have M:=l (B - E);generalize A*C+B*E=s at*;generalize A*A+B*B=m at*;generalize C*C+E*E=n at*;have H:m=s:=by
    rcases uj s m with w | w
    .have:=jC w (show 0<n by lia);have:=wH (show s<=n by lia) (show 0<=s by lia);lia
    .lia
   have K:n=s:=by
    rw[H] at j;exact(Int.eq_of_mul_eq_mul_left (by lia) j).symm
   have I:(A - C)*(A - C)=0:=by omega
   have J:(B - E)*(B - E)=0:=by omega
   have N:=wM.mp I;have O:=wM.mp J;exact o ⟨by lia,by lia⟩
  .exact z
 .rintro⟨y,F,G⟩;have:=l A;have:=l B;have:=l C;have:=l E;exact⟨by lia,by lia,by lia⟩
end Geo
namespace Pu
open PySem L2 Mth
abbrev Rs:=Int × Int × Int
abbrev pcD (x y t:Int):D :=.tup [.int x,.int y,.int t]
structure Pc (x y t:Int):Prop where
 pos:0<t
 bx:Bt 800 x
 bY:Bt 800 y
 bt:Bt 110 t
 cop:Int.gcd ((Int.gcd x y):Int) t=1
def Pl.pc {x y b u v t:Int}(h:Pl x y b u v t)(f:0<b)(d:Bt 110 b)(e:Bt 800 x)(a:Bt 800 y):Pc u v t:=by
 obtain⟨g,i,j⟩:=h.bt f d e a;exact⟨h.pos,i,j,g,h.cop⟩
def deq3 (a b c x y z:Int):deq (pcD a b c) (pcD x y z)=decide (a=x/\b=y/\c=z):=by
 show PyData.eqv (.tuple [.int a,.int b,.int c]) (.tuple [.int x,.int y,.int z])=_;simp[PyData.eqv,PyData.eqvAll]
 rfl
def Da3 (a b c:Int):Da (n+1) (pcD a b c):=Da.tup.mpr λd e=>by
 simp[wm,wz,vK] at e
 rcases e with rfl | rfl | rfl <;> exact Da.int
def zep (f:Wb 600 l)(a:Vb 700 b)(h:m∈l.map (dot · b)):Bt 1400 m:=by
 obtain⟨p,g,rfl⟩:=we.mp h;obtain⟨d,e⟩:=f p g;exact Bt.le (Bt.add (Bt.mul d a.1) (Bt.mul e a.2))
def zd6 {x y t m:Int}(pc:Pc x y t)(f:Vb 700 b)(j:Bt 1400 m)(q:Q (.bl (decide (m*t<dot (x,y) b)))):z25.run [pcD x y t,vec b,.int m] Q X:=by
 obtain⟨g,o,i,e,_⟩:=pc;obtain⟨p,r⟩:=f;walk_at "fn";ac_nf;rw[show b.1*x+b.2*y=dot (x,y) b by simp[dot];rw[vA b.1,vA b.2]];exact q
def zjY (q:Q (.bl (decide (x=y)))):pEq.run [.str x,.str y] Q X:=q
end Pu
namespace Tim
open PySem PyProof.Rows PySem.W HT
def TP (h:Heap)(v:Value)(n:Int):Prop:=∃a o b m t r,v = .ref a/\h.get? a=some o/\o.cls = .type "tuple"/\o.data = .seq b m/\b.toList=[.int n t,r]
def TP.keep {h h':Heap}{v:Value}{n:Int}(x:TP h v n)(g:∀b o,h.get? b=some o->o.cls = .type "tuple"->h'.get? b=some o):TP h' v n:=by
 obtain⟨a,o,d,m,t,r,e,i,f,j,l⟩:=x;exact⟨a,o,d,m,t,r,e,g _ _ i f,f,j,l⟩
noncomputable def keyP (h:Heap)(v:Value):Int:=match v with
 | .ref a=>match h.get? a with
  | some o=>match o.data with
   | .seq b _=>match b.toList with
    | .int n _::_=>n
    | _=>0
   | _=>0
  | none=>0
 | _=>0
def TP.key {h:Heap}{v:Value}{n:Int}(x:TP h v n):keyP h v=n:=by
 obtain⟨a,o,f,m,t,r,rfl,b,_,d,e⟩:=x;simp[keyP,b,d,e]
section
variable {prog:Program}{w:World}{A:Around}{s:Shared}
def lex1 (a b:Int):z0q [a] [b]=decide (a<b):=by
 rw[z0R]
 by_cases e:a=b
 .rw[if_pos e]
  symm
  exact wX (by omega)
 .rw[if_neg e]
def zh9 {t u:Tok}(a:n=m->r=r')(h:Q (decide (n<m)) s):KatLex prog w A b false Q ([Value.int n t,r].zip [Value.int m u,r']) 0 s:=by
 refine kat_cons (wpAny_eqBool_int ?_)
 by_cases e:n=m
 .subst e;rw[show (n == n)=true by simp];obtain rfl:=a rfl;refine kat_yes (kat_cons (SeqAt.EqAt.same r _ w _ _ (kat_yes (kat_nil ?_))))
  grind
 .rw[show (n == m)=false by simpa using e];refine kat_no ?_
  cases d:(b && 0 == 0) with
  | true=>exact oneLt_int h
  | false=>exact kat_one _ _ (lt_int h)
theorem z7L {key:Value->Int}:∀{vs:List Value},(∀v∈vs,TP h v (key v))->∃fs,KatTups h vs fs/\fs.length=vs.length/\∀f∈fs,∃n t,f = .int n t
 | [],_=>⟨[],.nil,rfl,λ_ h=>by cases h⟩
 | v::vs,d=>by
  obtain⟨fs,q,s,u⟩:=z7L (λv m=>d v (wn _ m));obtain⟨a,o,p,n,t,r,e,g,i,j,l⟩:=d v (wv ..);subst e;refine⟨.int _ t::fs,.cons g i j (by rw[<- uq,l];rfl) q,by simp[s],λf b =>?_⟩
  rcases wm.mp b with rfl | b
  .exact⟨_,_,rfl⟩
  .exact u f b
def z4P.prs {h:Heap}{vs:List Value}{key:Value->Int}(a:∀v∈vs,TP h v (key v))(inj:∀u∈vs,∀v∈vs,key u=key v->u=v):z4P prog w h vs (λv=>rkL (vs.map λv=>[key v]) [key v]):=λA s k=>by
 refine⟨tuples' true,?_,λO Q E q =>?_⟩
 .intro x d y f Q E g;rw[<- z9a (we.mpr ⟨_,d,rfl⟩) (we.mpr ⟨_,f,rfl⟩),lex1] at g;have R:=inj _ d _ f;obtain⟨K,W,C,S,Z,r1,o,r,M,l,i⟩:=(a _ d).keep k;obtain⟨L,X,F,U,t2,r2,p,z,N,m,j⟩:=(a _ f).keep k;rw[o,p];have G:C.size=2:=by rw[<- vW,i];rfl
  have H:F.size=2:=by rw[<- vW,j];rfl
  refine kat_lt r l z m ?_;rw[i,j,show decide _=false by rw[G,H];rfl];refine zh9 (λe =>?_) g
  grind
 .obtain⟨fs,I,Y,J⟩:=z7L λv b=>(a v b).keep k;refine kat_kind (T :=.type "int") I (by omega) (λv b =>?_) rfl q;obtain⟨n,t,rfl⟩:=J v b;exact Looks.now
end
end Tim
namespace Pu
open PySem PySem.Spec PyProof.Rows L2 Tab
abbrev pdD (x:Int × D):D :=.tup [.int x.1,x.2]
def zkq (d:D)(Q:DK):Prop:=∃e,d = .lst (e.map pdD)/\(e.map (·.1)).Nodup/\e.length<=63/\∀f:List (Int × D),f.Perm e->f.Pairwise (λa b=>a.1<b.1)->Q (.lst (f.map pdD))
def zfb:Fn:=fn1 zkq λd Q l m h=>by
 obtain⟨j,e,f,g,q⟩:=h;exact⟨j,e,f,g,λi a b=>m _ (q i a b)⟩
section
variable {X:Cx}
theorem zbk {G:Hp}{P:Value->Int->Prop}(g:∀b n u,SqT X.K G b [.int n,u]->P (.ref b) n):∀{e:List (Int × D)}{xs:List V}{d:List Value},RDs X.K X.mg G (e.map pdD) xs->Vals xs d->Two (λv p=>P v p.2.1/\RelV p.1 v/\RD X.K X.mg G (pdD p.2) p.1) d (xs.zip e)
 | [],xs,d,h,r=>by
  subst h
  cases r
  exact .nil
 | x::e,xs,d,h,r=>by
  obtain⟨v,vs,rfl,f,i⟩:=h
  cases r with
  | cons r1 r2=>
   refine .cons ⟨?_,r1,f⟩ (zbk g i r2);obtain⟨a,q,rfl,j,l⟩:=z1B f
   cases r1
   obtain⟨y,z,rfl,m,o⟩:=rds2 l;subst m;exact g a x.1 z j
theorem z8g {G:Hp}{P:Value->Int->Prop}:∀{a:List Value}{m:List (V × Int × D)},Two (λv p=>P v p.2.1/\RelV p.1 v/\RD X.K X.mg G (pdD p.2) p.1) a m->Vals (m.map (·.1)) a/\RDs X.K X.mg G ((m.map (·.2)).map pdD) (m.map (·.1))
 | _,_,.nil=>⟨.nil,RDs.nil⟩
 | _,_,.cons ⟨_,b,d⟩ t=>⟨.cons b (z8g t).1,RDs.cons d (z8g t).2⟩
theorem z53 {d e j:Type}{R:d->e->Prop}{f:d->j}{g:e->j}(i:∀a b,R a b->f a=g b):∀{l:List d}{m:List e},Two R l m->l.map f=m.map g
 | _,_,.nil=>rfl
 | _,_,.cons h t=>by rw[wI,wI,i _ _ h,z53 i t]
theorem zc6 {i m:Type}{f:i->m}:∀{l:List i},(l.map f).Nodup->∀u∈l,∀v∈l,f u=f v->u=v
 | a::l,h,u,j,v,g,e=>by
  rw[wI,vf] at h
  rcases wm.mp j with rfl | d
  .rcases wm.mp g with rfl | b
   .rfl
   .exact(h.1 (we.mpr ⟨v,b,e.symm⟩)).elim
  .rcases wm.mp g with rfl | b
   .simp_all
   .exact zc6 h.2 u d v b e
def zeP {h:Heap}{o:Type}{d e:List Value}{m:List o}{g:o->Int}(j:e.Perm d)(t:e.Pairwise λx y=>Tim.rkL (d.map λv=>[Tim.keyP h v]) [Tim.keyP h x]<=Tim.rkL (d.map λv=>[Tim.keyP h v]) [Tim.keyP h y])(s:e.map (Tim.keyP h)=m.map g)(i:(m.map g).Nodup):m.Pairwise λa b=>g a<g b:=by
 have n:(e.map (Tim.keyP h)).Pairwise (· <= ·):=by
  rw[wZ];refine t.imp_of_mem λ{x y} q r f =>?_;have p:=Tim.z9a (l:=d.map λv=>[Tim.keyP h v]) (we.mpr ⟨y,j.mem_iff.mp r,rfl⟩) (we.mpr ⟨x,j.mem_iff.mp q,rfl⟩);rw[Tim.lex1,wX (j5.mpr f)] at p;lia
 rw[s,wZ] at n;unfold List.Nodup at i;rw[wZ] at i;exact(n.and i).imp λ{x y} h=>by
  lia
def zaz:z0A X (.builtin "sorted") (λvs H Q=>∃(G:Hp) (a:Addr) (xs:List V) (rs:List (Int × D)),vs=[.ref a]/\Same G H/\SqL X.K G a xs/\RDs X.K X.mg G (rs.map pdD) xs/\(rs.map (·.1)).Nodup/\rs.length<=63/\
  ∀x f (L:List (Int × D)),H x=none->RDs X.K X.mg G (L.map pdD) f->L.Perm rs->L.Pairwise (λa b=>a.1<b.1)->Q (.ref x) (upd H x (.lst f))):=by
 rintro R s σ H xs us Q I rv ⟨G,a,w,rs,e,g,hs,N,J,hz,q⟩;subst e;obtain⟨u,rfl,rx⟩:=z30 rv
 cases rx
 obtain⟨d,r,pl,_⟩:=I.list (z1o g hs);have j:=zbk (P:=λv n=>Tim.TP s.heap v n) (λb n u h=>by
  obtain⟨a1,r',⟨o,ho,Y,m,Z⟩,_⟩:=I.tuple (z0H g h)
  cases r' with
  | cons r1 r2=>
   obtain⟨t,rfl⟩:=r1
   cases r2 with
   | cons r3 r4=>
    cases r4
    exact⟨b,o,_,m,t,_,rfl,ho,Y,Z,rfl⟩) N r
 have i:d.map (Tim.keyP s.heap)=(w.zip rs).map (·.2.1):=z53 (λv p h=>h.1.key) j;have l:w.length=rs.length:=by rw[N.len,wd]
 have U:(w.zip rs).map (·.2.1)=rs.map (·.1):=by
  rw[show ((w.zip rs).map (·.2.1))=((w.zip rs).map (·.2)).map (·.1) by rw[wP];rfl,List.map_snd_zip (by lia)]
 have A:∀v∈d,Tim.TP s.heap v (Tim.keyP s.heap v):=λv E=>by
  obtain⟨p,_,y,_⟩:=j.mem_left E;rw[y.key];exact y
 have inj:∀u∈d,∀v∈d,Tim.keyP s.heap u=Tim.keyP s.heap v->u=v:=λu hu v E e=>by
  rw[U] at i;rw[<- i] at J;exact zc6 J u hu v E e
 have a0:d.length=rs.length:=by rw[<- r.length,l]
 refine Tim.z5a λE' =>?_;refine collect_list (vs:=d) (by simpa using pl.isList) ?_ (by lia);have keep:∀b o,s.heap.get? b=some o->((s.heap.push (seqObj "list" #[] 0)).update s.heap.objs.size (Obj.mapSeq (· ++ d.toArray))).get? b=some o:=λb o z=>by
  rw[Heap.get?_update_ne _ _ _ _ (wJ (wu z))];exact wf _ z
 refine⟨_,by lia,(Tim.z4P.prs A inj).keep keep,λf O p2 h' kp C =>?_⟩;obtain⟨e,C⟩:=C;obtain⟨m,S,T⟩:=j.perm O.symm;obtain⟨v1,v2⟩:=z8g T;have M:s.heap.get? ((s.heap.push (seqObj "list" #[] 0)).update s.heap.objs.size (Obj.mapSeq (· ++ d.toArray))).objs.size=none:=by
  cases z:s.heap.get? ((s.heap.push (seqObj "list" #[] 0)).update s.heap.objs.size (Obj.mapSeq (· ++ d.toArray))).objs.size with
  | none=>rfl
  | some o=>exact absurd (wu (keep _ _ z)) (vV _)
 have perm:(m.map (·.2)).Perm rs:=by
  have:=(S.map (·.2)).symm
  rwa [List.map_snd_zip (by lia)] at this
 have F:(m.map (·.1)).length<=sizeLine:=by
  have y:=S.length_eq;have W:=perm.length_eq;rw[wd] at W ⊢;exact wO (show m.length<=64 by lia) (by decide)
 refine⟨.ref _,upd H _ (.lst (m.map (·.1))),I.laid' (o :=.lst (m.map (·.1))) (t':=s.toks) (λb o z=>kp b o (keep b o z)) M ⟨F,f,e,v1,C⟩,rfl,q _ _ _ (I.hok.none_of M) v2 perm ?_⟩;refine wZ.mpr (zeP (h:=s.heap) (g:=λp:V × Int × D=>p.2.1) O p2 (z53 (λv p h=>h.1.key) T) ?_);have:=perm.map (·.1);rw[wP] at this;exact this.nodup_iff.mpr J
def zex:z0A X (.builtin "sorted") (rNf X.K X.mg zfb):=zaz.imp <| by
 rintro vs H Q ⟨G,x,Q0,w,g,rds,j,i⟩;obtain⟨d,rfl,b⟩:=z1t j;obtain⟨v,rfl,rd⟩:=rds1 rds;obtain⟨t,rfl,n,m,q⟩:=b;obtain⟨a,u,rfl,e,f⟩:=z1Y rd;exact⟨G,a,u,t,rfl,g,e,f,n,m,λD o s h l p r=>i.newL g h (q s p r) l⟩
end
end Pu
namespace Idx
open PySem PySem.Spec PyProof.Rows SeqAt
def zhF {M:Model}{A:Around}{E:WvP}{s:Shared}{g:Type}{hi:Nat}(f:Nat->g->Sem (ForInStep g))(J:Nat->g->Shared->Prop)(Q:g->Shared->Prop){b:g}
  (step:∀i b s,i<hi->J i b s->wpAny M A (f i b) (λr s'=>match r with | .yield d=>J (i+1) d s' | .done d=>Q d s') E s)
  (last:∀b s,J hi b s->Q b s) (h:J 0 b s):wpAny M A (forIn [:hi] b f) Q E s:=by
 rw[Std.Legacy.Range.forIn_eq_forIn_range'];have sz:([:hi]).size=hi:=by simp_all
 rw[sz];refine jo f (λa b s=>∃i,i<=hi/\a=List.range' i (hi - i)/\J i b s) Q ?_ ?_ _ b ⟨0,by omega,rfl,h⟩
 .rintro x a b s ⟨i,m,e,l⟩
  rcases wW i hi with z | z
  .rw[show hi - i=hi - (i+1)+1 by omega] at e;obtain⟨rfl,rfl⟩:=List.cons.inj e;refine vH (step x b s z l) (λr s' n =>?_) λ_ _ j=>j
   cases r with
   | yield d=>grind
   | done d=>exact n
  simp_all
 grind
def zhK (l:Addr)(a:Array Value)(n:Nat)(u:Option Addr)(sl:Array (Option Value))(x:Value)(e:Value->Bool)(j:Nat)(K:j<a.size)(q:e a[j]=true)(r:∀m L,m<j->e a[m]=false):
  Meets (Builtin.«tuple.index» ⟨[.ref l,x],[]⟩) (λA R s=>s.heap.get? l=some { cls :=.type "tuple",dict:=u,data :=.seq a n,slots:=sl }/\(∀y,y∈a->EqAt A.in1 s y x (e y))/\R (.ok (.ret (.int j s.toks))) { s with toks:=s.toks+1 }):=
 .of_wp λo w A R s h=>by
  obtain⟨G,g,d,I,H⟩:=s;obtain⟨F,E,h⟩:=h
  wp_walk using jd F,zhF _ (λi b t=>Aa3 (b.1=none) (t=⟨G,g,d,I,H⟩) (i<=j)) _
  case step=>
   rintro i b t J ⟨C,rfl,p⟩;have f:i<a.size:=by omega
   rw[uC f];refine wc (E a[i] (Array.getElem_mem f) o w _ _ ?_)
   rcases wW i j with z | z
   .rw[r i f z]
    wp_walk
    exact⟨rfl,rfl,z⟩
   .obtain rfl:i=j:=by omega
    rw[q]
    wp_walk
    exact⟨_,rfl,h⟩
  case last=>
   rintro b t ⟨C,rfl,p⟩;omega
  case h=>exact⟨rfl,rfl,by omega⟩
end Idx
namespace Pu
open PySem PySem.Spec PyProof.Rows L2 Tab
section
variable {X:Cx}{G H:Hp}
def z4I (b a:D)(Q:DK):Prop:=match b with
 | .tup l=>Da 60 a/\(∀d∈l,Da 60 d)/\(∃d∈l,deq d a=true)/\∀(i:Nat) d,l[i]? = some d->deq d a=true->(∀j e,j<i->l[j]? = some e->deq e a=false)->Q (.int i)
 | _=>False
def z8I (a b:D)(Q Q':DK)(m:∀d,Q d->Q' d)(h:z4I a b Q):z4I a b Q':=by
 unfold z4I at h ⊢
 split at h
 .exact⟨h.1,h.2.1,h.2.2.1,λi d e f g=>m _ (h.2.2.2 i d e f g)⟩
 omega
def zbz:Fn:=fn2 z4I z8I
open Classical in
theorem z5w {d:Type}(f:d->Bool):∀(l:List d),(∃x∈l,f x=true)->∃(i:Nat) (x:d),l[i]? = some x/\f x=true/\∀(j:Nat) (y:d),j<i->l[j]? = some y->f y=false
 | [],⟨x,b,_⟩=>by cases b
 | a::l,⟨x,b,h⟩=>by
  cases g:f a with
  | true=>exact⟨0,a,rfl,g,λj y p=>by omega⟩
  | false=>
   rcases wm.mp b with rfl | b
   .rw[g] at h;cases h
   .obtain⟨i,y,m,n,o⟩:=z5w f l ⟨x,b,h⟩;refine⟨i+1,y,by rw[uO];exact m,n,λj z p e =>?_⟩
    cases j with
    | zero=>rw[jn] at e;cases e;exact g
    | succ j=>exact o j z (by omega) (by rwa [uO] at e)
def zg4 (X:Cx):V->List V->Hp->VK->Prop:=λx g H Q=>∃(G:Hp) (a:Addr) (f:List V) (l:List D) (d:D) (v:V),x = .ref a/\g=[v]/\Same G H/\SqT X.K G a f/\RDs X.K X.mg G l f/\RD X.K X.mg G d v/\Da 60 d/\(∀e∈l,Da 60 e)/\(∃e∈l,deq e d=true)/\
 ∀(i:Nat) e,l[i]? = some e->deq e d=true->(∀j b,j<i->l[j]? = some b->deq b d=false)->Q (.int i) H
def z5N (hu:X.A.units+64<cLine):MtR X "tuple.index" (zg4 X):=by
 rintro N s σ H x xs v us Q I rx rs ⟨G,a,ys,l,d,w,T,U,g,hT,J,hd,W,Y,Z,q⟩;subst T;subst U
 cases rx
 obtain⟨u,rfl,ru⟩:=rs.one;obtain⟨b,O,pl,_⟩:=I.tuple (z0H g hT);obtain⟨e,q1,_,q2⟩:=z8a I g hu hd ru W Y J O;obtain⟨⟨R,S,t,sl⟩,K,C,n,f⟩:=id pl;simp only at C f;subst C f;obtain⟨i,x,j,L,h⟩:=z5w (λe=>deq e d) l Z;have il:i<l.length:=by
  rcases wW i l.length with z | z
  .exact z
  .rw[uF z] at j;cases j
 have len:b.length=l.length:=by rw[<- O.length,J.len]
 have E:i<b.toArray.size:=by simpa[len] using il
 have val:∀(m:Nat) o y,l[m]? = some y->e b.toArray[m]=deq y d:=λm o y r=>q2 m _ y (by rw[wo (by simpa using o)];simp) r;refine call_meets PySem.F.slot_tuple_index ⟨_,K,rfl⟩ PySem.F.entry_tuple_index (PySem.F.args_tuple_index_2 _ _) (Idx.zhK a b.toArray n S sl u e i E ((val i E x j).trans L) λm o p =>?_) ⟨K,λy r=>q1 y (by simpa using r),?_⟩
 .have M:m<l.length:=by omega
  rw[val m o _ (wo M)];exact h m _ p (wo M)
 .exact⟨.int i,H,I.tok _,⟨_,rfl⟩,q i x j L h⟩
end
section
variable {X:Cx}{E:XK}{o e:Expr}{apos cpos:Pos}{i j:Nat}
def tBMT (K:W.Frag)(r:V->List V->Hp->VK->Prop)(f:TE)(t:TA):TE:=λd H Q=>f d H λx b=>(∃p a,x = .ref p/\SqT K b p a)/\t d b λa e=>r x a e Q
def zj0 {id:String}{name:Str}{r:V->List V->Hp->VK->Prop}{w:TE}{n:TA}(g:Slot "tuple" name id)(l:typeOf (.builtin id)=pure (.type "method_descriptor"))(L:MtR X id r)(M:QE X o w)(J:QA X [e] n)
  (b:autoParam (aB o name X) jA1)
  (f:autoParam (aG cpos [e] X) jA1)
  (d:autoParam (aL apos cpos) jA1) (N:autoParam (sE e [] X) jA1) (i:autoParam (bT cpos [] X) jA1):
  QE X (.Call (.Attribute o name apos) [e] [] cpos) (tBMT X.K r w n):=⟨by
 intro u s m H Q I h;refine wpAny_Call_method_late b f d rfl (thn (M.p _ s m H _ I h) λv U Z =>?_);obtain⟨x,y,j,r1,⟨p,xs,ex,t⟩,S⟩:=Z;subst ex
 cases r1
 obtain⟨O,_,⟨R,E,G,_⟩,_⟩:=j.tuple t;refine⟨"tuple",id,PySem.F.plainAttrs_tuple,g,l,⟨R,E,G⟩,λa C =>?_,?_⟩
 .cases C
  exact j.tupNoD t
 have q:=J.p cpos _ U m y _ j S;rw[N] at q ⊢;refine uU (by rfl) (Calls.evalArgs_plain ?_);exact thn q λY W ⟨vs,z,A,r2,T⟩=>L _ W m z (.ref p) vs _ Y Q A rfl r2 T⟩
set_option tactic.hygienic true in
def za3 (hu:X.A.units+64<cLine)(ho:QX X E o (.v i))(ha:QXA X E [e] [.v j])
  (s:autoParam (aB o "index" X) jA1)
  (u:autoParam (aG cpos [e] X) jA1)
  (t:autoParam (aL apos cpos) jA1) (hs:autoParam (sE e [] X) jA1) (h:autoParam (bT cpos [] X) jA1):
  QX X E (.Call (.Attribute o "index" apos) [e] [] cpos) (.op zbz [.v i,.v j]):=
 QE.imp (zj0 PySem.F.slot_tuple_index PySem.F.type_tuple_index (z5N hu) ho ha s u t hs h) <| by
  rintro σ H Q ⟨G,p,Q0,K,g,L,hr,hk,S⟩;have b:onV (p.get i) _:=hr
  cases C:p.get i with
  | none=>rw[C] at b;exact b.elim
  | some d=>
   rw[C] at b
   cases I:p.get j with
   | none=>
    have f:onV (p.get j) (λr=>z4I d r Q0):=b;rw[I] at f;exact f.elim
   | some r=>
    have f:onV (p.get j) (λr=>z4I d r Q0):=b;rw[I] at f;have m:z4I d r Q0:=f;refine⟨G,p,λc=>c=d,K,g,L,(by show onV (p.get i) _;rw[C];exact rfl),?_,S⟩;rintro c v W H1 rfl N O g3 rd;unfold z4I at m
    split at m
    .rename_i l
     obtain⟨h1,h2,h3,q⟩:=m;obtain⟨a,U,rfl,R,hl⟩:=z1B rd;refine⟨⟨a,U,rfl,z0H O R⟩,W,p,λM=>M=[r],K,O,L.same N.1,(by show onV (p.get j) _;rw[I];exact rfl),?_,S.same g3⟩;rintro M vs J Y rfl y T k3 rds;obtain⟨w,rfl,z⟩:=rds1 rds;exact⟨J,a,U,l,r,w,rfl,rfl,T,z0H y.1 R,hl.same y.1,z,h1,h2,h3,λn c Z e2 e3=>hk _ _ J Y (q n c Z e2 e3) (N.trans g3 y) T (z02 g3 k3) RD.int'⟩
    .exact m.elim
end
section
variable {X:Cx}
theorem z9J (f:Nat->Int):∀k,argBest (λi j=>decide (f i<f j)) k<=k/\∀j,j<=k->f (argBest (λi j=>decide (f i<f j)) k)<=f j
 | 0=>⟨wt _,λj h=>by rw[show j=0 by lia];exact uQ _⟩
 | k+1=>by
  obtain⟨a,b⟩:=z9J f k;rw[argBest]
  grind
def zcA (hc:X.calm=true):z0A X (.builtin "min") (λvs H Q=>∃G a ns,vs=[.ref a]/\Same G H/\SqT X.K G a (ns.map V.int)/\ns≠[]/\∀m,m∈ns->(∀x∈ns,m<=x)->Q (.int m) H):=by
 rintro O s σ H xs us Q I rv ⟨G,a,ns,e,g,Z,r,q⟩;subst e;obtain⟨u,rfl,rx⟩:=z30 rv
 cases rx
 have hh:X.A.handled=none:=I.ok.hd hc;obtain⟨a1,rr,pl,_⟩:=I.tuple (z0H g Z);obtain⟨l,rfl,L⟩:=z52 ns rr;have a0:l.length=ns.length:=by rw[<- L,wd]
 have N:0<ns.length:=w6.mpr r;obtain⟨o,M,f,n,hd⟩:=id pl;have F:a<s.heap.objs.size:=wu M;have val:∀i v,(l.map λp=>Value.int p.1 p.2).toArray[i]? = some v->∃t,v = .int ((ns[i]?).getD 0) t/\i<ns.length:=λi v e=>by
  have d:(l.map λp=>Value.int p.1 p.2)[i]? = some v:=by simpa using e
  rw[wK] at d
  cases z:l[i]? with
  | none=>rw[z] at d;cases d
  | some p=>
   rw[z] at d
   cases d
   have h:i<l.length:=by
    rcases wW i l.length with w | w
    .exact w
    .rw[uF w] at z;cases z
   exact⟨p.2,by rw[<- L,wK,z];rfl,by lia⟩
 have W:=(Walks.tuple (prog:=X.prog) (w:=X.w) (A:=X.A.in1) (show X.A.in1.handled=none from by simp[hh]) s.heap.objs.size a (wJ F) (l.map λp=>Value.int p.1 p.2).toArray).toS;refine call_min_walkS (u4 pl ⟨_,_,_,_,_,_,_,λi j=>decide ((ns[i]?).getD 0<(ns[j]?).getD 0),rfl,W,⟨⟨_,wp _ rfl,rfl,rfl⟩,⟨o,wf _ M,f,n,hd⟩⟩,λb J =>?_,by simp;lia,?_,λv s' pv mv =>?_⟩)
 .rw[v5];simp only[wm,wz,vK] at J
  rcases J with e | e
  .rw[e];exact uK _
  .rw[e];exact ud F
 .intro i j x y s1 Q1 E1 px py q1;obtain⟨t,rfl,_⟩:=val i x px;obtain⟨t',rfl,_⟩:=val j y py;exact lt_int q1
 .obtain⟨t,rfl,h⟩:=val _ v pv;obtain⟨h',Y,R,E,C⟩:=s';have T:Y=s.gens:=mv.gens;have S:R=s.drawn:=mv.drawn;have U:C=s.os:=mv.os;subst T;subst S;subst U;refine⟨.int _,H,I.kept (t':=E) λb o e=>mv.heap b o ?_ (wf _ e),⟨t,rfl⟩,q _ ?_ λx hx =>?_⟩
  .simp only[wg];exact wJ (wu e)
  .rw[wo h];exact jK h
  .obtain⟨j,hj,rfl⟩:=vi.mp hx;have:=(z9J (λi=>(ns[i]?).getD 0) ((l.map λp=>Value.int p.1 p.2).toArray.size - 1)).2 j (by simp;lia);simpa[wo hj] using this
def zmc (d:D)(Q:DK):Prop:=∃a,d = .tup (a.map .int)/\a≠[]/\∀m,m∈a->(∀x∈a,m<=x)->Q (.int m)
def zjr:Fn:=fn1 zmc λd Q i m ⟨h,e,f,g⟩=>⟨h,e,f,λk a b=>m _ (g k a b)⟩
theorem z8o:∀{ns:List Int}{vs:List V}{K:W.Frag}{mg:WmP}{G:Hp},RDs K mg G (ns.map D.int) vs->vs=ns.map V.int
 | [],vs,K,mg,G,h=>by
  exact h
 | n::ns,vs,K,mg,G,h=>by
  obtain⟨x,r,rfl,a,b⟩:=h;rw[a,z8o b]
  rfl
def zhp (l:X.calm=true):z0A X (.builtin "min") (rN X.K X.mg zjr):=(zcA l).imp <| by
 rintro vs H Q ⟨G,s,Q0,r,g,rds,o,n⟩;obtain⟨d,rfl,e⟩:=z1t o;obtain⟨v,rfl,rd⟩:=rds1 rds;obtain⟨p,rfl,b,q⟩:=e;obtain⟨a,t,rfl,f,h⟩:=z1B rd;rw[z8o h] at f;exact⟨G,a,p,rfl,g,f,b,λm i j=>n.now g (q m i j) RD.int'⟩
def zcy (y:X.calm=true):z0A X (.builtin "sum") (λvs H Q=>∃(G:Hp) (a:Addr) (ns:List Int),vs=[.ref a]/\Same G H/\SqT X.K G a (ns.map V.int)/\Q (.int ns.sum) H):=by
 rintro t s W H U T Q I N ⟨G,a,ns,e,g,x,q⟩;subst e;obtain⟨u,rfl,O⟩:=z30 N
 cases O
 have E:X.A.handled=none:=I.ok.hd y;obtain⟨L,M,pl,_⟩:=I.tuple (z0H g x);obtain⟨l,rfl,m⟩:=z52 ns M;have J:l.length=ns.length:=by rw[<- m,wd]
 obtain⟨o,r,f,n,C⟩:=id pl;have h:a<s.heap.objs.size:=wu r;refine call_sum_walkG (u4 pl ⟨_,_,_,_,_,_,λi=>ns.getD i 0,rfl,Walks.tuple (prog:=X.prog) (w:=X.w) (A:=X.A.in1) (show X.A.in1.handled=none from by simp[E]) s.heap.objs.size a (wJ h) (l.map λp=>Value.int p.1 p.2).toArray,⟨⟨_,wp _ rfl,rfl,rfl⟩,⟨o,wf _ r,f,n,C⟩⟩,λb j =>?_,λi v e =>?_,λS R t' F =>?_⟩)
 .rw[v5];simp only[wm,wz,vK] at j
  rcases j with e | e
  .rw[e];exact uK _
  .rw[e];exact ud h
 .have d:(l.map λp=>Value.int p.1 p.2)[i]? = some v:=by simpa using e
  rw[wK] at d
  cases z:l[i]? with
  | none=>rw[z] at d;cases d
  | some p=>
   rw[z] at d
   cases d
   exact⟨p.2,by dsimp only;rw[ug, <- m,wK,z];rfl⟩
 .refine⟨.int _,H,I.kept (t':=R) λb o e=>F b o ?_ (wf _ e),⟨t',rfl⟩,?_⟩
  .simp only[wg];exact wJ (wu e)
  .rw[preSum_getD,uk (by simp;lia)];exact q
def zmb (d:D)(Q:DK):Prop:=∃a:List Int,d = .tup (a.map .int)/\Q (.int a.sum)
def zjq:Fn:=fn1 zmb λd Q b m ⟨a,e,h⟩=>⟨a,e,m _ h⟩
def zho (h:X.calm=true):z0A X (.builtin "sum") (rN X.K X.mg zjq):=(zcy h).imp <| by
 rintro vs H Q ⟨G,n,Q0,m,g,rds,j,i⟩;obtain⟨d,rfl,b⟩:=z1t j;obtain⟨v,rfl,rd⟩:=rds1 rds;obtain⟨l,rfl,q⟩:=b;obtain⟨a,o,rfl,e,f⟩:=z1B rd;rw[z8o f] at e;exact⟨G,a,l,rfl,g,e,i.now g q RD.int'⟩
end
end Pu
namespace Pu
open PySem L2
def z1l:Fn:=Fn.mkN 2 4 (.seq (.for_ [] (.tp [2,3]) (.op z1I [.v 0]) (.ifs (.op z25 [.v 1,.v 2,.v 3]) (.ret (.v 2)) .skip))
 (.ret (.c .non)))
def z3u:Fn:=Fn.mkN 2 2 (.ret (.op pTup [.op pSub [.op pIx [.v 1,.c (.int 0)],.op z0d [.op pIx [.v 0,.c (.int 0)],.op pIx [.v 1,.c (.int 2)]]],.op pSub [.op pIx [.v 1,.c (.int 1)],.op z0d [.op pIx [.v 0,.c (.int 1)],.op pIx [.v 1,.c (.int 2)]]]]))
def z2p:Fn:=Fn.mkN 2 5 (.seq (.set 2 (.op z0v [.op pIx [.v 0,.c (.int 0)],.op pIx [.v 0,.c (.int 1)]]))
 (.seq (.set 3 (.op z0d [.op z10 [.v 2,.v 2],.op pIx [.v 1,.c (.int 2)]]))
 (.seq (.set 4 (.op z10 [.op z3u [.op pIx [.v 0,.c (.int 0)],.v 1],.v 2]))
 (.ret (.op pTup [.op pSub [.v 3,.v 4],.v 4])))))
def z0F:Fn:=Fn.mkN 2 8 (.seq (.set 2 (.op z0v [.op pIx [.v 0,.c (.int 0)],.op pIx [.v 0,.c (.int 1)]]))
 (.seq (.set 3 (.op z0v [.op pIx [.v 0,.c (.int 0)],.op pIx [.v 0,.c (.int 2)]]))
 (.seq (.set 4 (.op z3u [.op pIx [.v 0,.c (.int 0)],.v 1]))
 (.seq (.set 5 (.op z0d [.op z1q [.v 2,.v 3],.op pIx [.v 1,.c (.int 2)]]))
 (.seq (.set 6 (.op z1q [.v 4,.v 3]))
 (.seq (.set 7 (.op z1q [.v 2,.v 4]))
 (.ret (.op pTup [.op pSub [.op pSub [.v 5,.v 6],.v 7],.v 6,.v 7]))))))))
def z1h:Fn:=Fn.mkN 2 4 (.seq (.set 2 (.c (.int 2)))
 (.seq (.set 3 (.sl (.v 0) none (some (.c (.int 3)))))
 (.seq (.wh (.op pLt [.op zjr [.op z0F [.v 3,.v 1]],.c (.int 0)]) (.seq (.set 2 (.op pAdd [.v 2,.c (.int 1)]))
 (.set 3 (.op pTup [.op pIx [.v 0,.c (.int 0)],.op pIx [.v 0,.op pSub [.v 2,.c (.int 1)]],.op pIx [.v 0,.v 2]]))))
 (.ret (.v 3)))))
def z24:Fn:=Fn.mkN 2 3 (.seq (.ifs (.op pEq [.v 1,.c (.int 0)]) .never .skip)
 (.seq (.set 2 (.op z0e [.v 1,.v 0]))
 (.seq (.ifs (.op pLt [.v 1,.c (.int 0)]) (.set 2 (.op pNeg [.v 2])) .skip)
 (.ret (.op pTup [.op z1G [.v 0,.v 2],.op z1G [.v 1,.v 2]])))))
def z0T:Fn:=Fn.mkN 3 5 (.seq (.set 3 (.op zjq [.v 2]))
 (.seq (.set 4 (.comp 2 [3,0] (.tp [0,1]) (.op za9 [.v 1,.v 2]) (some (.op pGt [.v 1,.c (.int 0)])) (.op pTup [.op zbz [.v 3,.v 0],.op z24 [.v 1,.v 2]])))
 (.ret (.op z0Q [.op zfb [.v 4]]))))
def z2T:Fn:=Fn.mkN 2 6 (.seq (.set 2 (.op z09 [.v 0]))
 (.seq (.set 3 (.op z1l [.v 2,.v 1]))
 (.seq (.ifs (.op z7s [.v 3,.c .non]) (.ret (.op pTup [.c (.str "barred"),.v 3])) .skip)
 (.seq (.set 4 (.v 2))
 (.seq (.set 5 (.op pTup [.c (.int 1)]))
 (.seq (.ifs (.op pEq [.op pLen [.v 2],.c (.int 2)]) (.set 5 (.op z2p [.v 4,.v 1])) .skip)
 (.seq (.ifs (.op pGt [.op pLen [.v 2],.c (.int 2)]) (.seq (.set 4 (.op z1h [.v 2,.v 1]))
 (.set 5 (.op z0F [.v 4,.v 1]))) .skip)
 (.ret (.op pTup [.c (.str "sailed"),.op z0T [.v 0,.v 4,.v 5]])))))))))
end Pu
namespace Geo
def zbM {a b c d:Int}(g:0<a)(h:0<=b)(i:c<0)(j:0<=d)(e:a*b=c*d):d=0:=by
 have l:=wS (wC g) h;have m:=vF (wC i) j;have f:c*d=0:=by lia
 rcases wM.mp f with z | z
 .lia
 .exact z
def sqp {a b:Int}(h:¬ (a=0/\b=0)):0<a*a+b*b:=by
 have d:∀x:Int,0<=x*x:=λx=>by
  rcases Int.le_total 0 x with z | z
  .exact wS z z
  .exact v3 z z
 have e:=d a;have f:=d b
 rcases uJ (Int.add_nonneg e f) with z | z
 .exact z
 .exfalso
  have g:a*a=0:=by omega
  have i:b*b=0:=by omega
  have j:=wM.mp g;have l:=wM.mp i;exact h ⟨by lia,by lia⟩
def zk1 {a b o c:P}(j:Edge S a b)(l:Edge S o c)(K:a≠o)(L:b≠o):0<Qa a b o:=by
 rcases uJ (j.left o l.sa) with z | z
 .exact z
 exfalso
 have z:=z.symm;have bt:=j.btw o l.sa z;have R:=((zfE j.ne).mp ⟨z,bt.1,bt.2⟩).2.2;have N:=l.left a j.sa;have O:=l.left b j.sb;have G:=l.btw a j.sa;have H:=l.btw b j.sb;have Q:=l.ne;obtain⟨r,s⟩:=a;obtain⟨t,u⟩:=b;obtain⟨m,n⟩:=o;obtain⟨I,J⟩:=c;simp only[Qa,dot] at z R N O G H;have x:¬ (r - m=0/\s - n=0):=λw=>K (uc (by simp;lia) (by simp;lia));have y:¬ (t - m=0/\u - n=0):=λw=>L (uc (by simp;lia) (by simp;lia));have A:¬ (I - m=0/\J - n=0):=λw=>Q (uc (by simp;lia) (by simp;lia));have T:(r - m)*(u - n) - (s - n)*(t - m)=0:=by rw[<- z];grind
 clear z K L Q bt j l;generalize r - m=d at*;generalize s - n=e at*;generalize t - m=h at*;generalize u - n=i at*;generalize I - m=f at*;generalize J - n=g at*;have U:=sqp x;have V:=sqp y;have C:=sqp A;have p:(d*h+e*i)*(d*h+e*i)+(d*i - e*h)*(d*i - e*h)=(d*d+e*e)*(h*h+i*i):=by grind
 have q:(d*d+e*e)*(f*i - g*h)=(d*h+e*i)*(f*e - g*d)+(d*i - e*h)*(f*d+g*e):=by grind
 have M:(d*d+e*e)*(h*f+i*g)=(d*h+e*i)*(d*f+e*g) - (d*i - e*h)*(f*e - g*d):=by grind
 have W:(d*f+e*g)*(d*f+e*g)+(f*e - g*d)*(f*e - g*d)=(d*d+e*e)*(f*f+g*g):=by grind
 rw[T,uE,uH] at p q;rw[T,uE,Int.sub_zero] at M;have UV:=w5 U V;have neg:d*h+e*i<0:=by
  rcases uJ R with w | w
  .exact w
  .rw[w] at p;lia
 have E:f*e - g*d=0:=zbM U O neg N q;have F:f*i - g*h=0:=by
  rw[E,Int.mul_zero] at q
  rcases wM.mp q with w | w
  .lia
  .exact w
 have X:=(G E).1;have Y:=(H F).1;have Z:d*f+e*g=0:=zbM U Y neg X M;rw[E,Z] at W;have:=w5 U C;lia
def Qb (a b:P)(x y t:Int):Int:=(b.1 - a.1)*(y - a.2*t) - (b.2 - a.2)*(x - a.1*t)
def zcj (a b:P)(x y t:Int):Qb b a x y t = -Qb a b x y t:=by simp[Qb];grind
def z7W (f:h.Nodup)(a:i<h.length)(b:j<h.length)(ne:i≠j):cy h i≠cy h j:=λe=>by
 have g:=z0X (h:=h) (i:=i) (by lia);have l:=z0X (h:=h) (i:=j) (by lia);rw[wV a] at g;rw[wV b] at l;have d:h[i]=h[j]:=by
  simp_all
 rcases Nat.lt_or_gt_of_ne ne with z | z
 .exact(vN.mp f i j a b z) d
 .exact(vN.mp f j i b a z) d.symm
def zem (x:z04 S h){k:Nat}(a:1<=k)(b:k+1<h.length):0<Qa (cy h k) (cy h (k+1)) (cy h 0):=
 zk1 (z2V x (by lia) k) (z2V x (by lia) 0) (z7W x.nodup (by lia) (by lia) (by lia)) (z7W x.nodup (by lia) (by lia) (by lia))
end Geo
namespace Pu
open PySem L2 Mth
def cyw (b:h≠[])(a:Wb n h)(k:Nat):Vb n (Geo.cy h k):=a _ (ww (z0X (w6.mpr b)))
def zaX (i:h≠[])(g:Wb 600 h)(a:s∈z06 h):Vb 700 s.1:=by
 unfold z06 at a
 split at a
 .obtain⟨b,d,rfl⟩:=we.mp a;unfold ways at d;simp[wm,wz,vK] at d
  rcases d with rfl | rfl | rfl | rfl <;> exact⟨Bt.le (m:=1) (z0b (by dsimp only;decide)),Bt.le (m:=1) (z0b (by dsimp only;decide))⟩
 .obtain⟨j,_,a⟩:=List.mem_flatMap.mp a;obtain⟨l,n⟩:=cyw i g (j+h.length - 1);obtain⟨o,p⟩:=cyw i g j;have e:Bt 601 _:=Bt.le (Bt.sub o l);have f:Bt 601 _:=Bt.le (Bt.sub p n)
  rcases wm.mp a with rfl | a
  .exact⟨f.le,Bt.le (Bt.neg e)⟩
  .split at a
   .rw[wg.mp a];exact⟨e.le,f.le⟩
   .cases a
def Wthn (h:List P)(x y t:Int):Prop:=∀s∈z06 h,dot (x,y) s.1<=dot s.2 s.1*t
def zbc {l h:List P}{x y t:Int}(i:z04 (· ∈ l) h)(o:Wb 600 h)(Y:h.length<=62)(pc:Pc x y t)
  (N:∀b,b≠(0,0)->Vb 700 b->(∀p∈l,dot p b*t<dot (x,y) b)->Q (vec b)) (O:Wthn h x y t->Q .non):z1l.run [vecs h,pcD x y t] Q X:=by
 obtain⟨m,tl,M,_⟩:=i.ex;have w:h≠[]:=by rw[M];simp
 walk_at "fn";ac_nf;refine z4j (.inl rfl) o.le w (by lia) λh' u =>?_;have j:z04 (· ∈ h) h:=i.of (λp hp=>i.sub p hp) λp hp=>hp;obtain rfl:h'=h:=(u.is w).unique j;ac_nf;refine z0J (f:=zcZ) (λL K=>Ee2 λ(I J)=>(∀s∈L,dot (x,y) s.1<=dot s.2 s.1*t)/\K=[.s (vecs h'),.s (pcD x y t),I,J]) ⟨_,_,by simp,rfl⟩ ?_ ?_
 .rintro L s r K e ⟨I,J,q,rfl⟩;have C:s∈z06 h':=by rw[e];simp
  have sb:=zaX w o C;obtain⟨U,W⟩:=z3S i C;refine⟨rfl,?_⟩;show Sm.run _ _ _ _ _;unfold z0l z0l z0l;ac_rfl;ac_nf;refine zd6 pc sb (zep o sb (we.mpr ⟨s.2,U,rfl⟩)) ?_;refine z0G (λz =>?_) (λz =>?_)
  .ac_nf;refine N s.1 (zaW i C) sb λp hp =>?_;have:=wE (W p hp) (wC pc.pos);lia
  .ac_nf;refine⟨_,_,λR g =>?_,rfl⟩
   rcases wB.mp g with g | g
   .exact q R g
   .rw[wg.mp g];lia
 rintro K ⟨I,J,q,rfl⟩;ac_nf;exact O q
def z8e {x y t:Int}(d:2<=h.length)(w:Wthn h x y t){k:Nat}(b:k<h.length):0<=Qb (Geo.cy h k) (Geo.cy h (k+1)) x y t:=by
 have key:∀j,j<h.length->0<=Qb (Geo.cy h (j+h.length - 1)) (Geo.cy h j) x y t:=λj a=>by
  have:=w _ (z1p (by lia) a (wv ..));simp only[dot,rt,stp] at this;simp only[Qb]
  grind
 rcases wW (k+1) h.length with z | z
 .have:=key (k+1) z;rw[show k+1+h.length - 1=k+h.length by lia] at this
  rwa [show Geo.cy h (k+h.length)=Geo.cy h k by unfold Geo.cy;rw[uv]] at this
 .have:=key 0 (by lia);rw[show 0+h.length - 1=k by lia] at this
  rwa [show Geo.cy h 0=Geo.cy h (k+1) by unfold Geo.cy;rw[show k+1=h.length by lia,Nat.mod_self,Nat.zero_mod]] at this
def z95 {x y t:Int}(e:Vb 600 a)(pc:Pc x y t)(q:Q (vec (x - a.1*t,y - a.2*t))):z3u.run [vec a,pcD x y t] Q X:=by
 obtain⟨f,m,j,b,_⟩:=pc;obtain⟨g,i⟩:=e;walk_at "fn";ac_nf;exact q
def zeK {x y t:Int}(b:Vb 600 a)(pc:Pc x y t):Vb 900 (x - a.1*t,y - a.2*t):=⟨Bt.le (Bt.sub pc.bx (Bt.mul b.1 pc.bt)),Bt.le (Bt.sub pc.bY (Bt.mul b.2 pc.bt))⟩
def z5T (d:Vb 600 a)(e:Vb 600 b):Vb 601 (b.1 - a.1,b.2 - a.2):=⟨Bt.le (Bt.sub e.1 d.1),Bt.le (Bt.sub e.2 d.2)⟩
def zi6 {a b c:P}{x y t:Int}(g:Vb 600 a)(r:Vb 600 b)(u:Vb 600 c)(pc:Pc x y t)(q:Q (.tup ([Qb b c x y t,Qb c a x y t,Qb a b x y t].map .int))):z0F.run [vecs [a,b,c],pcD x y t] Q X:=by
 have e:=z5T g r;have f:=z5T g u;have i:=zeK g pc;have j:=pc.bt;walk_at "fn";ac_nf;refine z1U ?_;ac_nf;refine z1U ?_;ac_nf;refine z95 g pc ?_;ac_nf;refine z36 ⟨e.1.le,e.2.le⟩ ⟨f.1.le,f.2.le⟩ ?_;have w:Bt 1203 ((b.1 - a.1)*(c.2 - a.2) - (b.2 - a.2)*(c.1 - a.1)):=Bt.le (Bt.sub (Bt.mul e.1 f.2) (Bt.mul e.2 f.1));ac_nf;refine z36 ⟨i.1.le,i.2.le⟩ ⟨f.1.le,f.2.le⟩ ?_;ac_nf;refine z36 ⟨e.1.le,e.2.le⟩ ⟨i.1.le,i.2.le⟩ ?_;ac_nf;have m:((b.1 - a.1)*(c.2 - a.2) - (b.2 - a.2)*(c.1 - a.1))*t - ((x - a.1*t)*(c.2 - a.2) - (y - a.2*t)*(c.1 - a.1)) - ((b.1 - a.1)*(y - a.2*t) - (b.2 - a.2)*(x - a.1*t))=Qb b c x y t:=by simp only[Qb];grind
 have o:(x - a.1*t)*(c.2 - a.2) - (y - a.2*t)*(c.1 - a.1)=Qb c a x y t:=by simp only[Qb];grind
 have p:(b.1 - a.1)*(y - a.2*t) - (b.2 - a.2)*(x - a.1*t)=Qb a b x y t:=rfl;rw[m,o,p];exact q
structure Fan (h:List P)(x y t:Int)(k:Nat):Prop where
 lo:1<=k
 hi:k+1<h.length
 a:0<=Qb (Geo.cy h k) (Geo.cy h (k+1)) x y t
 b:0<=Qb (Geo.cy h (k+1)) (Geo.cy h 0) x y t
 c:0<=Qb (Geo.cy h 0) (Geo.cy h k) x y t
def zkW (d:3<=h.length):h.take 3=[Geo.cy h 0,Geo.cy h 1,Geo.cy h 2]:=by
 match h,d with
 | a::b::c::r,_=>
  rfl
def zd8 {x y t:Int}(i:Wb 600 h)(C:3<=h.length)(O:h.length<=62)(pc:Pc x y t)(w:Wthn h x y t)
  (q:∀k,Fan h x y t k->Q (vecs [Geo.cy h 0,Geo.cy h k,Geo.cy h (k+1)])):z1h.run [vecs h,pcD x y t] Q X:=by
 have r:h≠[]:=List.ne_nil_of_length_pos (by lia);have g:=λ{k:Nat}(K:k<h.length)=>z8e (by lia) w K;have f:0<=Qb (Geo.cy h (h.length - 1)) (Geo.cy h 0) x y t:=by
  have:=g (k:=h.length - 1) (by lia)
  rwa [show Geo.cy h (h.length - 1+1)=Geo.cy h 0 by unfold Geo.cy;rw[show h.length - 1+1=h.length by lia,Nat.mod_self,Nat.zero_mod]] at this
 have u:cutD (h.map vec) none (some 3)=(h.take 3).map vec:=by
  rw[z2W,show HT.sIx h.length h.length (some (3))=min 3 h.length by
   show (if (3)<0 then ((3:Int)+h.length).toNat else min (3:Int).toNat h.length)=_;rw[if_neg (by decide)]
   rfl]
  show (h.take (min 3 h.length)).map vec=_;rw[show min 3 h.length=3 by lia]
 walk_at "fn";ac_nf;rw[u,zkW C];ac_nf;refine z4k (z51 (λb=>Ee1 λk=>Aa4 (1<=k) (k+1<h.length) (0<=Qb (Geo.cy h 0) (Geo.cy h k) x y t) (b=[.s (vecs h),.s (pcD x y t),.s (.int (k+1)),.s (vecs [Geo.cy h 0,Geo.cy h k,Geo.cy h (k+1)])])) (λb=>(100 - nI b 2).toNat) ⟨1,by lia,by lia,g (k:=0) (by lia),rfl⟩ ?_);rintro b ⟨k,M,N,J,rfl⟩;have I:=g (k:=k) (by lia);ac_nf;refine zi6 (cyw r i _) (cyw r i _) (cyw r i _) pc ?_;refine⟨_,rfl,by simp,λm L p =>?_⟩;ac_nf;have R:=p _ (wn _ (wv ..));refine z0G (λz =>?_) (λz =>?_)
 .have j:Qb (Geo.cy h (k+1)) (Geo.cy h 0) x y t<0:=by
   simp only[wm,wz,vK] at L;lia
  have ne:k+1≠h.length - 1:=λe=>by rw[e] at j;lia
  have o:0<=Qb (Geo.cy h 0) (Geo.cy h (k+1)) x y t:=by rw[zcj];lia
  ac_nf;refine z19 (z0P (z8P (k:=0) (by lia))) ?_;ac_nf;rw[show k+1+1 - 1=((k+1):Int) by lia];refine z19 (z0P (z8P (k:=k+1) (by lia))) ?_;ac_nf;rw[show k+1+1=((k+2):Int) by lia];refine z19 (z0P (z8P (k:=k+2) (by lia))) ?_;ac_nf;refine⟨⟨k+1,by lia,by lia,o,rfl⟩,?_⟩;show (100 - ((k+2):Int)).toNat<(100 - ((k:Int)+1)).toNat
  lia
 .ac_nf;refine q k ⟨M,N,I,by lia,J⟩
def z98 (b:0<W)(e:Bt 1400 W)(q:Q (vec (p / (Int.gcd p W),W / (Int.gcd p W)))):z24.run [.int p,.int W] Q X:=by
 obtain⟨g,_,_,_,_⟩:=z3f b;have i:(Int.gcd p W)<=W:=Int.le_of_dvd b (jE ..);have f:Bt 9000 (Int.gcd p W):=Bt.le (e.of_abs (by lia));walk_at "fn";refine t_no (by lia) ?_;ac_nf;refine z3p ?_;rw[Int.gcd_comm];ac_nf;refine t_no (by lia) ?_;ac_nf;exact q
def idx (l:List P)(c:P):Nat:=l.findIdx λp=>decide (p=c)
def z6O {c:P}(h:c∈l):l[idx l c]? = some c:=by
 have a:idx l c<l.length:=List.findIdx_lt_length_of_exists ⟨c,h,by simp⟩;rw[wo a];have:=List.findIdx_getElem (w:=a);exact congrArg _ (ue this)
def z9u {c:P}(h:c∈l):idx l c<l.length:=List.findIdx_lt_length_of_exists ⟨c,h,by simp⟩
def zhd {c d:P}(b:c∈l)(f:d∈l)(e:idx l c=idx l d):c=d:=by
 have a:=z6O b;rw[e,z6O f] at a
 simp_all
def zko {c:P}(h:c∈l):Geo.cy l (idx l c)=c:=by
 have b:=z6O h;have a:=z0X (h:=l) (i:=idx l c) (by have:=z9u h;lia);rw[wV (z9u h),b] at a;exact(wY a).symm
def zgV {c:P}(h:c∈l)(q:Q (.int (idx l c))):zbz.run [vecs l,vec c] Q X:=by
 refine⟨Da.vec c,λd g =>?_,⟨vec c,List.mem_map_of_mem h,by rw[z5y];simp⟩,λi d a b e =>?_⟩
 .obtain⟨p,_,rfl⟩:=we.mp g;exact Da.vec p
 .rw[wK] at a
  cases z:l[i]? with
  | none=>simp_all
  | some p=>
   rw[z] at a
   cases a
   rw[z5y] at b;have f:=ue b;subst f;have:i=idx l p:=by
    rcases ur i (idx l p) with w | w | w
    .have j  := Nat.lt_trans w (z9u h);have:=List.not_of_lt_findIdx (w)
     simp_all
    .exact w
    .have:=e (idx l p) (vec p) w (by rw[wK,z6O h];rfl);rw[z5y] at this;simp at this
   simp_all
noncomputable def shOf (l:List P)(W:Int)(x:P × Int):Sh:=(idx l x.1,x.2 / (Int.gcd x.2 W),W / (Int.gcd x.2 W))
def rwOf (l:List P)(W:Int)(x:P × Int):Int × D:=((idx l x.1),vec (x.2 / (Int.gcd x.2 W),W / (Int.gcd x.2 W)))
noncomputable def back:Int × D->Sh
 | (n,.tup [.int a,.int b])=>(n.toNat,a,b)
 | (n,_)=>(n.toNat,0,1)
def z71 (l:List P)(W:Int)(x:P × Int):back (rwOf l W x)=shOf l W x:=by
 rfl
def z7p {f:Sh->Int}{a b:List Sh}(h:a.Perm b):(a.map f).sum=(b.map f).sum:=by
 induction h with
 | nil=>rfl
 | cons x _ g=>simp[g]
 | swap x y l=>simp;lia
 | trans _ _ d e=>rw[d,e]
set_option tactic.hygienic true in
theorem z9A {f:P × Int->Int}:∀{l:List (P × Int)},(∀x∈l,0<=x.2)->(∀x,x.2=0->f x=0)->((l.filter λx=>decide (0<x.2)).map f).sum=(l.map f).sum
 | [],_,_=>rfl
 | x::l,h,a=>by
  have d:=z9A (l:=l) (λy b=>h y (by simp[b])) a;rw[List.filter_cons]
  split
  .simp_all
  .rename_i z
   have e:=h x (by simp);have:x.2=0:=by simp at z;lia
   rw[wI,vC,a x this,Int.zero_add,d]
def zjM (q:Q (.lst ((l.zip m).map λp =>.tup [p.1,p.2]))):za9.run [.tup l,.tup m] Q X:=q
def zia {x y t:Int}(f:Vb 600 a)(j:Vb 600 b)(pc:Pc x y t)
  (q:Q (.tup ([((b.1 - a.1)*(b.1 - a.1)+(b.2 - a.2)*(b.2 - a.2))*t - ((x - a.1*t)*(b.1 - a.1)+(y - a.2*t)*(b.2 - a.2)),(x - a.1*t)*(b.1 - a.1)+(y - a.2*t)*(b.2 - a.2)].map .int))):z2p.run [vecs [a,b],pcD x y t] Q X:=by
 have e:=z5T f j;have g:=zeK f pc;have i:=pc.bt;walk_at "fn";ac_nf;refine z1U ?_;ac_nf;refine z3o ⟨e.1.le,e.2.le⟩ ⟨e.1.le,e.2.le⟩ ?_;have m:Bt 1203 _:=Bt.le (Bt.add (Bt.mul e.1 e.1) (Bt.mul e.2 e.2));ac_nf;refine z95 f pc ?_;ac_nf;refine z3o ⟨g.1.le,g.2.le⟩ ⟨e.1.le,e.2.le⟩ ?_;ac_nf;exact q
abbrev swD (sh:List Sh):D :=.tup [.str (Str.ofString "sailed"),.tup (sh.map shD)]
abbrev brD (b:P):D :=.tup [.str (Str.ofString "barred"),vec b]
structure Prt (l:List P)(x y t:Int)(xs:List (P × Int)):Prop where
 mem:∀z∈xs,z.1∈l
 nd:(xs.map (·.1)).Nodup
 few:xs.length<=3
 nn:∀z∈xs,0<=z.2
 pos:0<(xs.map (·.2)).sum
 bt:Bt 1400 (xs.map (·.2)).sum
 ex:(xs.map λz=>z.1.1*z.2).sum*t=(xs.map (·.2)).sum*x
 ey:(xs.map λz=>z.1.2*z.2).sum*t=(xs.map (·.2)).sum*y
def zgB {x y t:Int}(n:m∈l)(w:Wthn [m] x y t):Prt l x y t [(m,1)]:=by
 have f  := λb j=>w (b,m) (by
  exact we.mpr ⟨b,j,rfl⟩)
 have a:=f (1,0) (by decide);have d:=f (0,1) (by decide);have e:=f (-1,0) (by decide);have g:=f (0,-1) (by decide);simp[dot,Int.neg_mul] at a d e g;have h:m.1*t=x:=by lia
 have i:m.2*t=y:=by omega
 exact⟨by simpa using n,by simp,by simp,by simp,by simp,by simpa using z0b (wL (by decide:(1:Int).natAbs<2 ^ 1) (jH (by decide) (by decide))),by simpa using h,by simpa using i⟩
def zgA {x y t:Int}(pc:Pc x y t)(u:z04 S [a,b])(r:a∈l)(s:b∈l)(F:Vb 600 a)(vb:Vb 600 b)(w:Wthn [a,b] x y t):
  Prt l x y t [(a,((b.1 - a.1)*(b.1 - a.1)+(b.2 - a.2)*(b.2 - a.2))*t - ((x - a.1*t)*(b.1 - a.1)+(y - a.2*t)*(b.2 - a.2))),(b,(x - a.1*t)*(b.1 - a.1)+(y - a.2*t)*(b.2 - a.2))]:=by
 have i:=u.nodup;have ne:a≠b:=λe=>by rw[e] at i;simp at i
 have o:=z8e (h:=[a,b]) (by simp) w (k:=0) (by simp);have d:=z8e (h:=[a,b]) (by simp) w (k:=1) (by simp);have o:0<=Qb a b x y t:=o;have n:Geo.cy [a,b] 2=a:=by simp[Geo.cy]
 have d:0<=Qb b a x y t:=by rw[show (1+1)=2 from rfl,n] at d;exact d
 rw[zcj] at d;have q:Qb a b x y t=0:=by lia
 have A:=w (stp a b,b) (z1p (by simp) (j:=1) (by simp) (by unfold z0n;rw[if_pos (show [a,b].length=2 from rfl),show 1+[a,b].length - 1=2 from rfl,n];exact wn _ (wg.mpr rfl)));have C:=w (stp b a,a) (z1p (by simp) (j:=0) (by simp) (by unfold z0n;rw[if_pos (show [a,b].length=2 from rfl)];exact wn _ (wg.mpr rfl)));have g:=z5T F vb;have m:=pc.pos;have E:0<(b.1 - a.1)*(b.1 - a.1)+(b.2 - a.2)*(b.2 - a.2):=sqp λz=>ne (uc (by lia) (by lia));have f:((b.1 - a.1)*(b.1 - a.1)+(b.2 - a.2)*(b.2 - a.2))*t - ((x - a.1*t)*(b.1 - a.1)+(y - a.2*t)*(b.2 - a.2))+((x - a.1*t)*(b.1 - a.1)+(y - a.2*t)*(b.2 - a.2))=((b.1 - a.1)*(b.1 - a.1)+(b.2 - a.2)*(b.2 - a.2))*t:=by lia
 simp only[dot,stp] at A C;simp only[Qb] at q;refine⟨by simp[r,s],i,by simp,?_,?_,?_,?_,?_⟩
 .intro z p;simp only[wm,wz,vK] at p
  rcases p with rfl | rfl
  .show 0<=_ - _
   grind
  .show 0<=_+_
   grind
 .simp only[wI,uD,vC,jD,uH];rw[f];exact w5 E m
 .simp only[wI,uD,vC,jD,uH];rw[f];exact Bt.le (Bt.mul (Bt.add (Bt.mul g.1 g.1) (Bt.mul g.2 g.2)) pc.bt)
 .simp only[wI,uD,vC,jD,uH];rw[f]
  grind
 .simp only[wI,uD,vC,jD,uH];rw[f]
  grind
def zbj {x y t:Int}{k:Nat}(pc:Pc x y t)(d:z04 S h)(C:∀p∈h,p∈l)(g:Wb 600 h)(F:Fan h x y t k):
  Prt l x y t [(Geo.cy h 0,Qb (Geo.cy h k) (Geo.cy h (k+1)) x y t),(Geo.cy h k,Qb (Geo.cy h (k+1)) (Geo.cy h 0) x y t),(Geo.cy h (k+1),Qb (Geo.cy h 0) (Geo.cy h k) x y t)]:=by
 obtain⟨E,G,u,w,A⟩:=F;have e:h≠[]:=List.ne_nil_of_length_pos (by lia);have N:=zem d E G;have K:=z7W d.nodup (i:=0) (j:=k) (by lia) (by lia) (by lia);have L:=z7W d.nodup (i:=0) (j:=k+1) (by lia) (by lia) (by lia);have M:=z7W d.nodup (i:=k) (j:=k+1) (by lia) (by lia) (by lia);have m:∀j,Geo.cy h j∈l:=λj=>C _ (ww (z0X (w6.mpr e)));have H:=m 0;have I:=m k;have J:=m (k+1);have O:=cyw e g 0;have s:=cyw e g k;have Q:=cyw e g (k+1);generalize Geo.cy h 0=a at*;generalize Geo.cy h k=b at*;generalize Geo.cy h (k+1)=c at*;have n:=pc.pos;have f:Qb b c x y t+(Qb c a x y t+Qb a b x y t)=Qa b c a*t:=by simp only[Qb,Qa];grind
 refine⟨by simp[H,I,J],by simp[K,L,M],by simp,?_,?_,?_,?_,?_⟩
 .intro z r;simp only[wm,wz,vK] at r
  rcases r with rfl | rfl | rfl
  .exact u
  .exact w
  .exact A
 .simp only[wI,uD,vC,jD,uH];rw[f];exact w5 N n
 .simp only[wI,uD,vC,jD,uH];rw[f];have o:=z5T s Q;have q:=z5T s O;exact Bt.le (Bt.mul (Bt.sub (Bt.mul o.1 q.2) (Bt.mul o.2 q.1)) pc.bt)
 .simp only[wI,uD,vC,jD,uH];rw[f];simp only[Qb,Qa]
  grind
 .simp only[wI,uD,vC,jD,uH];rw[f];simp only[Qb,Qa]
  grind
end Pu
namespace Rev
open PySem PyProof.Rows
section
variable {prog:Program}{w:World}{A:Around}{E:WvP}{R:Result->Shared->Prop}{r:Addr}{fp wr:List Addr}{G:Array GenState->Array GenState->Prop}{n:Nat}{P:Nat->Value->Prop}{St:Nat->Shared->Prop}{bt:Nat->Nat->Bool}{Ok:Shared->Prop}
def zhC (prog:Program)(w:World)(A:Around)(Ok:Shared->Prop)(P:Nat->Value->Prop)(bt:Nat->Nat->Bool):Prop:=∀i j x y s Q E,Ok s->P i x->P j y->Q (.bool (bt i j)) s->wpAny (model prog w) A (richCompare .Gt x y) Q E s
def zk9 (W:WalksS prog w A.in1 r fp wr G n P St)(t:zhC prog w A.in1 Ok P bt)(S:Addr)(l:S ∉ fp)(stay:∀s s',Ok s->Moved (S::wr) G s s'->Ok s'):
  ∀left d s a c,n=d+1+left->St (d+1) s->Ok s->P (argBest bt d) a->s.heap.get? S=some { cls :=.type "list",dict:=none,data :=.seq #[a,a] c,slots := #[] }->
   (∀v s',P (argBest bt (n - 1)) v->Moved (S::wr) G s s'->R (.ok (.ret v)) s')->codeAny (model prog w) A (.builtin "max.loop" ⟨[.ref r,.none,.ref S],[]⟩) R s:=by
 have h:S ∉ wr:=λz=>l (W.sub S z);have more:∀b∈wr,b∈S::wr:=λb z=>wn S z;have f:∀{b:Addr},b ∉ S::wr->S≠b:=λz e=>z (by subst e;exact wv);have M:(toString "max"++toString ".loop")="max.loop":=by decide
 intro left
 induction left with
 | zero=>
  intro d s a c E J ok hb hS fin;refine uG F.entry_max_loop ?_;rw[ui uW _];refine wc (m:=seqItems? (.ref S)) (v6 hS rfl ?_);refine wc (m:=tryCatch (pyNext (.ref r)) _) (wpAny_tryCatch (W.done s _ _ (by rw[E];exact J) λs1 mv =>?_));have g:=mv.heap S _ h hS;refine wc (m:=updateSeq S λ_ => #[]) (jB g rfl (wc (jO (wj ?_))));refine fin a _ (by rw[E];exact hb) ((mv.mono more).then_heap (tk:=s1.toks) (wt _) λb o z e =>?_);rw[vB _ _ (f z)];exact e
 | succ left O=>
  intro d s a c E J ok hb hS fin;refine uG F.entry_max_loop ?_;rw[ui uW _];refine wc (m:=seqItems? (.ref S)) (v6 hS rfl ?_);refine wc (m:=tryCatch (pyNext (.ref r)) _) (wpAny_tryCatch (W.item (d+1) s _ _ (by lia) J λv s1 N p mv =>?_));have g:=mv.heap S _ h hS;have i:=mv.mono more;have I:Ok s1:=stay s s1 ok i;show wpAny _ A.in1 (tryCatch (holding [v,v] (richCompare .Gt v a >>= _)) _ >>= _) _ _ s1;refine wc (wpAny_tryCatch (v8 (wc (t (d+1) (argBest bt d) v a s1 _ _ I N hb ?_))));refine wc (v8 (wpAny_truthy_bool (wc (jO (wj ?_)))));have step:∀s2 u q,Moved (S::wr) G s s2->St (d+2) s2->P (argBest bt (d+1)) u->s2.heap.get? S=some { cls :=.type "list",dict:=none,data :=.seq #[u,u] q,slots := #[] }->codeAny (model prog w) A (.builtin "max.loop" ⟨[.ref r,.none,.ref S],[]⟩) R s2:=λs2 u q j K Q C=>
   O (d+1) s2 u q (by lia) K (stay s s2 ok j) Q C λx U T H=>fin x U T (Moved.trans W.gtrans j H)
  cases L:bt (d+1) (argBest bt d) with
  | true=>
   rw[if_pos rfl];refine wc (jB g rfl (wc (jO ?_)));rw[M];refine wj ⟨uN uW _,step _ v _ (i.then_heap (wt _) λb o z e =>?_) (W.frame _ s1 _ s1.toks p (wt _) λb z o e =>?_) (by rw[argBest,L];exact N) (vJ _ g rfl)⟩
   .rw[vB _ _ (f z)];exact e
   .rw[vB _ _ λy:S=b=>l (by rw[y];exact z)];exact e
  | false=>
   rw[if_neg (by decide)];refine wc (jO ?_);rw[M];exact wj ⟨uN uW _,step s1 a c i p (by rw[argBest,L];exact hb) g⟩
def zbQ (W:WalksS prog w A.in1 r fp wr G n P St)(j:zhC prog w A.in1 Ok P bt)(S:Addr)(d:S ∉ fp)(stay:∀s s',Ok s->Moved (S::wr) G s s'->Ok s')(u:0<n){c:Nat}(st:St 0 s)(ok:Ok s)
  (t:s.heap.get? S=some { cls :=.type "list",dict:=none,data :=.seq #[] c,slots := #[] }) (fin:∀v s',P (argBest bt (n - 1)) v->Moved (S::wr) G s s'->R (.ok (.ret v)) s'):codeAny (model prog w) A (.builtin "max.loop" ⟨[.ref r,.none,.ref S],[]⟩) R s:=by
 have h:S ∉ wr:=λz=>d (W.sub S z);have a:∀{b:Addr},b ∉ S::wr->S≠b:=λz e=>z (by subst e;exact wv);have C:(toString "max"++toString ".loop")="max.loop":=by decide
 refine uG F.entry_max_loop ?_;rw[ui uW _];refine wc (m:=seqItems? (.ref S)) (v6 t rfl ?_);refine wc (m:=tryCatch (pyNext (.ref r)) _) (wpAny_tryCatch (W.item 0 s _ _ u st λv i E q mv =>?_));have f:=mv.heap S _ h t;have l:=mv.mono λb z=>wn S z;refine wc (m:=updateSeq S λ_ => #[v,v]) (jB f rfl ?_);rw[C];have g:Moved (S::wr) G s { i with heap:=i.heap.update S (Obj.mapSeq λ_ => #[v,v]) }:=l.then_heap (wt _) λb o z e=>by rw[vB _ _ (a z)];exact e
 refine wj ⟨uN uW _,zk9 W j S d stay (n - 1) 0 _ v _ (by lia) (W.frame _ i _ i.toks q (wt _) λb z o e =>?_) (stay _ _ ok g) E (vJ _ f rfl) λx I H p=>fin x I H (Moved.trans W.gtrans g p)⟩;rw[vB _ _ λy:S=b=>d (by rw[y];exact z)];exact e
def ze4
  (h:wpAny (model prog w) A.in1 (pyIter x) (λit d=>∃r fp wr G n P St bt Ok,it = .ref r/\WalksS prog w A.in1 r fp wr G n P St/\St 0 d/\Ok d/\(∀s s',Ok s->(∀b o,b ∉ wr->b<d.heap.objs.size->s.heap.get? b=some o->s'.heap.get? b=some o)->Ok s')/\(∀b∈fp,b<d.heap.objs.size)/\0<n/\zhC prog w A.in1 Ok P bt/\
   ∀v s',P (argBest bt (n - 1)) v->Moved wr G d s'->Q v s') E s):wpAny (model prog w) A (call (.builtin "max") [x]) Q E s:=by
 have l:(toString "max"++toString ".loop")="max.loop":=by decide
 refine call_function_tree F.kind_max F.plain_max F.entry_max (F.args_max1 _) ?_;refine wc (m:=Builtin.Builtins.bindParams "max" ["key","default"] 0 ⟨[],[]⟩) (wpAny_of_eq (a:=[none,none]) rfl (wc (wj ?_)));refine wc (vH h (λit d i =>?_) λ_ _ e=>e);obtain⟨r,fp,wr,G,n,P,St,bt,Ok,rfl,W,q,ok,stay,low,j,f,fin⟩:=i;have g:d.heap.objs.size ∉ fp:=λz=>vV _ (low _ z);refine wc (vg ?_);rw[l];refine wj ⟨uN uW _,zbQ (Ok:=Ok) W f d.heap.objs.size g (λs s' o mv=>stay s s' o λb u t y e=>mv.heap b u (λz =>?_) e) j (W.frame 0 d _ d.toks q (wt _) λb _ o e=>wf _ e) (stay d _ ok λb o _ _ e=>wf _ e) (wp _ rfl) λv s' p mv=>fin v s' p (Moved.drop_new (tk:=d.toks) mv (wt _))⟩
 simp_all
end
end Rev
namespace Pu
open PySem PySem.Spec PyProof.Rows L2 Tab
def LxG (p q:Int × Int):Prop:=q.1<p.1\/p.1=q.1/\q.2<=p.2
def zmd (d:D)(Q:DK):Prop:=∃ps,d = .lst (ps.map vec)/\ps≠[]/\ps.length<=1000/\∀m∈ps,(∀x∈ps,LxG m x)->Q (vec m)
def zjs:Fn:=fn1 zmd λd Q i m ⟨ps,e,f,g,h⟩=>⟨ps,e,f,g,λk a b=>m _ (h k a b)⟩
def z9w (d:D)(Q:DK):Prop:=∃ps,d = .lst (ps.map vec)/\ps≠[]/\ps.length<=1000/\∀(i:Nat) m,ps[i]? = some m->(∀x∈ps,LxG m x)->Q (.int i)
def z9e:Fn:=fn1 z9w λd Q j m ⟨ps,e,f,g,h⟩=>⟨ps,e,f,g,λi k a b=>m _ (h i k a b)⟩
def zkd (a b:Int × Int)(h:HT.z0q [a.1,a.2] [b.1,b.2]=false):LxG a b:=by
 rw[HT.z0R] at h;unfold LxG
 by_cases e:a.1=b.1
 .rw[if_pos e,HT.z0R] at h
  grind
 grind
set_option tactic.hygienic true in
theorem zcG (f:Nat->List Int):∀k j,j<=k->HT.z0q (f (argBest (λi j=>HT.z0q (f j) (f i)) k)) (f j)=false
 | 0,j,h=>by
  obtain rfl:j=0:=by lia
  exact Tim.z5l _
 | k+1,j,h=>by
  have a:=zcG f k;rw[argBest]
  split
  .rename_i b
   rcases wW j (k+1) with z | z
   .cases q:HT.z0q _ _ with
    | false=>rfl
    | true=>have:=a j (by lia);rw[Tim.z9o b q] at this;cases this
   .obtain rfl:j=k+1:=by lia
    exact Tim.z5l _
  .rcases wW j (k+1) with z | z
   .exact a j (by lia)
   .obtain rfl:j=k+1:=by lia
    simp_all
section
variable {X:Cx}
def zcC (hc:X.calm=true)(hu:X.A.units+64<cLine):z0A X (.builtin "max") (λvs H Q=>∃G a xs ks,vs=[.ref a]/\Same G H/\SqL X.K G a xs/\Tis X.K G xs ks/\ks≠[]/\∀(i:Nat) b k,xs[i]? = some (.ref b)->ks[i]? = some k->SqT X.K G b (k.map V.int)->(∀x∈ks,HT.z0q k x=false)->Q (.ref b) H):=by
 rintro a7 s σ H xs us Q I rv ⟨G,a,F,ks,e,g,hS,E,Y,q⟩;subst e;obtain⟨u,rfl,rx⟩:=z30 rv
 cases rx
 have hh:X.A.handled=none:=I.ok.hd hc;have Z:X.A.in1.units<cLine:=by
  have:X.A.in1.units<=X.A.units+1:=by simp
  lia
 have W:F.length=ks.length:=zaI E;have a6:0<ks.length:=w6.mpr Y;obtain⟨l,t,pl,_⟩:=I.list (z1o g hS);obtain⟨o,ho,U,n,hd⟩:=pl.isList;have ha:a<s.heap.objs.size:=wu ho;have a8:l.length=ks.length:=by rw[<- t.length,W]
 have f:∀(i:Nat) b k,F[i]? = some (.ref b)->ks[i]? = some k->SqT X.K G b (k.map V.int):=λi b k m p=>by
  obtain⟨u,e3,ru⟩:=t.get m;obtain⟨b',k',e4,e5,e6,h⟩:=z91 E t e3;rw[m] at e4;cases e4;rw[p] at e5;cases e5;exact h
 let Ok:Shared->Prop:=λs'=>∀(i:Nat) b k,F[i]? = some (.ref b)->ks[i]? = some k->Tim.TI s'.heap (.ref b) k
 have low:∀(i:Nat) b k,F[i]? = some (.ref b)->ks[i]? = some k->b<s.heap.objs.size:=λi b k m p=>by
  obtain⟨o,l,n,C,_⟩:=z8i I g (f i b k m p);exact wu C
 have d:∀w s2:Shared,Ok w->(∀b o,b≠s.heap.objs.size->b<s.heap.objs.size->w.heap.get? b=some o->s2.heap.get? b=some o)->Ok s2:=λw s2 h k i b key m p=>by
  obtain⟨b',o,l,n,e,C,M,O,S⟩:=h i b key m p
  cases e
  have r:=low i b key m p;exact⟨b,o,l,n,rfl,k b o (wJ r) r C,M,O,S⟩
 have a0:Ok s:=λi b k m p=>TK.ti (z8i I g (f i b k m p));refine Rev.ze4 (wpAny_pyIter_list pl.isList ⟨_,_,_,_,_,_,_,λi j=>HT.z0q ((ks[j]?).getD []) ((ks[i]?).getD []),Ok,rfl,(Walks.list (show X.A.in1.handled=none from by simp[hh]) _ a (wJ ha) l.toArray).toS,⟨⟨_,wp _ rfl,rfl,rfl⟩,⟨o,wf _ ho,U,n,hd⟩⟩,d s _ a0 (λb o _ _ e=>wf _ e),λw s2 o k=>d w s2 o λb u r hl e=>k b u (by simpa using r) (by rw[v5];lia) e,λb r =>?_,by simp;lia,?_,λv s' pv mv =>?_⟩)
 .rw[v5];simp only[wm,wz,vK] at r
  rcases r with e | e
  .rw[e];exact uK _
  .rw[e];exact ud ha
 .intro i j x y w Q1 E1 ok px py q1;obtain⟨b1,k1,J,z,rfl,a4⟩:=z91 E t (by simpa using px);obtain⟨b2,k2,c1,c2,rfl,c4⟩:=z91 E t (by simpa using py);obtain⟨_,o,a9,n,e,C,M,O,S⟩:=ok i b1 k1 J z
  cases e
  obtain⟨_,o',b0,n',e',L,N,R,T⟩:=ok j b2 k2 c1 c2
  cases e'
  dsimp only at q1;rw[z,c2] at q1;exact HT.z65 ⟨o,C,M,n,O⟩ ⟨o',L,N,n',R⟩ S T Z q1
 .obtain⟨b,k,J,z,rfl,a4⟩:=z91 E t (by simpa using pv);obtain⟨h',g',d',a5,a3⟩:=s';have eg:g'=s.gens:=mv.gens;have ed:d'=s.drawn:=mv.drawn;have eo:a3=s.os:=mv.os;subst eg;subst ed;subst eo;refine⟨.ref b,H,I.kept (t':=a5) λb o e=>mv.heap b o ?_ (wf _ e),rfl,q _ b k J z a4 λx hx =>?_⟩
  .simp only[wg];exact wJ (wu e)
  .obtain⟨j,hj,rfl⟩:=vi.mp hx;have:=zcG (λi=>(ks[i]?).getD []) (l.length - 1) j (by lia);rw[z,wo hj] at this;exact this
def zjb:∀ps:List (Int × Int),ps.map vec=(ps.map λp=>[p.1,p.2]).map tupD:=λps=>by rw[wP];rfl
def zhr (n:X.calm=true)(t:X.A.units+64<cLine):z0A X (.builtin "max") (rN X.K X.mg zjs):=(zcC n t).imp <| by
 rintro vs H Q ⟨G,C,Q0,y,g,rds,s,o⟩;obtain⟨d,rfl,h⟩:=z1t s;obtain⟨v,rfl,rd⟩:=rds1 rds;obtain⟨ps,rfl,f,F,q⟩:=h;obtain⟨a,w,rfl,l,j⟩:=z1Y rd;rw[zjb] at j;refine⟨G,a,w,_,rfl,g,l,z6q j,by simpa using f,λi b k E e m r =>?_⟩;rw[wK] at e
 cases z:ps[i]? with
 | none=>simp_all
 | some p=>
  rw[z] at e
  cases e
  exact o.now g (q p (ww z) λx u=>zkd _ _ (r _ (we.mpr ⟨x,u,rfl⟩))) (RD.ofT m (z4X [p.1,p.2]))
def zdh (X:Cx):V->List V->Hp->VK->Prop:=λx f H Q=>∃(G:Hp) (a:Addr) (b:List V) (l:List D) (d:D) (v:V),x = .ref a/\f=[v]/\Same G H/\SqL X.K G a b/\RDs X.K X.mg G l b/\RD X.K X.mg G d v/\Da 60 d/\(∀e∈l,Da 60 e)/\(∃e∈l,deq e d=true)/\l.length<=1000000/\
 ∀(i:Nat) e,l[i]? = some e->deq e d=true->Q (.int i) H
def z5O (hu:X.A.units+64<cLine):MtR X "list.index" (zdh X):=by
 rintro N s σ H x xs v us Q I rx rs ⟨G,a,ys,l,d,w,T,U,g,hT,J,hd,W,Y,Z,hz,q⟩;subst T;subst U
 cases rx
 obtain⟨u,rfl,ru⟩:=rs.one;obtain⟨b,O,pl,_⟩:=I.list (z1o g hT);obtain⟨e,q1,_,q2⟩:=z8a I g hu hd ru W Y J O;obtain⟨⟨R,S,t,sl⟩,K,C,n,f⟩:=id pl.isList;simp only at C f;subst C f;obtain⟨i,x,h,L,p⟩:=z5w (λe=>deq e d) l Z;have il:i<l.length:=by
  rcases wW i l.length with z | z
  .exact z
  .rw[uF z] at h;cases h
 have len:b.length=l.length:=by rw[<- O.length,J.len]
 have E:i<b.toArray.size:=by simpa[len] using il
 have val:∀(m:Nat) j y,l[m]? = some y->e b.toArray[m]=deq y d:=λm j y r=>q2 m _ y (by rw[wo (by simpa using j)];simp) r;refine call_meets PySem.F.slot_list_index ⟨_,K,rfl⟩ PySem.F.entry_list_index (PySem.F.args_list_index_2 _ _) (SeqAt.list_indexAt a b.toArray n S sl u e i E (by omega) ((val i E x h).trans L) λm j o =>?_) ⟨K,λy r=>q1 y (by simpa using r),?_⟩
 .have M:m<l.length:=by omega
  rw[val m j _ (wo M)];exact p m _ o (wo M)
 .exact⟨.int i,H,I.tok _,⟨_,rfl⟩,q i x h L⟩
end
section
variable {X:Cx}{E:XK}{o e:Expr}{apos cpos:Pos}{i:Nat}
def za4 (hu:X.A.units+64<cLine)(ho:QE X o (tVar i))(Y:QXA X E [e] [.op zjs [.v i]])
  (h:autoParam (aB o "index" X) jA1)
  (r:autoParam (aG cpos [e] X) jA1)
  (l:autoParam (aL apos cpos) jA1) (hs:autoParam (sE e [] X) jA1) (b:autoParam (bT cpos [] X) jA1):
  QX X E (.Call (.Attribute o "index" apos) [e] [] cpos) (.op z9e [.v i]):=
 QE.imp (zgq uL PySem.F.slot_list_index PySem.F.type_list_index (z5O hu) ho Y h r l hs b) <| by
  rintro σ H Q ⟨G,y,Q0,U,g,M,hr,Z,hx⟩;have f:onV (y.get i) (λd=>z9w d Q0):=hr
  cases u:y.get i with
  | none=>rw[u] at f;exact f.elim
  | some d=>
   rw[u] at f;obtain⟨ps,rfl,J,hz,q⟩:=f;obtain⟨v,s1,rd⟩:=M i _ u;obtain⟨a,xs,rfl,S,W⟩:=z1Y rd;have N:∀p:Int × Int,Da 60 (vec p):=λp=>Da.vec p;refine⟨.ref a,s1,.inl ⟨rfl,_,z1o g S⟩,G,y,λO=>Ee1 λm=>Aa3 (m∈ps) (∀x∈ps,LxG m x) (O=[vec m]),U,g,M,?_,?_,hx⟩
   .show onV (y.get i) _;rw[u];exact⟨ps,rfl,J,hz,λm I j=>⟨m,I,j,rfl⟩⟩
   .rintro O vs L T ⟨m,I,j,rfl⟩ C R g3 rds;obtain⟨w,rfl,K⟩:=rds1 rds;refine⟨L,a,xs,ps.map vec,vec m,w,rfl,rfl,R,z1o C.1 S,W.same C.1,K,N m,λe t =>?_,⟨_,we.mpr ⟨m,I,rfl⟩,?_⟩,by rw[wd];omega,λn e s t =>?_⟩
    .obtain⟨p,_,rfl⟩:=we.mp t;exact N p
    .rw[show deq (vec m) (vec m)=decide (m=m) from z5y m m];exact vz rfl
    .rw[wK] at s
     cases z:ps[n]? with
     | none=>rw[z] at s;cases s
     | some p=>
      rw[z] at s
      cases s
      rw[show deq (vec p) (vec m)=decide (p=m) from z5y p m] at t;rw[ue t] at z;exact Z _ _ L T (q n m z j) C R g3 RD.int'
end
end Pu
namespace L2
open PySem PySem.Spec PyProof.Rows
section
variable {κ:Type}[DecidableEq κ]
noncomputable def valV (kvs:List (κ × V))(k:κ):Option V:=(kvs.find? λa=>decide (a.1=k)).map (·.2)
noncomputable def putK (kvs:List (κ × V))(k:κ)(v:V):List (κ × V):=
 if (kvs.any λa=>decide (a.1=k))=true then kvs.map (λa=>if a.1=k then (a.1,v) else a) else kvs++[(k,v)]
def z4R {k:κ}(e:p.1=k):valV (p::r) k=some p.2:=by simp[valV,jg,e]
def z4S {k:κ}(e:¬ p.1=k):valV (p::r) k=valV r k:=by simp[valV,jg,e]
theorem z8Y (k:κ):∀kvs:List (κ × V),(kvs.any λa=>decide (a.1=k))=(valV kvs k).isSome
 | []=>rfl
 | p::r=>by
  rw[List.any_cons]
  by_cases e:p.1=k
  .simp[z4R e,vz e,Bool.true_or,Option.isSome_some]
  .rw[z4S e,wX e];exact z8Y k r
def z5m (kvs:List (κ × V))(k:κ)(v:V):(putK kvs k v).length<=kvs.length+1:=by
 unfold putK
 grind
def RelO.isSome_eq (r:RelO o u):o.isSome=u.isSome:=by
 cases o with
 | none=>cases u with
  | none=>rfl
  | some _=>exact(r).elim
 | some _=>cases u with
  | none=>exact(r).elim
  | some _=>rfl
theorem RelO.getD {o:Option V}{u:Option Value}{d:V}{d':Value}(r:RelO o u)(rd:RelV d d'):RelV (o.getD d) (u.getD d'):=by
 cases o with
 | none=>cases u with
  | none=>exact rd
  | some _=>exact(r).elim
 | some _=>cases u with
  | none=>exact(r).elim
  | some _=>exact r
def KV.val {vs:List (κ × Value)}(r:KV kvs vs)(k:κ):RelO (valV kvs k) (valueAt vs k):=by
 induction r with
 | nil=>exact True.intro
 | @cons p q ps d h t i=>
  obtain⟨f,g⟩:=h
  by_cases e:p.1=k
  .have a  := f.symm.trans e;have b:valueAt (q::d) k=some q.2:=by simp[valueAt,jg,a]
   rw[z4R e,b];exact g
  .have a:¬ q.1=k:=λz=>e (f.trans z);have b:valueAt (q::d) k=valueAt d k:=by simp[valueAt,jg,a]
   rw[z4S e,b];exact i
theorem KV.any {kvs:List (κ × V)}{vs:List (κ × Value)}(r:KV kvs vs)(k:κ):(kvs.any λa=>decide (a.1=k))=vs.any λa=>decide (a.1=k):=by
 induction r with
 | nil=>rfl
 | cons h t b=>simp_all
def KV.repl {vs:List (κ × Value)}(r:KV kvs vs)(k:κ)(f:RelV y u):
  KV (kvs.map λa=>if a.1=k then (a.1,y) else a) (vs.map λa=>if a.1=k then (a.1,u) else a):=by
 induction r with
 | nil=>exact .nil
 | @cons p q ps d h t b=>
  refine .cons ?_ b
  by_cases e:p.1=k
  .simp_all
  simp_all
def KV.put {vs:List (κ × Value)}(r:KV kvs vs)(k:κ)(a:RelV y u):KV (putK kvs k y) (stored vs k u):=by
 unfold putK stored;rw[r.any k]
 by_cases e:(vs.any λb=>decide (b.1=k))=true
 .rw[if_pos e,if_pos e];exact r.repl k a
 .rw[if_neg e,if_neg e];exact Paired.snoc r ⟨rfl,a⟩
theorem KV.length {kvs:List (κ × V)}{vs:List (κ × Value)}(r:KV kvs vs):kvs.length=vs.length:=Paired.length r
end
def zha {P:Program}{k:Key}(r:RelV (kV k) u):(z15 P w).is k u=true:=by
 cases k with
 | inl i=>obtain⟨t,e⟩:=(r);subst e;exact z8C P w i t
 | inr x=>obtain⟨t,e⟩:=(r);subst e;exact z8B P w x t
theorem z7M {P:Program}:∀{ks:List Key}{us:List Value},Vals (ks.map kV) us->ItemsAre (z15 P w) ks us
 | [],_,r=>by cases r;exact .nil
 | k::ks,_,r=>by
  cases r with
  | cons h t=>exact .cons (zha h) (z7M t)
abbrev KT (H:Hp):List (List Key × V)->List (List Key × Addr × Value)->Prop:=Paired λp q=>p.1=q.1/\H q.2.1=some (.tup (p.1.map kV))/\RelV p.2 q.2.2
def KT.val (r:KT H kvs xs)(k:List Key):RelO (valV kvs k) ((atKey xs k).map (·.2)):=by
 induction r with
 | nil=>exact True.intro
 | @cons p q ps d h t i=>
  obtain⟨f,_,g⟩:=h
  by_cases e:p.1=k
  .have a  := f.symm.trans e;have b:atKey (q::d) k=some q.2:=by simp[atKey,jg,a]
   rw[z4R e,b];exact g
  .have a:¬ q.1=k:=λz=>e (f.trans z);have b:atKey (q::d) k=atKey d k:=by simp[atKey,jg,a]
   rw[z4S e,b];exact i
def KT.repl (r:KT H kvs xs)(k:List Key)(i:RelV y u):
  KT H (kvs.map λb=>if b.1=k then (b.1,y) else b) (xs.map (putAt k u)):=by
 induction r with
 | nil=>exact .nil
 | @cons p q ps j h t g=>
  rw[wI];refine .cons ?_ g;obtain⟨a,d,f⟩:=h;unfold putAt
  by_cases e:p.1=k
  .rw[if_pos e,if_pos (a.symm.trans e)];exact⟨a,d,i⟩
  .rw[if_neg e,if_neg (λz=>e (a.trans z))];exact⟨a,d,f⟩
def KT.put (r:KT H kvs xs)(k:List Key)(d:H b=some (.tup (k.map kV)))(a:RelV y u):
  KT H (putK kvs k y) (storedH xs k b u):=by
 have e:(kvs.any λf=>decide (f.1=k))=(atKey xs k).isSome:=by
  rw[z8Y,(r.val k).isSome_eq,Option.isSome_map]
 unfold putK storedH;rw[e]
 by_cases q:(atKey xs k).isSome=true
 .rw[if_pos q,if_pos q];exact r.repl k a
 .rw[if_neg q,if_neg q];exact Paired.snoc r ⟨rfl,d,a⟩
def KT.keeps (r:KT H kvs xs)(a:∀b ys,H b=some (.tup ys)->H' b=some (.tup ys)):KT H' kvs xs:=
 Paired.mapP r λ_ _ z=>⟨z.1,a _ _ z.2.1,z.2.2⟩
section
variable {P:Program}{w:World}{H:Hp}{h:Heap}{a:Addr}
def zij (ok:HOk P w H h)(e:Rd H a u):z1m P w H h a u:=e.ok ok
def zcn {kvs:List (Key × V)}(ok:HOk P w H h)(e:Rd H a (.dK kvs)):kvs.length<=sizeLine/\(a == sysModules)=false/\∃vs,KV kvs vs/\h.DictOf (z15 P w) a vs:=
 zij ok e
def zml (ok:HOk P w H h)(e:H a=some (.dK kvs)):kvs.length<=sizeLine/\(a == sysModules)=false/\∃vs,KV kvs vs/\h.DictOf (z15 P w) a vs:=zcn ok (.inl e)
def zc1 (ok:HOk P w H h)(e:H a=some (.tup (ks.map kV))):(tupleKind (z15 P w)).is h ks a:=by
 obtain⟨_,b,r,⟨o,d,f,n,g⟩,_⟩:=(ok a _ e)
 exact⟨o,b.toArray,n,d,f,g,by simpa using z7M r⟩
def zhk (ok:HOk P w H h)(e:Rd H a (.dT kvs)):kvs.length<=sizeLine/\(a == sysModules)=false/\
  ∃xs,KT H kvs xs/\h.DictOfH (tupleKind (z15 P w)) a xs:=by
 obtain⟨z,y,xs,r,o,f,d,g,i,j,n,s⟩:=(zij ok e)
 refine⟨z,y,xs,r,o,f,d,g,i,j,n,λx b =>?_,s⟩;have all:∀{l:List _}{m:List _},KT H l m->∀x∈m,(tupleKind (z15 P w)).is h x.1 x.2.1:=by
  intro l m q
  induction q with
  | nil=>simp_all
  | @cons p q ps C A t u=>
   intro x b
   rcases wm.mp b with e | b
   .exact zc1 ok (by simp_all)
   .exact u x b
 exact all r x b
def zmk (ok:HOk P w H h)(e:H a=some (.dT kvs)):kvs.length<=sizeLine/\(a == sysModules)=false/\
  ∃xs,KT H kvs xs/\h.DictOfH (tupleKind (z15 P w)) a xs:=zhk ok (.inl e)
end
def DGet (H:Hp)(a:Addr)(y:V)(r:Option V):Prop:=
 (∃d k,Rd H a (.dK d)/\y=kV k/\r=valV d k)\/∃d k b,Rd H a (.dT d)/\y = .ref b/\H b=some (.tup (k.map kV))/\r=valV d k
def DPut (H:Hp)(a:Addr)(y v:V)(e:Hp):Prop:=
 (∃d k,H a=some (.dK d)/\y=kV k/\d.length<sizeLine/\e=upd H a (.dK (putK d k v)))\/
 ∃d k b,H a=some (.dT d)/\y = .ref b/\H b=some (.tup (k.map kV))/\d.length<sizeLine/\e=upd H a (.dT (putK d k v))
theorem DPut.k {H:Hp}{a:Addr}{kvs:List (Key × V)}{k:Key}{v:V}(e:H a=some (.dK kvs))(b:kvs.length<sizeLine):DPut H a (kV k) v (upd H a (.dK (putK kvs k v))) :=.inl ⟨kvs,k,e,rfl,b,rfl⟩
section
variable {X:Cx}{pins:List (Addr × Obj)}{σ:St}{H:Hp}{s:Shared}{a:Addr}{y v:V}{u r:Value}{o:Option V}{A:Around}{E:WvP}
def Inv.big (I:Inv X pins σ H s):sysModules<s.heap.objs.size:=by
 have h  := (I.mod.glob.keeps I.bk).lt;exact Nat.lt_trans (by decide) h
def zcr (I:Inv X pins σ H s)(g:Mut (H a))(f:Heap.SameBut a s.heap h')(e:∃q,h'.get? a=some q)(new:z1m X.prog X.w (upd H a ob) h' a ob):
  Inv X pins σ (upd H a ob) { s with heap:=h',toks:=t' }:=
 I.write g (.inl rfl) (λb q d z=>(f.2 b d).trans z) e new
def zks {P:Program}{vs:List (Key × Value)}(z:kvs.length<=sizeLine)(e:(a == sysModules)=false)(b:KV kvs vs)(d:h'.DictOf (z15 P w) a vs):
  z1m P w H' h' a (.dK kvs):=⟨z,e,vs,b,d⟩
def zcs (W:A.units+1<cLine)(I:Inv X pins σ H s)(g:DPut H a y v H')(L:RelV y u)(K:RelV v r)(h:∀s',Inv X pins σ H' s'->Q () s'):
  wpAny (model X.prog X.w) A (setItem (.ref a) u r) Q E s:=by
 rcases g with ⟨d,k,e,o,l,n⟩ | ⟨d,k,b,e,o,F,l,n⟩
 .subst o n;obtain⟨z,p,vs,f,m⟩:=zml I.hok e;have C:vs.length<=sizeLine:=by rw[<- f.length];exact z
  have t:(putK d k v).length<=sizeLine:=by have:=z5m d k v;omega
  refine wpAny_setItem_pairs (hsz:=C) (zha L) m λJ i x=>h _ ?_;have U:∃q,J.get? a=some q:=let ⟨q,_,_,j,_⟩:=i;⟨q,j⟩;exact zcr I (by rw[e];exact True.intro) x U (zks t p (f.put k K) i)
 .subst o n
  cases (L)
  obtain⟨z,p,Y,f,m⟩:=zmk I.hok e;have C:Y.length<=sizeLine:=by rw[<- Paired.length f];exact z
  have t:(putK d k v).length<=sizeLine:=by have:=z5m d k v;omega
  refine wpAny_setItem_heap (hsz:=C) (tupleKind_room_in1 W) (zc1 I.hok F) m λJ i x=>h _ ?_;obtain⟨q,N,M,j,O,R,S,_,T⟩:=i;refine zcr I (by rw[e];exact True.intro) x ⟨q,j⟩ ⟨t,p,_,(f.put k F K).keeps λc Z G =>?_,q,N,M,j,O,R,S,T⟩;rw[z08 (zm6 G e (λz=>nomatch z))];exact G
end
def zl6 (h j i:TE):TS:=λD b H=>i b H λv e=>h b e λx f=>j b f λy g=>∃a d,x = .ref a/\DPut g a y v d/\D.nx b d
section
variable {X:Cx}{o i e value:Expr}{pos pos' tpos:Pos}{td ty tv:TE}
def zgz (z:X.A.units+1<cLine)(t:PE X o td)(q:PE X i ty)(C:PE X value tv)(w:swapsWith value (some (.Subscript o i pos')) pos.line X.env=pure false):
  PS X (.Assign [.Subscript o i pos'] value pos) (zl6 td ty tv):=by
 intro d s b H D I h;refine wpAny_Assign_Subscript (thn (C _ s b H _ I h) λr M ⟨v,e,l,J,E⟩=>thn (t _ M b e _ l E) λu N ⟨x,f,m,K,F⟩=>thn (q _ N b f _ m F) λR S O =>?_) w;obtain⟨y,Q,n,L,a,j,ex,g,G⟩:=O;subst ex;obtain rfl:u=Value.ref a:=K;exact zcs z n g L J λT p=>⟨b,j,p,G⟩
end
def zeq {P:Program}(h:Heap)(a:sysModules<h.objs.size):z1m P w H (h.push { cls :=.type "dict",data :=.dict #[] }) h.objs.size (.dK []):=
 ⟨vG _,beq_eq_false_iff_ne.mpr (vQ (wJ a)),[],.nil,Heap.DictOf.new h⟩
def zhU:TE:=λ_ H Q=>∀p,H p=none->Q (.ref p) (upd H p (.dK []))
section
variable {X:Cx}{pos:Pos}
def zdK:PE X (.Dict [] [] pos) zhU:=λa s b H Q I h=>
 wpAny_Dict_empty ⟨.ref _,_,I.laid (λ_ _ q=>wf _ q) (wt _) (zeq _ I.big),rfl,h _ (I.hok.fresh (wt _))⟩
end
structure M2 (X:Cx)(o:Expr)(m:Str)(apos:Pos)(e f:Expr)(cpos:Pos):Prop where
 base:aB o m X
 few:aG cpos [e,f] X
 line:aL apos cpos
 trees:backTo cpos (starEach [e,f] X.env)=[(false,eval e X.env),(false,eval f X.env)]
def IsD (H:Hp)(a:Addr):Prop:=(∃b,Rd H a (.dK b))\/∃b,Rd H a (.dT b)
def zfp (I:Inv X pins σ H s)(d:IsD H a):
  s.TypeIs (.ref a) "dict"/\(∀b,Value.ref a = .ref b->∃f,s.heap.get? b=some f/\f.dict=none)/\(a == sysModules)=false:=by
 rcases d with ⟨l,e⟩ | ⟨l,e⟩
 .obtain⟨_,j,vs,_,g⟩:=zcn I.hok e;refine⟨g.typeIs,λb q =>?_,j⟩
  cases q
  obtain⟨f,_,_,h,i,_⟩:=g;exact⟨f,h,i.2.1⟩
 .obtain⟨_,j,m,_,g⟩:=zhk I.hok e;refine⟨g.typeIs,λb q =>?_,j⟩
  cases q
  obtain⟨f,_,_,h,i,_⟩:=g;exact⟨f,h,i.2.1⟩
section
variable {X:Cx}{pins:List (Addr × Obj)}{σ:St}{H:Hp}{s:Shared}{a:Addr}{y d:V}{u r:Value}{o:Option V}{A:Around}{E:WvP}
def zkw (x:A.units+1<cLine)(I:Inv X pins σ H s)(g:DGet H a y o)(p:RelV y u)(rd:RelV d r)(h:∀q s',Inv X pins σ H s'->RelV (o.getD d) q->Q q s'):
  wpAny (model X.prog X.w) A (call (.builtin "dict.get") [.ref a,u,r]) Q E s:=by
 rcases g with ⟨n,k,e,j,l⟩ | ⟨n,k,b,e,j,t,l⟩
 .subst j;obtain⟨z,m,vs,f,i⟩:=zcn I.hok e;refine call_meetsIn PySem.F.slot_dict_get i.typeIs PySem.F.entry_dict_get (PySem.F.args_dict_get_3 _ _ _) (meets_dict_get_default _ a (zha p) m r) ⟨_,i.mapOf,h _ _ (I.tok _) ?_⟩;rw[l];exact(f.val k).getD rd
 .subst j
  cases (p)
  obtain⟨z,m,C,f,i⟩:=zhk I.hok e;refine call_meetsIn PySem.F.slot_dict_get i.typeIs PySem.F.entry_dict_get (PySem.F.args_dict_get_3 _ _ _) (meetsH_dict_get_default _ a b m r) ⟨tupleKind_room_in1 x,k,C,zc1 I.hok t,i,h _ _ (I.tok _) ?_⟩;rw[l];exact(f.val k).getD rd
end
def zhV (g h tx:TE):TE:=λb H Q=>g b H λx d=>∃a,x = .ref a/\IsD d a/\h b d λy f=>tx b f λz e=>∃o,DGet e a y o/\Q (o.getD z) e
section
variable {X:Cx}{o e f:Expr}{apos cpos:Pos}{td ty tx:TE}
def zdL (J:X.A.units+1<cLine)(G:PE X o td)(C:PE X e ty)(E:PE X f tx)(m:M2 X o "get" apos e f cpos):PE X (.Call (.Attribute o "get" apos) [e,f] [] cpos) (zhV td ty tx):=by
 intro l s i H Q I h;refine wpAny_Call_method m.base m.few m.line PySem.F.plainAttrs_dict PySem.F.slot_dict_get PySem.F.type_dict_get (thn (G _ s i H _ I h) λu S Y =>?_);obtain⟨x,n,j,N,a,ex,d,K⟩:=Y;subst ex;obtain rfl:u=Value.ref a:=N;obtain⟨U,W,_⟩:=zfp j d;refine⟨U,W,?_⟩;rw[m.trees];refine uU rfl (Calls.evalArgs_plain (Calls.spliced_cons (thn (C _ S i n _ j K) λiv T ⟨y,p,r,O,L⟩=>
  Calls.spliced_cons (thn (E _ T i p _ r L) λZ s3 ⟨z,q,t,R,ov,g,M⟩=>Calls.spliced_nil ?_))))
 exact zkw J t g O R λw' s4 w b=>⟨_,q,w,b,M⟩
end
end L2
namespace Pu
open PySem PySem.Spec PyProof.Rows L2
def dk (kvs:List (Key × D)):D :=.dct (kvs.map λp=>kD p.1) (kvs.map (·.2))
noncomputable def valD (kvs:List (Key × D))(k:Key):Option D:=(kvs.find? λp=>decide (p.1=k)).map (·.2)
noncomputable def putD (kvs:List (Key × D))(k:Key)(d:D):List (Key × D):=if (kvs.any λp=>decide (p.1=k))=true then kvs.map (λp=>if p.1=k then (p.1,d) else p) else kvs++[(k,d)]
def PK (K:W.Frag)(mg:WmP)(G:Hp):List (Key × D)->List (Key × V)->Prop
 | [],[]=>True
 | (k,d)::r,(a,v)::b=>k=a/\RD K mg G d v/\PK K mg G r b
 | _,_=>False
def zkj:∀{k a:Key},kD k=kD a->k=a
 | .inl _,.inl _,h=>by injection h with h;rw[h]
 | .inr _,.inr _,h=>by injection h with h;rw[h]
 | .inl _,.inr _,h=>by cases h
 | .inr _,.inl _,h=>by cases h
section
variable {K:W.Frag}{mg:WmP}{G G' H:Hp}
theorem PK.of:∀{kvs:List (Key × D)}{a:List (Key × V)},kvs.map (λp=>kD p.1)=a.map (λp=>kD p.1)->RDs K mg G (kvs.map (·.2)) (a.map (·.2))->PK K mg G kvs a
 | [],[],_,_=>trivial
 | [],_::_,h,_=>by cases h
 | _::_,[],h,_=>by cases h
 | (k,d)::r,(g,v)::i,h,q=>by
  simp[wI,List.cons.injEq] at h q;obtain⟨x,y,e,b,f⟩:=q;simp[List.cons.injEq] at e;obtain⟨rfl,rfl⟩:=e;exact⟨zkj h.1,b,PK.of h.2 f⟩
theorem PK.keys:∀{kvs:List (Key × D)}{a:List (Key × V)},PK K mg G kvs a->kvs.map (·.1)=a.map (·.1)
 | [],[],_=>rfl
 | [],_::_,h=>h.elim
 | _::_,[],h=>h.elim
 | (k,d)::r,(b,v)::e,h=>by
  obtain⟨rfl,_,h⟩:=h;simp[PK.keys h]
theorem PK.rds:∀{kvs:List (Key × D)}{a:List (Key × V)},PK K mg G kvs a->RDs K mg G (kvs.map (·.2)) (a.map (·.2))
 | [],[],_=>RDs.nil
 | [],_::_,h=>h.elim
 | _::_,[],h=>h.elim
 | (k,d)::r,(b,v)::e,h=>RDs.cons h.2.1 (PK.rds h.2.2)
theorem PK.same (g:Same G G'):∀{kvs:List (Key × D)}{a:List (Key × V)},PK K mg G kvs a->PK K mg G' kvs a
 | [],[],_=>trivial
 | [],_::_,h=>h.elim
 | _::_,[],h=>h.elim
 | (k,d)::r,(b,v)::e,h=>⟨h.1,h.2.1.same g,PK.same g h.2.2⟩
theorem PK.val:∀{kvs:List (Key × D)}{a:List (Key × V)},PK K mg G kvs a->(valD kvs j=none/\valV a j=none)\/∃d v,valD kvs j=some d/\valV a j=some v/\RD K mg G d v
 | [],[],_ =>.inl ⟨rfl,rfl⟩
 | [],_::_,h=>h.elim
 | _::_,[],h=>h.elim
 | (k,d)::r,(i,v)::l,h=>by
  obtain⟨rfl,f,g⟩:=h
  by_cases e:k=j
  .refine .inr ⟨d,v,?_,z4R e,f⟩;unfold valD;rw[jg,vz e]
   rfl
  .have b:valD ((k,d)::r) j=valD r j:=by
    unfold valD
    simp_all
   rw[b,z4S e];exact PK.val g
theorem PK.any {j:Key}{kvs:List (Key × D)}{a:List (Key × V)}(h:PK K mg G kvs a):(kvs.any λp=>decide (p.1=j))=(a.any λp=>decide (p.1=j)):=by
 have b:(kvs.any λp=>decide (p.1=j))=((kvs.map (·.1)).any λk=>decide (k=j)):=by rw[List.any_map];rfl
 have d:(a.any λp=>decide (p.1=j))=((a.map (·.1)).any λk=>decide (k=j)):=by rw[List.any_map];rfl
 rw[b,d,h.keys]
theorem PK.repl (a:RD K mg G d0 v0):∀{kvs:List (Key × D)}{f:List (Key × V)},PK K mg G kvs f->PK K mg G (kvs.map λp=>if p.1=j then (p.1,d0) else p) (f.map λp=>if p.1=j then (p.1,v0) else p)
 | [],[],_=>trivial
 | [],_::_,h=>h.elim
 | _::_,[],h=>h.elim
 | (k,d)::r,(i,v)::l,h=>by
  obtain⟨rfl,g,b⟩:=h;simp[wI]
  by_cases e:k=j
  .rw[if_pos e,if_pos e];exact⟨rfl,a,PK.repl a b⟩
  .rw[if_neg e,if_neg e];exact⟨rfl,g,PK.repl a b⟩
theorem PK.snoc (b:RD K mg G d0 v0):∀{kvs:List (Key × D)}{a:List (Key × V)},PK K mg G kvs a->PK K mg G (kvs++[(j,d0)]) (a++[(j,v0)])
 | [],[],_=>⟨rfl,b,trivial⟩
 | [],_::_,h=>h.elim
 | _::_,[],h=>h.elim
 | (k,d)::r,(e,v)::f,h=>⟨h.1,h.2.1,PK.snoc b h.2.2⟩
def PK.put (a:RD K mg G d0 v0)(h:PK K mg G kvs kw):PK K mg G (putD kvs j d0) (putK kw j v0):=by
 unfold putD putK;rw[h.any]
 split
 .exact h.repl a
 .exact h.snoc a
def PK.len {kvs:List (Key × D)}{a:List (Key × V)}(h:PK K mg G kvs a):kvs.length=a.length:=by
 have:=congrArg List.length h.keys;simpa using this
def zju (h:z4C K mg G H a (dk kvs)):∃kw,H a=some (.dK kw)/\PK K mg G kvs kw:=by
 obtain⟨j,e,⟨kw,q,b,rfl⟩ | ⟨kw,q,n,b,rfl⟩⟩:=h
 .exact⟨kw,q,PK.of b e⟩
 .exfalso
  cases kw with
  | nil=>exact n rfl
  | cons p r=>
   cases kvs with
   | nil=>cases b
   | cons f g=>
    simp[wI,List.cons.injEq] at b;obtain⟨⟨i | x,d⟩,_⟩:=f,g
    all_goals exact absurd b.1 (by simp[kD])
def zft (h:H a=some (.dK kw))(p:PK K mg G kvs kw):z4C K mg G H a (dk kvs):=by
 refine⟨_,p.rds,.inl ⟨kw,h,?_,rfl⟩⟩;have:kvs.map (λp=>kD p.1)=(kvs.map (·.1)).map kD:=by rw[wP];rfl
 rw[this,p.keys,wP]
 rfl
def zim {v:V}(h:RD K mg G (dk kvs) v):∃a kw,v = .ref a/\Rd G a (.dK kw)/\PK K mg G kvs kw:=by
 unfold dk at h;obtain⟨a,j,rfl,e,⟨kw,q,b,rfl⟩ | ⟨kw,q,n,b,rfl⟩⟩:=h
 .exact⟨a,kw,rfl,q,PK.of b e⟩
 .exfalso
  cases kw with
  | nil=>exact n rfl
  | cons p r=>
   cases kvs with
   | nil=>cases b
   | cons f g=>
    simp[wI,List.cons.injEq] at b;obtain⟨⟨i | x,d⟩,_⟩:=f,g
    all_goals exact absurd b.1 (by simp[kD])
def zik {k:Key}{v:V}(h:RD K mg G (kD k) v):v=kV k:=by
 cases k with
 | inl i=>exact(by exact h)
 | inr x=>exact(by exact h)
end
open Tab
def ownD (b:Env)(i:Nat)(P:List (Key × D)->Prop):Prop:=∃a,b[i]? = some (.o (dk a))/\P a
def Sm.dput (i:Nat)(k e:Ex):Sm:=⟨λf N _ X=>ownD f i λa=>e.run f (λd=>Safe d f/\k.run f (λb=>∃j,b=kD j/\a.length<sizeLine/\N (f.set i (.o (dk (putD a j d))))) X) X,λf N s Q t X g r m l ⟨a,h,q⟩=>⟨a,h,e.mono f _ _ X g (λd q=>⟨q.1,k.mono f _ _ X g (λb ⟨j,n,p,q⟩=>⟨j,n,p,r _ q⟩) l q.2⟩) l q⟩⟩
def zjt:Fn:=⟨λ_ Q _=>Q (dk []),λ_ Q a X b m _ q=>m _ q⟩
def Ex.dget2 (x k e:Ex):Ex:=⟨λf Q X=>x.run f (λa=>∃d,a=dk d/\k.run f (λb=>∃j,b=kD j/\e.run f (λc=>Q ((valD d j).getD c)) X) X) X,λf Q l X g m i q=>x.mono f _ _ X g (λa ⟨d,h,q⟩=>⟨d,h,k.mono f _ _ X g (λb ⟨j,h,q⟩=>⟨j,h,e.mono f _ _ X g (λc q=>m _ q) i q⟩) i q⟩) i q⟩
abbrev dkI (rs:List (Int × D)):D:=dk (rs.map λr=>(Sum.inl r.1,r.2))
def zcd (d:D)(Q:DK):Prop:=∃e,d=dkI e/\(e.map (·.1)).Nodup/\e.length<=63/\∀f:List (Int × D),f.Perm e->f.Pairwise (λa b=>a.1<b.1)->Q (.lst (f.map pdD))
def z62:Fn:=fn1 zcd λd Q j m ⟨i,e,f,g,q⟩=>⟨i,e,f,g,λh a b=>m _ (q h a b)⟩
section
variable {X:Cx}{E:XK}{e f o y:Expr}{x z u:Ex}{pos spos apos cpos p1:Pos}{i:Nat}
def zg7 (hu:X.A.units+64<cLine)(S:QE X o (tVar i))(Y:QX X E y z)(Q:QX X E e x)(U:autoParam (swapsWith e (some (.Subscript o y spos)) pos.line X.env=pure false) jA1):QZ X E (.Assign [.Subscript o y spos] e pos) (.dput i z x):=
 QS.imp ⟨zgz (by omega) S.p Y.p Q.p U⟩ <| by
  rintro De σ H ⟨H0,G0,G,ρ,N0,R0,X0,m,⟨a0,t,T⟩,R,hR,C⟩;refine zcS m T C λd w G1 H1 q N s g3 rd =>?_;obtain⟨h,n⟩:=m.back N s g3;have r:=z3n m s g3 q.1 rd;obtain⟨a,I,ga,h0,W⟩:=h.ow i _ t;refine⟨.ref a,I,?_⟩;refine zcS h q.2 C λb u G2 H2 q2 k1 k2 F rb =>?_;obtain⟨f,l⟩:=h.back k1 k2 F;obtain⟨j,rfl,Z,O⟩:=q2;rw[zik rb];obtain⟨kw,w1,J⟩:=zju W;refine⟨a,_,rfl,DPut.k (F _ _ w1) (by rw[<- J.len];exact Z),?_⟩;refine R _ σ _ _ O (f.wr f.nw Same.refl' f.g Same.refl' (λj' L K M s'=>f.free K ⟨j',L,M,s'⟩) t I (zft z0c ((J.same l).put (r.same l)))) (z02 n l)
def zgo:QF X E (.Dict [] [] pos) (.op zjt []):=QE.imp ⟨zdK⟩ λj H Q ⟨G,i,Q0,f,b,g,e,d,h⟩ p a=>
 d _ p G _ e Gr.refl (z02 b (z0j a _)) (z0j a _) a (z0Z b a) (zft z0c trivial)
def z6r {G H:Hp}{a:Addr}{o:HO}(g:Same G H)(h:Rd G a o):Rd H a o:=h.imp (g _ _) λ⟨u,e⟩=>⟨u,g _ _ e⟩
def zdo (hu:X.A.units+64<cLine)(Z:QX X E o x)(T:QX X E e z)(U:QX X E f u)(m:autoParam (aB o "get" X) jA1)
  (hw:autoParam (aG cpos [e,f] X) jA1)
  (Y:autoParam (aL apos cpos) jA1) (ht:autoParam (backTo cpos (starEach [e,f] X.env)=[(false,eval e X.env),(false,eval f X.env)]) jA1):QX X E (.Call (.Attribute o "get" apos) [e,f] [] cpos) (.dget2 x z u):=
 QE.imp ⟨zdL (by omega) Z.p T.p U.p ⟨m,hw,Y,ht⟩⟩ <| by
 rintro σ H Q ⟨G,t,Q0,h,hs,i,hr,W,n⟩;refine⟨G,t,_,h,hs,i,hr,λd v L H1 ⟨a0,S,q⟩ l F g3 rd =>?_,n⟩;subst S;obtain⟨a,J,rfl,I,R⟩:=zim rd;refine⟨a,rfl,.inl ⟨J,z6r F I⟩,?_⟩;refine⟨L,t,_,h,F,i.same l.1,q,λb w M H2 ⟨j,m,q2⟩ g k2 r rb =>?_,n.same g3⟩;subst m;rw[zik rb];refine⟨M,t,_,h,k2,i.same (z02 l.1 g.1),q2,λc v N O q3 s K m3 rc =>?_,n.same (z02 g3 r)⟩;refine⟨_,.inl ⟨J,j,z6r (z02 g.1 (z02 s.1 K)) I,rfl,rfl⟩,?_⟩;refine W _ _ N O q3 (l.trans g3 (g.trans r s)) K (z02 g3 (z02 r m3)) ?_
 rcases R.val (j:=j) with ⟨y,C⟩ | ⟨d,v,y,C,rv⟩
 .simp_all
 .rw[y,C];exact rv.same (z02 g.1 s.1)
def zm7 {H f:Hp}{a:List (Addr × Obj)}{g:L2.St}{s:Shared}{h':Heap}{t':Nat}(I:Inv X a g H s)(k:∀b u,s.heap.get? b=some u->h'.get? b=some u)(d:Same H f)(i:∀b o,f b=some o->H b=some o\/(s.heap.get? b=none/\z1m X.prog X.w f h' b o)):
  Inv X a g f { s with heap:=h',toks:=t' }:=
 have h  := λb o e q=>by
  cases z:f b with
  | none=>rfl
  | some v=>
   grind
 I.un ⟨λb o e q _ _=>k b o e,λb o e q _ _=>⟨o.slots,k b o e⟩,λb o e q _=>h b o e q,λb o e _=>⟨o,k b o e⟩,λb j e=>d _ _ e,λb o u e=>d _ _ e,λb ps e=>⟨#[],by exact d _ _ e⟩⟩ λb v e=>by
  rcases i b v e with w | w
  .exact(I.hok b v w).stay (λc v _ q=>k c v q) (λc q=>d _ _ q) (λc j q=>d _ _ q) λc _ _ q=>d _ _ q
  .exact w.2
noncomputable def layP (H:Hp):List (Addr × Int × V)->Hp
 | []=>H
 | r::l=>upd (layP H l) r.1 (.tup [.int r.2.1,r.2.2])
theorem z2P {H:Hp}{b:Addr}:∀{l:List (Addr × Int × V)},(∀r∈l,r.1≠b)->layP H l b=H b
 | [],_=>rfl
 | r::l,h=>by rw[layP,z08 (vQ (h r (by simp)))];exact z2P λx a=>h x (by simp[a])
theorem z8G {H:Hp}:∀{l:List (Addr × Int × V)},(l.map (·.1)).Nodup->∀r∈l,layP H l r.1=some (.tup [.int r.2.1,r.2.2])
 | r::l,b,x,a=>by
  rw[wI,vf] at b
  rcases wm.mp a with rfl | a
  .exact z0c
  .rw[layP,z08 (λz=>b.1 (we.mpr ⟨x,a,z⟩))];exact z8G b.2 x a
def z7H (h:∀r∈l,H r.1=none):Same H (layP H l):=λb o e=>by
 rw[z2P λr a z=>by rw[<- z,h r a] at e;cases e];exact e
theorem z7I (g:Same G H):∀{l:List (Addr × Int × V)},Same (layP G l) (layP H l)
 | []=>g
 | r::l=>λb o e=>by
  rw[layP] at e ⊢
  by_cases a:b=r.1
  .subst a;rw[z0c] at e ⊢;exact e
  .rw[z08 a] at e ⊢;exact z7I g b o e
theorem zbZ {K:W.Frag}{mg:WmP}{G:Hp}:∀{a:List (Addr × Int × V)}{m:List (Int × D)},Two (λr p=>r.2.1=p.1/\RD K mg G p.2 r.2.2) a m->(∀r∈a,G r.1=some (.tup [.int r.2.1,r.2.2]))->RDs K mg G (m.map pdD) (a.map λr =>.ref r.1)
 | _,_,.nil,_=>RDs.nil
 | r::_,p::_,.cons h t,k=>RDs.cons (RD.ofT (SqT.of (k r (by simp))) (RDs.cons (by rw[h.1];rfl) (RDs.cons h.2 RDs.nil))) (zbZ t λx b=>k x (by simp[b]))
def zm8 {P:Program}{k:Int}{v:Value}(h:(z15 P w).is (.inl k) v=true):∃t,v = .int k t:=by
 rw[zak] at h
 rcases z0L h with ⟨i,t,e,rfl⟩ | ⟨x,t,e,_⟩
 .grind
 .cases e
theorem zfo {P:Program}{w:World}{h:Heap}:∀{d:List (Int × V)}{vs:List (Key × Value)}{as:List Addr},KV (d.map λp=>(Sum.inl p.1,p.2)) vs->as.length=vs.length->(∀(j:Nat) b,as[j]? = some b->∃key k x,vs[j]? = some (k,x)/\(z15 P w).is k key=true/\h.get? b=some { cls :=.type "tuple",data :=.seq #[key,x] })->
  Two (λv z=>v = .ref z.1/\∃t w,RelV z.2.2 w/\h.get? z.1=some { cls :=.type "tuple",data :=.seq #[.int z.2.1 t,w] }) (as.map Value.ref) (as.zip d)
 | [],_,as,r,a,_=>by
  cases r
  rw[uM.mp a];exact .nil
 | q::d,_,as,r,a,f=>by
  cases r with
  | cons r1 r2=>
   cases as with
   | nil=>simp at a
   | cons b as=>
    refine .cons ?_ (zfo r2 (by simpa using a) λj b i=>f (j+1) b (by simpa using i));obtain⟨key,k,x,e,m,l⟩:=f 0 b rfl;simp at e;rw[e] at r1;have g  := r1.1;subst g;obtain⟨t,rfl⟩:=zm8 m;exact⟨rfl,t,x,r1.2,l⟩
theorem vals_refs:∀l:List (Addr × Int × V),Vals (l.map λr =>.ref r.1) (l.map λr =>.ref r.1)
 | [] =>.nil
 | _::l =>.cons rfl (vals_refs l)
def ItV (v a:Addr):HO :=.ext λh=>h.IsItemsView v a
def z8R (hc:X.calm=true):z0A X (.builtin "sorted") (λvs H Q=>∃(v a:Addr) (kw:List (Int × V)),vs=[.ref v]/\H v=some (ItV v a)/\Rd H a (.dK (kw.map λp=>(Sum.inl p.1,p.2)))/\(kw.map (·.1)).Nodup/\kw.length<=63/\
  ∀D n,H D=none->(n.map (·.2)).Perm kw->n.Pairwise (λa b=>a.2.1<b.2.1)->(n.map (·.1)).Nodup->(∀r∈n,H r.1=none/\r.1≠D)->Q (.ref D) (upd (layP H n) D (.lst (n.map λr =>.ref r.1)))):=by
 rintro a1 s σ H xs us Q I rv ⟨v,a,kw,e,T,hd,nd,d,q⟩;subst e;obtain⟨u,rfl,rx⟩:=z30 rv
 cases rx
 obtain⟨U,_⟩:=I.hok v _ T;obtain⟨_,_,vs,r,od,es,ep,da⟩:=zcn I.hok hd;have a0:kw.length=vs.length:=by rw[<- KV.length r,wd]
 refine Tim.z5a λE' =>?_;refine W.kdx_collect (knd:=z15 X.prog X.w) (kvs:=vs) (ep:=ep) (by simp[I.ok.hd hc]) U ⟨od,es,da⟩ (wO (show vs.length<=64 by omega) (by decide)) λi tk as keep hl K =>?_;have j:=zfo r hl K.pairs;have tp:∀z∈as.zip kw,Tim.TP i (.ref z.1) z.2.1:=λz d=>by
  obtain⟨v,_,_,t,w,_,g⟩:=j.mem_right d;exact⟨_,_,_,_,t,w,rfl,g,rfl,rfl,rfl⟩
 have zl:(as.zip kw).map (·.1)=as:=List.map_fst_zip (by omega);have zr:(as.zip kw).map (·.2)=kw:=List.map_snd_zip (by omega);have Z:as.Nodup:=K.rise.imp λh=>wJ h;have C:∀v (z:Addr × Int × V),(v = .ref z.1/\∃t w,RelV z.2.2 w/\i.get? z.1=some { cls :=.type "tuple",data :=.seq #[.int z.2.1 t,w] })->Tim.keyP i v=z.2.1:=by
  rintro v z ⟨e,t,w,_,g⟩;rw[e];exact Tim.TP.key ⟨_,_,_,_,t,w,rfl,g,rfl,rfl,rfl⟩
 have x:(as.map Value.ref).map (Tim.keyP i)=kw.map (·.1):=by
  rw[z53 C j, <- zr,wP,zr]
  rfl
 have R:∀v∈as.map Value.ref,Tim.TP i v (Tim.keyP i v):=λv T=>by
  obtain⟨z,d,e,_⟩:=j.mem_left T;rw[e,(tp z d).key];exact tp z d
 have inj:∀u∈as.map Value.ref,∀v∈as.map Value.ref,Tim.keyP i u=Tim.keyP i v->u=v:=zc6 (by rw[x];exact nd);refine⟨_,by rw[wd];omega,Tim.z4P.prs R inj,λG p1 p2 h' Y z9 =>?_⟩;obtain⟨e,he⟩:=z9;dsimp only at Y he ⊢;obtain⟨m,l,tm⟩:=j.perm p1.symm;have E:G=m.map λz =>.ref z.1:=by
  have:=z53 (f:=λv=>v) (g:=λz:Addr × Int × V=>Value.ref z.1) (λ_ _ h=>h.1) tm;simpa using this
 have perm:(m.map (·.2)).Perm kw:=by rw[<- zr];exact(l.map (·.2)).symm
 have F:(m.map (·.1)).Nodup:=(l.map (·.1)).nodup_iff.mp (by rw[zl];exact Z);have new:∀z∈m,s.heap.get? z.1=none/\z.1≠i.objs.size:=λz d=>by
  have A:z.1∈as:=by rw[<- zl];exact we.mpr ⟨z,l.mem_iff.mpr d,rfl⟩
  refine⟨?_,wJ (K.there A)⟩
  cases y:s.heap.get? z.1 with
  | none=>rfl
  | some o=>exact absurd (wu y) (j5.mpr (uy (K.above _ A)))
 have O:s.heap.get? i.objs.size=none:=by
  cases y:s.heap.get? i.objs.size with
  | none=>rfl
  | some o=>exact absurd (wu (keep _ _ y)) (vV _)
 have mk:(as.zip kw).Perm m:=l;have hT:∀z∈m,Ee2 λt w=>RelV z.2.2 w/\h'.get? z.1=some { cls :=.type "tuple",data :=.seq #[.int z.2.1 t,w] }:=λz d=>by
  obtain⟨v,_,_,t,w,N,J⟩:=j.mem_right (l.mem_iff.mpr d);exact⟨t,w,N,Y _ _ J⟩
 have S:∀z∈m,z.1≠i.objs.size:=λz d=>(new z d).2;refine⟨.ref i.objs.size,upd (layP H m) i.objs.size (.lst (m.map λr =>.ref r.1)),zm7 (t':=tk) I (λb o y=>Y b o (keep b o y)) (λb o y =>?_) (λb o y =>?_),rfl,q _ m (I.hok.none_of O) perm ?_ F λz d=>⟨I.hok.none_of (new z d).1,S z d⟩⟩
 .have L:∃u,s.heap.get? b=some u:=z1m.there (I.hok b o y);obtain⟨u,M⟩:=L;rw[z08 (λz=>by rw[z,O] at M;cases M),z2P λz d e=>by rw[<- e,(new z d).1] at M;cases M];exact y
 .by_cases L:b=i.objs.size
  .subst L;rw[z0c] at y
   cases y
   refine .inr ⟨O,by rw[wd, <- l.length_eq,uS];exact wO (show _<=64 by omega) (by decide),G,e,?_,he⟩;rw[E];exact vals_refs m
  .rw[z08 L] at y
   by_cases hm:∃z∈m,z.1=b
   .obtain⟨z,d,rfl⟩:=hm;rw[z8G F z d] at y
    cases y
    obtain⟨t,w,N,J⟩:=hT z d;exact .inr ⟨(new z d).1,by show 2<=sizeLine;decide,[.int z.2.1 t,w],.cons ⟨t,rfl⟩ (.cons N .nil),⟨_,J,rfl,_,rfl⟩,⟨_,J,rfl⟩⟩
   .rw[z2P λz d e=>hm ⟨z,d,e⟩] at y;exact .inl y
 .refine zeP (h:=i) p1 p2 (g:=λz:Addr × Int × V=>z.2.1) (z53 C tm) ?_;have:=perm.map (·.1);rw[wP] at this;exact this.nodup_iff.mpr nd
theorem zbt {K:W.Frag}{mg:WmP}{G:Hp}:∀{b:List (Int × D)}{d:List (Key × V)},PK K mg G (b.map λr=>(Sum.inl r.1,r.2)) d->∃a:List (Int × V),d=a.map (λp=>(Sum.inl p.1,p.2))/\a.map (·.1)=b.map (·.1)/\Two (λp r=>p.1=r.1/\RD K mg G r.2 p.2) a b
 | [],[],_=>⟨[],rfl,rfl,.nil⟩
 | r::b,(k,v)::d,⟨f,g,h⟩=>by
  obtain⟨a,rfl,e,t⟩:=zbt h;subst f;exact⟨(r.1,v)::a,rfl,by simp[e],.cons ⟨rfl,g⟩ t⟩
def zdJ (y:PE X o td)(q:aB o "items" X)(A:aG cpos [] X)(t:aL apos cpos)(z:backTo cpos (starEach [] X.env)=[]):
  PE X (.Call (.Attribute o "items" apos) [] [] cpos) (λm H Q=>td m H λx i=>∃a l,x = .ref a/\Rd i a (.dK l)/\∀v,i v=none->Q (.ref v) (upd i v (ItV v a))):=by
 intro f s m H Q I h;refine wpAny_Call_method q A t PySem.F.plainAttrs_dict PySem.F.slot_dict_items PySem.F.type_dict_items (thn (y f s m H _ I h) λu g M =>?_);obtain⟨x,i,j,E,a,l,ex,d,C⟩:=M;subst ex;obtain rfl:u=Value.ref a:=E;obtain⟨J,K,L⟩:=zfp j (.inl ⟨l,d⟩);refine⟨J,K,?_⟩;rw[z];refine uU rfl (PySem.evalArgs_none ?_);obtain⟨_,_,vs,_,n⟩:=zcn j.hok d;refine call_meetsIn PySem.F.slot_dict_items n.typeIs PySem.F.entry_dict_items (PySem.F.args_dict_items_1 _) (meets_dict_items (z15 X.prog X.w) a L) ⟨⟨vs,n⟩,?_⟩;have p:(g.heap.push { cls :=.type "dict_items",data :=.fields #[.ref a] }).get? g.heap.objs.size=some { cls :=.type "dict_items",data :=.fields #[.ref a] }:=wp _ rfl;exact⟨.ref g.heap.objs.size,_,j.laid (o:=ItV g.heap.objs.size a) (t':=g.toks) (λb o e=>wf _ e) (wt _) ⟨⟨_,p,rfl,rfl⟩,⟨_,p⟩,λN O ⟨o,e,r⟩ G=>⟨o,G _ e,r⟩⟩,rfl,C _ (j.hok.fresh (wt _))⟩
def z7k {p4:Pos}(hc:X.calm=true)(hg:Gl X "sorted")(hm:X.mg "sorted"=none)(ho:QX X E o x)(F:autoParam (aB o "items" X) jA1)
  (hw:autoParam (aG cpos [] X) jA1) (hl:autoParam (aL apos cpos) jA1) (ht:autoParam (backTo cpos (starEach [] X.env)=[]) jA1)
  (I:autoParam (starEach [.Call (.Attribute o "items" apos) [] [] cpos] X.env=(false,eval (.Call (.Attribute o "items" apos) [] [] cpos) X.env)::starEach [] X.env) jA1):QF X E (.Call (.Name "sorted" p1) [.Call (.Attribute o "items" apos) [] [] cpos] [] p4) (.op z62 [x]):=
 QE.imp (z3X (z8R hc) hg hm (by rfl) (z3F ⟨zdJ ho.p F hw hl ht⟩ z60 I) (by decide) (by decide) I (by rfl)) <| by
  rintro σ H Q ⟨G,W,Q0,X0,I,Y,i,hk,hx⟩;have L:x.run W (λd=>zcd d Q0) X0:=i;refine⟨G,W,_,X0,I,Y,L,λd v A s q g1 t g3 rd =>?_,hx⟩;obtain⟨rs,rfl,nd,hz,q⟩:=q;obtain⟨a,kw,rfl,R,h2⟩:=zim rd;obtain⟨kv,rfl,S,h4⟩:=zbt h2;refine⟨a,_,rfl,z6r t R,λv hv =>?_⟩;have O:Same s (upd s v (ItV v a)):=z0j hv _;refine⟨v,a,kv,rfl,z0c,z6r (z02 t O) R,by rw[S];exact nd,by rw[<- wd (f:=(·.1)),S,wd];exact hz,λw j C pm J M new =>?_⟩;have Z:w≠v:=λz=>by rw[z,z0c] at C;cases C
  have n:∀r∈j,s r.1=none:=λr i=>by
   have:=(new r i).1
   rwa [z08 (λz=>by rw[z,z0c] at this;cases this)] at this
  have u:s w=none:=by rwa [z08 Z] at C
  have nG:∀r∈j,A r.1=none:=λr i=>z0Z t (n r i);obtain⟨m,N,K⟩:=Two.perm pm.symm h4;have K:=z8h K;have s2:=z7I (l:=j) (z02 t O);have T:Gr A s (layP A j):=⟨z7H nG,λb o y=>by
   by_cases F:∃r∈j,r.1=b
   .obtain⟨r,i,rfl⟩:=F;exact .inr (n r i)
   .rw[z2P λr i z=>F ⟨r,i,z⟩] at y;exact .inl ⟨o,y⟩⟩
  have lD:layP (upd s v (ItV v a)) j w=none:=by rw[z2P λr i=>(new r i).2];exact C
  have U:=z0j lD (.lst (j.map λr=>V.ref r.1));refine hk (.lst (m.map pdD)) w (layP A j) _ (q m N.symm ?_) (g1.trans g3 T) (z02 s2 U) (z02 g3 (z02 O (z02 (z7H λr i=>(new r i).1) U))) (z0Z g3 u) (by rw[z2P λr i=>(new r i).2];exact z0Z t u) ⟨_,z0c,zbZ (K.imp λr p h=>⟨h.1,h.2.same T.1⟩) (z8G M)⟩;have e:=z53 (f:=λr:Addr × Int × V=>r.2.1) (g:=λp:Int × D=>p.1) (λr p h=>h.1) K;have J:(j.map λr=>r.2.1).Pairwise (· < ·):=wZ.mpr J;rw[e] at J;exact wZ.mp J
end
end Pu
namespace Pu
open PySem L2
def z2q:Fn:=Fn.mkN 2 4 (.seq (.set 2 (.op z27 [.v 1]))
 (.seq (.set 3 (.comp 1 [2,1] (.nm 0) (.v 0) none (.op pTup [.op z10 [.v 0,.v 1],.op z10 [.v 0,.v 2]])))
 (.ret (.op z9e [.v 3]))))
def z1j:Fn:=Fn.mkN 3 7 (.seq (.own 3 (.op zjt []))
 (.seq (.for_ [] (.tp [4,5]) (.v 2) (.seq (.set 6 (.op z2q [.v 0,.op z0v [.op pIx [.v 1,.op pSub [.v 4,.c (.int 1)]],.op pIx [.v 1,.v 4]]]))
 (.dput 3 (.v 6) (.op z4y [.dget2 (.v 3) (.v 6) (.op pTup [.c (.int 0),.c (.int 1)]),.v 5]))))
 (.ret (.op z0Q [.op z62 [.v 3]]))))
def z01:Fn:=Fn.mkN 1 5 (.seq (.set 1 (.c (.int 0)))
 (.seq (.for_ [] (.nm 2) (.v 0) (.seq (.set 3 (.op pAbs [.v 2]))
 (.wh (.op pGt [.v 3,.c (.int 0)]) (.seq (.set 4 (.op pMod [.v 1,.v 3]))
 (.seq (.set 1 (.v 3))
 (.set 3 (.v 4)))))))
 (.ret (.op z0Q [.comp 1 [1] (.nm 0) (.v 0) none (.op z1G [.v 0,.v 1])]))))
def z0z:Fn:=Fn.mkN 3 6 (.seq (.set 3 (.op pIx [.v 2,.c (.int 0)]))
 (.seq (.set 4 (.op pAdd [.op z0d [.op pIx [.v 0,.c (.int 0)],.op pIx [.v 2,.c (.int 1)]],.op z0d [.op z0d [.op pIx [.v 1,.c (.int 0)],.v 3],.op pIx [.v 0,.c (.int 2)]]]))
 (.seq (.set 5 (.op pAdd [.op z0d [.op pIx [.v 0,.c (.int 1)],.op pIx [.v 2,.c (.int 1)]],.op z0d [.op z0d [.op pIx [.v 1,.c (.int 1)],.v 3],.op pIx [.v 0,.c (.int 2)]]]))
 (.ret (.op z01 [.op pLst [.v 4,.v 5,.op z0d [.op pIx [.v 0,.c (.int 2)],.op pIx [.v 2,.c (.int 1)]]]])))))
def z1D:Fn:=Fn.mkN 2 2 (.ret (.op z01 [.op pLst [.op pAdd [.op z0d [.op pIx [.v 0,.c (.int 0)],.op pIx [.v 1,.c (.int 1)]],.op z0d [.op pIx [.v 1,.c (.int 0)],.op pIx [.v 0,.c (.int 1)]]],.op z0d [.op pIx [.v 0,.c (.int 1)],.op pIx [.v 1,.c (.int 1)]]]]))
def z0V:Fn:=Fn.mkN 2 7 (.seq (.set 2 (.op pTup [.c (.int 0),.c (.int 0),.c (.int 1)]))
 (.seq (.forr [.op pLen [.v 1]] (.nm 3) (.seq (.set 4 (.op pTup [.c (.int 0),.c (.int 1)]))
 (.seq (.for_ [] (.tp [5,6]) (.op pIx [.v 1,.v 3]) (.seq (.set 2 (.op z0z [.v 2,.op pIx [.op pIx [.op pIx [.v 0,.v 3],.c (.int 0)],.v 5],.v 6]))
 (.set 4 (.op z1D [.v 4,.v 6]))))
 (.set 2 (.op z0z [.v 2,.op pIx [.op pIx [.v 0,.v 3],.c (.int 1)],.v 4])))))
 (.ret (.v 2))))
def z0i:Fn:=Fn.mkN 2 5 (.seq (.set 2 (.op pAdd [.op z0d [.c (.int 80),.op pAdd [.v 1,.c (.int 1)]],.c (.int 1)]))
 (.seq (.set 3 (.op pSub [.op pMod [.v 0,.v 2],.op z1G [.v 2,.c (.int 2)]]))
 (.seq (.set 4 (.op pSub [.op pMod [.op z1G [.v 0,.v 2],.v 2],.op z1G [.v 2,.c (.int 2)]]))
 (.ret (.op z01 [.op pLst [.v 3,.v 4,.op pAdd [.c (.int 1),.op pMod [.op z1G [.op z1G [.v 0,.v 2],.v 2],.c (.int 60)]]]])))))
def z1k:Fn:=Fn.mkN 3 9 (.seq (.set 3 (.op z00 [.v 0,.c (.int 31),.op pAdd [.v 2,.c (.int 1)]]))
 (.seq (.set 4 (.op z00 [.v 0,.c (.int 32),.v 1]))
 (.seq (.set 5 (.op z00 [.v 0,.c (.int 33),.v 1]))
 (.seq (.set 6 (.op z00 [.v 0,.c (.int 34),.v 1]))
 (.seq (.set 7 (.op z00 [.v 0,.c (.int 35),.op pAdd [.op pSub [.v 2,.v 3],.c (.int 1)]]))
 (.seq (.own 8 (.comp 1 [] (.nm 0) (.op z4H [.v 1]) none (.c (.int 0))))
 (.seq (.put 8 (.v 4) (.op pAdd [.op pIx [.v 8,.v 4],.v 3]))
 (.seq (.put 8 (.v 5) (.op pAdd [.op pIx [.v 8,.v 5],.v 7]))
 (.seq (.put 8 (.v 6) (.op pSub [.op pSub [.op pAdd [.op pIx [.v 8,.v 6],.v 2],.v 3],.v 7]))
 (.ret (.v 8)))))))))))
def z0s:Fn:=Fn.mkN 2 6 (.seq (.own 2 (.op pLst []))
 (.seq (.forr [.op pLen [.v 0]] (.nm 3) (.seq (.set 4 (.op pAdd [.c (.int 1),.op z00 [.v 1,.op pAdd [.c (.int 40),.v 3],.op pIx [.op pLst [.c (.int 1),.c (.int 6),.c (.int 60)],.op z00 [.v 1,.c (.int 39),.c (.int 3)]]]]))
 (.seq (.setx [] 5 (.op z1k [.op pAdd [.v 1,.op z0d [.c (.int 7),.v 3]],.op pLen [.op pIx [.op pIx [.v 0,.v 3],.c (.int 0)]],.v 4]))
 (.seq (.ifs (.op pEq [.op z00 [.op pAdd [.v 1,.v 3],.c (.int 38),.c (.int 4)],.c (.int 0)]) (.seq (.setx [] 5 (.comp 1 [1,3] (.nm 0) (.op z4H [.op pLen [.op pIx [.op pIx [.v 0,.v 3],.c (.int 0)]]]) none (.op pAdd [.c (.int 1),.op z00 [.op pAdd [.v 1,.v 2],.op pAdd [.c (.int 120),.v 0],.c (.int 5)]])))
 (.set 4 (.op pSum [.v 5]))) .skip)
 (.app 2 (.op z0Q [.comp 1 [4,5] (.nm 0) (.op z4H [.op pLen [.v 5]]) (some (.op pGt [.op pIx [.v 2,.v 0],.c (.int 0)])) (.op pTup [.v 0,.op z01 [.op pLst [.op pIx [.v 2,.v 0],.v 1]]])]))))))
 (.ret (.op z0Q [.v 2]))))
def z1v:Fn:=Fn.mkN 3 7 (.seq (.ifs (.op pEq [.op pMod [.v 1,.c (.int 2)],.c (.int 1)]) (.ret (.op z0i [.op z1G [.v 1,.c (.int 2)],.v 2])) .skip)
 (.seq (.set 3 (.op z0V [.v 0,.op z0s [.v 0,.v 1]]))
 (.seq (.set 4 (.op z00 [.v 1,.c (.int 61),.c (.int 6)]))
 (.seq (.ifs (.op pLt [.v 4,.c (.int 3)]) (.ret (.v 3)) .skip)
 (.seq (.set 5 (.op pIx [.op pLst [.c (.int 1),.op pAdd [.c (.int 1),.v 2],.op z0d [.c (.int 40),.op pAdd [.c (.int 1),.v 2]]],.op pSub [.v 4,.c (.int 3)]]))
 (.seq (.set 6 (.op pTup [.op pSub [.op z00 [.v 1,.c (.int 62),.op pAdd [.op z0d [.c (.int 2),.v 5],.c (.int 1)]],.v 5],.op pSub [.op z00 [.v 1,.c (.int 63),.op pAdd [.op z0d [.c (.int 2),.v 5],.c (.int 1)]],.v 5]]))
 (.ret (.op z0z [.v 3,.v 6,.op z01 [.op pLst [.c (.int 1),.op pAdd [.c (.int 1),.op z00 [.v 1,.c (.int 64),.c (.int 3)]]]]]))))))))
open Mth
def gl:Nat->List Int->Nat
 | g,[]=>g
 | g,x::l=>gl (Nat.gcd g x.natAbs) l
def zeS (M:row.length<=1000)(J:gl 0 row≠0)(L:Bt 9000 (gl 0 row))(q:Q (.tup (row.map λx =>.int (x / (gl 0 row))))):z01.run [.lst (row.map .int)] Q X:=by
 walk_at "fn";ac_nf;refine z0J (f :=.int) (λu i=>Ee4 λg (m o p)=>(∀b,row=u++b->gl 0 row=gl g b)/\i=[.s (.lst (row.map .int)),.s (.int g),m,o,p]) ⟨0,_,_,_,λb e=>by rw[e];rfl,rfl⟩ ?_ ?_
 .rintro u x r i e ⟨g,m,o,p,hg,rfl⟩;show Sm.run _ _ _ _ _;ac_rfl;ac_nf;rw[zcI];refine z51 (λi=>Ee3 λ(a s:Nat) y=>Aa2 (Nat.gcd a s=Nat.gcd g x.natAbs) (i=[.s (.lst (row.map .int)),.s (.int a),.s (.int x),.s (.int s),y])) (λi=>(nI i 3).toNat) ⟨g,x.natAbs,_,rfl,rfl⟩ ?_;rintro i ⟨a,s,y,j,rfl⟩;ac_nf;refine z0G (λz =>?_) (λz =>?_)
  .ac_nf;have C:a % s=((a % s:Nat):Int):=by simp
   refine⟨⟨s,a % s,_,by rw[<- j,jh a s,Nat.gcd_rec s a,jh],by rw[C]⟩,?_⟩;show (a % (s:Int)).toNat<(s:Int).toNat
   rw[C];have:=je a (show 0<s by lia);lia
  .have:s=0:=by lia
   subst this;rw[Nat.gcd_zero_right] at j;refine⟨a,_,_,_,λrest' w =>?_,rfl⟩;have:r=rest':=by
    rw[e,vS] at w;have:=List.append_cancel_left w;simpa using this
   rw[hg _ e, <- this,j]
   rfl
 rintro i ⟨g,m,o,p,hg,rfl⟩;have I:gl 0 row=g:=hg [] (by simp);rw[I] at J L q;ac_nf;refine⟨by rw[wd];exact szl (by lia),?_⟩;refine z13 (g:=λx =>.int (x / g)) (λx _ K k =>?_) ?_
 .have:(0:Int)<g:=by lia
  ac_nf;exact k
 ac_nf;exact q
def gl2 (t b:Int):gl 0 [t,b]=Int.gcd t b:=by
 show Nat.gcd _ _=_;rw[Nat.gcd_zero_left]
 rfl
def zb5 {t b:Int}(d:0<b)(a:Bt 8000 b)(q:Q (.tup [.int (t / (Int.gcd t b)),.int (b / (Int.gcd t b))])):z01.run [.lst [.int t,.int b]] Q X:=by
 obtain⟨e,_,_,_,_⟩:=z3f (t:=t) d;refine zeS (row:=[t,b]) (by show 2<=1000;decide) (by rw[gl2];lia) (by
  rw[gl2];exact Bt.le (a.of_abs (by
   have:=Nat.le_of_dvd (by lia) (Int.gcd_dvd_natAbs_right t b);lia))) ?_
 rw[gl2];exact q
def zb6 {t b:Int}(a:0<b)(d:Bt 8000 b)(q:∀u w,Pl t 0 b u 0 w->Q (.tup [.int u,.int w])):z01.run [.lst [.int t,.int b]] Q X:=zb5 a d (q _ _ (Pl.low a))
def zb4 (a:0<b)(e:Bt 8000 b)(q:∀u v t,Pl x y b u v t->Q (.tup [.int u,.int v,.int t])):z01.run [.lst [.int x,.int y,.int b]] Q X:=by
 have d:((gl 0 [x,y,b]))=g3 x y b:=by
  show ((Nat.gcd _ _):Int)=_;unfold g3;rw[z2R,Nat.gcd_zero_left];rw[jh, <- Nat.gcd_assoc]
 have g:=zf6 (x:=x) (y:=y) a;have h:=z9x (x:=x) (y:=y) a;have f:Bt 9000 _:=Bt.le (e.of_abs (by
  have:=ua.mpr (z4Y x y b);exact Nat.le_of_dvd (by lia) this))
 refine zeS (row:=[x,y,b]) (by show 3<=1000;decide) (by lia) (by rw[d];exact f) ?_;rw[d];exact q _ _ _ (Pl.of g)
def zb7 {u v t a c:Int}{p:P}{Q:DK}{X:XP}(w:0<t)(r:0<c)(x:Bt 3000 u)(y:Bt 3000 v)(f:Bt 3000 t)(g:Bt 3000 a)(m:Bt 3000 c)(o:Vb 150 p)(q:∀i j t',Pl (u*c+p.1*a*t) (v*c+p.2*a*t) (t*c) i j t'->Q (.tup [.int i,.int j,.int t'])):z0z.run [.tup [.int u,.int v,.int t],vec p,.tup [.int a,.int c]] Q X:=by
 obtain⟨I,py⟩:=p;obtain⟨b,e⟩:=o;have z  := Bt.mul b g;have C  := Bt.mul e g;walk_at "fn";ac_nf;refine zb4 (w5 w r) (Bt.le (Bt.mul f m)) q
def zi8 {a b c d:Int}{Q:DK}{X:XP}(g:0<b)(i:0<d)(j:Bt 3000 a)(e:Bt 3000 b)(m:Bt 3000 c)(f:Bt 3000 d)(q:∀u t,Pl (a*d+c*b) 0 (b*d) u 0 t->Q (.tup [.int u,.int t])):z1D.run [.tup [.int a,.int b],.tup [.int c,.int d]] Q X:=by
 walk_at "fn";ac_nf;refine zb6 (w5 g i) (Bt.le (Bt.mul e f)) q
noncomputable def wsh (ws:List Int):List Sh:=((List.range ws.length).filter λk=>decide (0<ws.getD k 0)).map λk=>(k,ws.getD k 0 / (Int.gcd (ws.getD k 0) ws.sum),ws.sum / (Int.gcd (ws.getD k 0) ws.sum))
theorem z58:∀{l:List Int}{i:Nat}{d:Int},i<l.length->(l.set i (l.getD i 0+d)).sum=l.sum+d
 | [],i,d,h=>by simp at h
 | x::l,0,d,_=>by simp;lia
 | x::l,i+1,d,h=>by
  have:=z58 (d:=d) (by simpa using h);simp only[List.getD_cons_succ,List.set_cons_succ,vC];lia
def ze3 {b:Type}{l:List b}{i:Nat}{a x:b}(h:x∈l.set i a):x∈l\/x=a:=by
 rcases List.mem_or_eq_of_mem_set h with z | z
 .exact .inl z
 .exact .inr z
def z6P {l:List Int}{i:Nat}(h:i<l.length):l.getD i 0∈l:=by
 simp_all
def z49 {n:Nat}{k:Int}(a:0<=k)(b:k<n):ixN n k=some k.toNat:=by
 unfold ixN
 simp_all
def z88 {ws:List Int}{k:Int}(a:0<=k)(b:k<ws.length):atI (ws.map D.int) k=some (.int (ws.getD k.toNat 0)):=by
 unfold atI;rw[wd,z49 a b]
 simp_all
def z6G {k:Int}(h : -(2 ^ 62)<=k)(h':k<2 ^ 62)(q:Q (.lst ((List.range k.toNat).map λ(j:Nat)=>D.int j))):z4H.run [.int k] Q X:=⟨⟨h,h'⟩,q⟩
def zfX {c:Int}{n:Nat}{m:Int}{Q:DK}{X:XP}(hn:0<n)(Y:n<=100)(hm:0<m)(W:m<=100)(q:∀ts:List Int,ts.length=n->(∀t∈ts,0<=t)->ts.sum=m->Q (.lst (ts.map .int))):z1k.run [.int c,.int n,.int m] Q X:=by
 walk_at "fn";ac_nf;refine z0I (by decide) (by decide) (by lia) λcut O c1 =>?_;ac_nf;refine z0I (by decide) (by decide) (by lia) λa J L =>?_;ac_nf;refine z0I (by decide) (by decide) (by lia) λb M N =>?_;ac_nf;refine z0I (by decide) (by decide) (by lia) λe R U =>?_;ac_nf;refine z0I (by decide) (by decide) (by lia) λr r0 r1 =>?_;ac_nf;refine z6G (by lia) (by lia) ?_;ac_nf;rw[show (n:Int).toNat=n by simp];refine⟨by rw[wd,uf];exact szl (by lia),?_⟩;refine z13 (g:=λ_ =>.int 0) (λx _ K k =>?_) ?_
 .ac_nf;exact k
 rw[show (List.range n).map (λ_=>D.int 0)=((List.range n).map λ_=>(0)).map .int by rw[wP];rfl];obtain⟨ts,f,p,j,h3⟩:Ee1 λts=>Aa4 (ts=(List.range n).map (λ_=>(0:Int))) (ts.length=n) (∀t∈ts,0<=t) (ts.sum=0):=⟨_,rfl,by simp,λt u=>by(obtain⟨_,_,rfl⟩:=we.mp u;decide),by
  have:∀l:List Nat,(l.map λ_=>(0:Int)).sum=0:=λl=>by
   induction l with
   | nil=>rfl
   | cons a l ih=>simp[ih]
  exact this _⟩
 rw[<- f];clear f;refine z1A (λx Z =>?_) ?_
 .obtain⟨w,_,rfl⟩:=we.mp Z;exact Safe.of_noL rfl rfl _
 ac_rfl;have one:∀{ts:List Int}{k:Int}{d:Int},ts.length=n->(∀t∈ts,0<=t)->0<=k->k<n->0<=d->Aa3 ((ts.set k.toNat (ts.getD k.toNat 0+d)).length=n) (∀t∈ts.set k.toNat (ts.getD k.toNat 0+d),0<=t) ((ts.set k.toNat (ts.getD k.toNat 0+d)).sum=ts.sum+d):=λ{ts k d} p j k0 k1 hd=>by
  refine⟨by rw[List.length_set];exact p,λt u =>?_,z58 (by lia)⟩
  rcases ze3 u with z | z
  .exact j t z
  .have:=j _ (z6P (l:=ts) (i:=k.toNat) (by lia));lia
 have s1:=one p j J L O;refine z4k (zfV (z0w rfl ?_));ac_nf;refine z19 (z88 (by lia) (by lia)) ?_;ac_nf;rw[wd,z49 (by lia) (by lia)];show Sm.run _ _ _ _ _;ac_rfl;rw[<- List.map_set];generalize ts.set a.toNat (ts.getD a.toNat 0+cut)=I at*;obtain⟨p1,p2,p3⟩:=s1;have s2:=one p1 p2 M N r0;refine z4k (zfV (z0w rfl ?_));ac_nf;refine z19 (z88 (by lia) (by lia)) ?_;ac_nf;rw[wd,z49 (by lia) (by lia)];show Sm.run _ _ _ _ _;ac_rfl;rw[<- List.map_set];generalize I.set b.toNat (I.getD b.toNat 0+r)=o at*;obtain⟨q1,q2,q3⟩:=s2;have s3:=one q1 q2 R U (show 0<=m - cut - r by lia);refine z4k (zfV (z0w rfl ?_));ac_nf;refine z19 (z88 (by lia) (by lia)) ?_;ac_nf;rw[wd,z49 (by lia) (by lia)];show Sm.run _ _ _ _ _;ac_rfl;rw[<- List.map_set,show o.getD e.toNat 0+m - cut - r=o.getD e.toNat 0+(m - cut - r) by lia];generalize o.set e.toNat (o.getD e.toNat 0+(m - cut - r))=t3 at*;obtain⟨y,C,a2⟩:=s3;ac_nf;exact q t3 y C (by lia)
abbrev shsD (sh:List Sh):D :=.tup (sh.map shD)
theorem zfn:∀{ws:List Int},(∀w∈ws,0<=w)->∀w∈ws,w<=ws.sum
 | [],_,w,h=>by cases h
 | x::ws,h,w,g=>by
  have e:=zfn (ws:=ws) λy b=>h y (by simp[b]);have d:=h x (by simp);have f  := by
   have:∀(l:List Int),(∀w∈l,0<=w)->0<=l.sum:=λl=>by
    induction l with
    | nil=>intro _;simp
    | cons a l e=>
     intro k;have:=e λx d=>k x (by simp[d]);have:=k a (by simp);rw[vC];lia
   exact this ws λy b=>h y (by simp[b])
  rw[vC]
  grind
def z7A (l:List Sh):noL (shsD l)=true:=z2L λd a=>by(obtain⟨x,_,rfl⟩:=we.mp a;rfl)
def z7B (l:List Sh):noD (shsD l)=true:=z2M λd a=>by(obtain⟨x,_,rfl⟩:=we.mp a;rfl)
def zew {ts:List Int}{a:Pu.Env}{m:Int}(y:a.get 4=some (.int m))(o:a.get 5=some (.lst (ts.map .int)))(i:a[4]? = some (.s (.int m)))(l:a[5]? = some (.s (.lst (ts.map .int))))(z:ts.length<=100)(u:ts.sum=m)(r:0<m)(t:m<1000)(q:Q (shsD (wsh ts))):
  Ex.run (.op z0Q [(.comp 1 [4,5] (.nm 0) (.op z4H [(.op pLen [(.v 5)])]) (some (.op pGt [(.op pIx [(.v 2),(.v 0)]),(.c (.int 0))])) (.op pTup [(.v 0),(.op z01 [(.op pLst [(.op pIx [(.v 2),(.v 0)]),(.v 1)])])]))]) a Q X:=by
 refine zeo (zfs (zeo (zeo (e_v ?_))));rw[o];refine z9l ?_;ac_nf;rw[wd];refine z6G (by lia) (by lia) ?_;rw[show (ts.length:Int).toNat=ts.length by simp];ac_nf;refine⟨by rw[wd,uf];exact szl (by lia),?_⟩;rw[show z1a 1 [4,5] a=[.n,.s (.int m),.s (.lst (ts.map .int))] by unfold z1a;simp[i,l]];refine z1X (f:=λ(j:Nat)=>D.int j) (p:=λk=>decide (0<ts.getD k 0)) (g:=λk=>shD (k,ts.getD k 0 / (Int.gcd (ts.getD k 0) ts.sum),ts.sum / (Int.gcd (ts.getD k 0) ts.sum))) (λk d K w x =>?_) ?_
 .have h:k<ts.length:=v4.mp d;ac_nf;refine z19 (z88 (by lia) (by lia)) ?_;rw[show (k:Int).toNat=k by simp];ac_nf;refine z0G (λb =>?_) (λb =>?_)
  .ac_nf;refine z19 (z88 (by lia) (by lia)) ?_;rw[show (k:Int).toNat=k by simp];ac_nf;refine zb5 r (Bt.le (m:=10) (z0b (by lia))) ?_;ac_nf;rw[<- u];exact w (vz b)
  .exact x (wX b)
 ac_nf;rw[show ∀e:List Nat,e.map (λk=>shD (k,ts.getD k 0 / (Int.gcd (ts.getD k 0) ts.sum),ts.sum / (Int.gcd (ts.getD k 0) ts.sum)))=(e.map λk=>((k,ts.getD k 0 / (Int.gcd (ts.getD k 0) ts.sum),ts.sum / (Int.gcd (ts.getD k 0) ts.sum)):Sh)).map shD from λe=>by rw[wP];rfl];exact q
theorem z4Q {d e:Type}{x:d}{y:e}:∀{m:List e}{l:List d},l[m.length]? = some x->l.zip (m++[y])=l.zip m++[(x,y)]
 | [],l,h=>by
  cases l with
  | nil=>simp at h
  | cons a l=>simp_all
 | b::m,l,h=>by
  cases l with
  | nil=>simp at h
  | cons a l=>
   have:=z4Q (y:=y) (by simpa using h)
   simp_all
def Pl.more {x y W u v t a c p vx vy b f t':Int}(j:0<c)(h:Pl x y W u v t)(e:a*W=p*c)(s:Pl (u*c+vx*a*t) (v*c+vy*a*t) (t*c) b f t'):Pl (x+vx*p) (y+vy*p) W b f t':=by
 have l:t*c≠0:=by have:=w5 h.pos j;lia
 have d:∀{b u x vx:Int},b*(t*c)=(u*c+vx*a*t)*t'->u*W=x*t->b*W=(x+vx*p)*t':=λ{b u x vx} g i=>by
  apply w9 l
  calc b*W*(t*c)=(b*(t*c))*W:=by grind
   _=((u*W)*c+vx*(a*W)*t)*t':=by rw[g];grind
   _=(x+vx*p)*t'*(t*c):=by rw[i,e];grind
 exact⟨s.pos,s.cop,d s.cx h.cx,d s.cy h.cy⟩
structure Sw (W:Int)(n:Nat)(s:Sh):Prop where
 top:0<s.2.1
 bot:0<s.2.2
 le:s.2.1<=2*s.2.2
 dv:s.2.2 ∣ W
 ix:s.1<n
def pt (W:Int)(s:Sh):Int:=s.2.1*(W / s.2.2)
def za7 {W:Int}{s:Sh}(h:s.2.2 ∣ W):s.2.1*W=pt W s*s.2.2:=by unfold pt;rw[u3,Int.ediv_mul_cancel h]
def Sw.pt_le (h:Sw W n s)(a:0<W):0<pt W s/\pt W s<=2*W:=by
 have e:=Int.ediv_mul_cancel h.dv;have b  := Int.ediv_pos_of_pos_of_dvd a (wC h.bot) h.dv;unfold pt;generalize W / s.2.2=k at*;refine⟨w5 h.top b,?_⟩;rw[<- e,vA k, <- u3];exact wE h.le (by lia)
def Sw.mul (h:Sw W n s):Sw (W*m) n s:=⟨h.top,h.bot,h.le,jY h.dv (Int.dvd_mul_right _ _),h.ix⟩
def bt2 {k:Nat}(b:Bt k W):Bt (k+1) (W+W):=Bt.le (Bt.add b b) (by lia)
def Sw.bits {W:Int}{n k:Nat}{s:Sh}(h:Sw W n s)(a:0<W)(b:Bt k W):Bt (k+1) s.2.1/\Bt k s.2.2:=by
 have:=h.top;have:=h.bot;have:=h.le;have:=Int.le_of_dvd a h.dv;exact⟨(bt2 b).of_abs (by lia),b.of_abs (by lia)⟩
noncomputable def sw (w:Nat->Int)(W:Int)(l:List Sh):Int:=(l.map λs=>w s.1*pt W s).sum
def z6g {w:Nat->Int}{W:Int}(l:List Sh)(s:Sh):sw w W (l++[s])=sw w W l+w s.1*pt W s:=by simp[sw]
theorem z6L:∀{l:List Int},(∀x∈l,Bt m x)->Bt (m+l.length) l.sum
 | [],_=>Bt.le (m:=0) (z0b (by decide)) (by lia)
 | x::l,h=>by
  exact Bt.le (Bt.add (h x (by simp)) (z6L λy a=>h y (by simp[a]))) (by simp;lia)
def z9T {w:Nat->Int}{W:Int}{n k m:Nat}{l:List Sh}(g:l.length<=14)(a:0<W)(b:Bt k W)(h:∀s∈l,Sw W n s)(e:∀i,Bt m (w i)):Bt (m+k+15) (sw w W l):=by
 refine Bt.le (z6L (m:=m+k+1) λx f =>?_) (by rw[wd];lia);obtain⟨s,d,rfl⟩:=we.mp f;have:=(h s d).pt_le a;exact Bt.le (Bt.mul (e _) ((bt2 b).of_abs (by lia))) (by lia)
def cX (W:Int)(p:(List P × P) × List Sh):Int:=sw (wx p.1.1) W p.2+p.1.2.1*sw (λ_=>1) W p.2
def cY (W:Int)(p:(List P × P) × List Sh):Int:=sw (wy p.1.1) W p.2+p.1.2.2*sw (λ_=>1) W p.2
def zfA {n:Nat}:Bt (n+1) 1:=Bt.le (m:=1) (z0b (by decide)) (by lia)
def cyb {n:Nat}{l:List P}(h:l≠[])(a:Wb n l)(k:Nat):Vb n (Geo.cy l k):=a _ (ww (z0X (w6.mpr h)))
def zmm {k:Nat}(d:0<W)(b:Bt k W)(a:Wt4 p.1)(e:p.2.length<=14)(h:∀s∈p.2,Sw W p.1.1.length s):Bt (k+160) (cX W p)/\Bt (k+160) (cY W p):=by
 have f:=z9T (m:=1) e d b h λ_=>zfA;exact⟨Bt.le (Bt.add (z9T e d b h λi=>(cyb a.ne a.wb i).1) (Bt.mul a.vb.1 f)) (by lia),Bt.le (Bt.add (z9T e d b h λi=>(cyb a.ne a.wb i).2) (Bt.mul a.vb.2 f)) (by lia)⟩
def zhE {ts:List Int}(n:∀t∈ts,0<=t)(u:0<ts.sum):(wsh ts≠[]/\(wsh ts).length<=ts.length)/\∀s∈wsh ts,Sw ts.sum ts.length s/\s.2.1<=s.2.2:=by
 refine⟨⟨λz =>?_,by unfold wsh;rw[wd];exact wO (List.length_filter_le _ _) (by simp)⟩,λs j =>?_⟩
 .have no:=jP.mp z;rw[List.filter_eq_nil_iff] at no;have:ts.sum=0:=by
   have e:∀l:List Int,(∀t∈l,0<=t)->(∀t∈l,¬ 0<t)->l.sum=0:=λl=>by
    induction l with
    | nil=>intros;rfl
    | cons a l w=>
     intro p q;have:=p a (by simp);have:=q a (by simp);rw[vC,w (λt h=>p t (by simp[h])) (λt h=>q t (by simp[h]))];lia
   refine e ts n λt h =>?_;obtain⟨k,i,rfl⟩:=jQ h;have:=no k (v4.mpr i);rw[ug,wo i] at this;simpa using this
  lia
 obtain⟨k,i,rfl⟩:=we.mp j;obtain⟨b,f⟩:=jV.mp i;have b:=v4.mp b;have f:=ue f;have d:=zfn n _ (z6P b);obtain⟨m,x,r,y,A⟩:=z3f (t:=ts.getD k 0) u;generalize (Int.gcd (ts.getD k 0) ts.sum:Int)=g at*;have d:=Int.ediv_le_ediv m d;have o:0<ts.sum / g:=by lia
 refine⟨⟨?_,o,by show ts.getD k 0 / g<=2*(ts.sum / g);lia,⟨g,?_⟩,b⟩,d⟩
 .show 0<ts.getD k 0 / g
  rcases uj 0 (ts.getD k 0 / g) with z | z
  .exact z
  .have:=vj (wC m) z;lia
 .show ts.sum=ts.sum / g*g;rw[vA];exact r
def Pl.eq0 {x p W u t:Int}(h:Pl (x+1*p) (0+0*p) W u 0 t):Pl (x+1*p) 0 W u 0 t:=by simpa using h
def zip_at {f g:Type}{l:List f}{m:List g}(h:m.length=l.length){a:List Nat}{k:Nat}{r:List Nat}(e:List.range m.length=a++k::r):∃x y,k=a.length/\atI l k=some x/\atI m k=some y/\(l.zip m)[k]? = some (x,y):=by
 have b:=congrArg List.length e;have d:(List.range m.length)[a.length]? = some k:=by rw[e];simp
 rw[jR (by simp at b;lia)] at d;simp at b d;have i:k<m.length:=by lia
 refine⟨l[k],m[k],by lia,?_,?_,?_⟩
 .unfold atI;rw[z49 (by lia) (by lia)]
  simp_all
 .unfold atI;rw[z49 (by lia) (by lia)]
  simp_all
 .rw[wo (by grind),jr]
structure Gd (W:Int)(n:Nat)(sh:List Sh):Prop where
 each:∀s∈sh,Sw W n s/\Int.gcd s.2.1 s.2.2=1
 up:sh.Pairwise (λa b=>a.1<b.1)
 few:sh.length<=3
def z8l {l:List P}{xs:List (P × Int)}(u:∀x∈xs,x.1∈l)(hz:l.length<=62)(nd:(xs.map (·.1)).Nodup)(h3:xs.length<=3)(h0:∀x∈xs,0<=x.2)(O:0<(xs.map (·.2)).sum)(bW:Bt 1400 (xs.map (·.2)).sum)
  (q:∀sh,Gd (xs.map (·.2)).sum l.length sh->(∀w (f:P->Int),(∀k,w k=f (Geo.cy l k))->sw w (xs.map (·.2)).sum sh=(xs.map λx=>f x.1*x.2).sum)->Q (.tup (sh.map shD))):z0T.run [vecs l,vecs (xs.map (·.1)),.tup ((xs.map (·.2)).map .int)] Q X:=by
 walk_at "fe";ac_nf;refine⟨_,rfl,?_⟩;generalize eW:(xs.map (·.2)).sum=W at*;ac_nf;refine zjM ?_;rw[wP,wP,List.zip_map',wP];ac_nf;refine⟨by rw[wd];exact szl' (by lia),?_⟩;refine z1X (f:=λx:P × Int=>D.tup [vec x.1,.int x.2]) (p:=λx=>decide (0<x.2)) (g:=λx=>pdD (rwOf l W x)) (λx i K k1 k2 =>?_) ?_
 .refine⟨rfl,?_⟩;show Ex.run _ _ _ _;unfold z0l z0l z0l;ac_rfl;ac_nf;refine z0G (λz =>?_) (λz =>?_)
  .ac_nf;refine zgV (u x i) ?_;ac_nf;refine z98 O bW ?_;ac_nf;exact k1 (vz z)
  .exact k2 (wX z)
 generalize I:(xs.filter λx=>decide (0<x.2))=F;have J:∀x∈F,x∈xs/\0<x.2:=λx i=>by
  rw[<- I] at i;obtain⟨h1,h2⟩:=jV.mp i;exact⟨h1,ue h2⟩
 have lF:F.length<=3:=by
  rw[<- I];exact wO (List.length_filter_le _ _) h3
 rw[show (F.map λx=>pdD (rwOf l W x))=(F.map (rwOf l W)).map pdD by rw[wP];rfl];refine⟨⟨trivial,trivial,trivial,trivial,trivial,trivial⟩,?_⟩;ac_rfl;ac_nf;refine⟨F.map (rwOf l W),rfl,?_,by rw[wd];lia,λr pm pw =>?_⟩
 .rw[wP];have n1:(F.map (·.1)).Nodup:=by
   rw[<- I];exact(List.filter_sublist.map _).nodup nd
  unfold List.Nodup at n1 ⊢;rw[wZ] at n1 ⊢;refine n1.imp_of_mem λ{a b} R U j e =>?_;have e:((idx l a.1):Int)=(idx l b.1):=e;exact j (zhd (u a (J a R).1) (u b (J b U).1) (by lia))
 ac_nf;have m:∀y∈r,∃x∈F,y=rwOf l W x:=λy C=>by
  obtain⟨x,i,e⟩:=we.mp (pm.mem_iff.mp C);exact⟨x,i,e.symm⟩
 have e1:r.map pdD=(r.map back).map shD:=by
  rw[wP];apply uT;intro y C;obtain⟨x,i,rfl⟩:=m y C;show pdD (rwOf l W x)=shD (back (rwOf l W x));rw[z71]
  rfl
 have o:(r.map back).Perm (F.map (shOf l W)):=by
  have:=pm.map back
  rwa [wP,show back ∘ rwOf l W=shOf l W from funext λx=>z71 l W x] at this
 rw[e1];have Y:∀s∈r.map back,∃x∈F,s=shOf l W x:=λs Y=>by
  obtain⟨x,i,e⟩:=we.mp (o.mem_iff.mp Y);exact⟨x,i,e.symm⟩
 have sg:∀s∈r.map back,Sw W l.length s/\Int.gcd s.2.1 s.2.2=1:=λs Z=>by
  obtain⟨x,i,rfl⟩:=Y s Z;obtain⟨L,x2⟩:=J x i;obtain⟨N,f1,M,f3,f4⟩:=z3f (t:=x.2) O;have xW:x.2<=W:=by
   rw[<- eW];exact(z4v λy C=>by obtain⟨z,hz,rfl⟩:=we.mp C;exact h0 z hz).2 _ (List.mem_map_of_mem L)
  have le:=Int.ediv_le_ediv N xW;refine⟨⟨?_,by show 0<W / (Int.gcd x.2 W);lia,by show x.2 / (Int.gcd x.2 W)<=2*(W / (Int.gcd x.2 W));lia,⟨_,M.trans (vA _ _)⟩,z9u (u x L)⟩,f4⟩;show 0<x.2 / (Int.gcd x.2 W)
  rcases uj 0 (x.2 / (Int.gcd x.2 W)) with z | z
  .exact z
  .have:=vj (wC N) z;lia
 refine q _ ⟨sg,?_,by rw[o.length_eq,wd];exact lF⟩ λw f hw =>?_
 .rw[wZ];refine pw.imp_of_mem λ{a b} R U j =>?_;obtain⟨x,_,rfl⟩:=m a R;obtain⟨y,_,rfl⟩:=m b U;rw[z71,z71];have j:((idx l x.1):Int)<(idx l y.1):=j;show idx l x.1<idx l y.1;lia
 .unfold sw;rw[z7p o,wP, <- z9A (l:=xs) h0 (λx i=>by rw[i,Int.mul_zero]),I]
  congr 1
  apply uT;intro x i;obtain⟨L,x2⟩:=J x i;obtain⟨N,f1,M,f3,f4⟩:=z3f (t:=x.2) O;show w (idx l x.1)*(x.2 / (Int.gcd x.2 W)*(W / (W / (Int.gcd x.2 W))))=f x.1*x.2;rw[hw,zko (u x L)];have e2:W / (W / (Int.gcd x.2 W))=(Int.gcd x.2 W):=Int.ediv_eq_of_eq_mul_left (by lia) M;rw[e2,vA (x.2 / _), <- f1]
structure LedW (l:List P)(x y t W:Int)(sh:List Sh):Prop where
 pos:0<W
 bt:Bt 1400 W
 gd:Gd W l.length sh
 one:sw (λ_=>1) W sh=W
 ex:sw (wx l) W sh*t=W*x
 ey:sw (wy l) W sh*t=W*y
def zba {l:List P}{x y t:Int}{xs:List (P × Int)}(a:l.length<=62)(g:Prt l x y t xs)(b:∀sh W,LedW l x y t W sh->Q (.tup (sh.map shD))):
  z0T.run [vecs l,vecs (xs.map (·.1)),.tup ((xs.map (·.2)).map .int)] Q X:=by
 refine z8l g.mem a g.nd g.few g.nn g.pos g.bt λsh G k=>b sh _ ⟨g.pos,g.bt,G,?_,?_,?_⟩
 .rw[k _ (λ_=>1) λ_=>rfl]
  simp_all
 .rw[k (wx l) _ λ_=>rfl];exact g.ex
 .rw[k (wy l) _ λ_=>rfl];exact g.ey
def z7a {x y t:Int}(N:l≠[])(q:l.length<=62)(C:Wb 600 l)(pc:Pc x y t)
  (R:∀b,b≠(0,0)->Vb 700 b->(∀p∈l,dot p b*t<dot (x,y) b)->Q (brD b)) (u:∀sh W,LedW l x y t W sh->Q (swD sh)):z2T.run [vecs l,pcD x y t] Q X:=by
 walk_at "fn";ac_nf;refine z0D (.inl rfl) C.le (by lia) λh o =>?_;have f:=o.is N;have U:=z1V f.nodup f.sub;have e:Wb 600 h:=λp hp=>C p (f.sub p hp);have g:h≠[]:=by obtain⟨m,tl,M,_⟩:=f.ex;rw[M];simp
 have O:=pc.pos;refine z0O (Safe.of_noL (z17 _) (z18 _) _) ?_;ac_rfl;ac_nf;refine zbc f e (by lia) pc (λb J K i =>?_) λw =>?_
 .ac_nf;refine z6f rfl ?_;ac_nf;exact R b J K i
 ac_nf;refine z9S rfl ?_;ac_nf;rw[wd];refine z0G (λz =>?_) (λz =>?_)
 .obtain⟨a,b,rfl⟩:Ee2 λa b=>h=[a,b]:=by
   match h,z with
   | [a,b],_=>exact⟨a,b,rfl⟩
  have I:=e a (by simp);have vb:=e b (by simp);ac_nf;refine zia I vb pc ?_;ac_nf;refine t_no (by simp) ?_;ac_nf;refine zba q (zgA pc f (f.sub a (by simp)) (f.sub b (by simp)) I vb w) λsh W L =>?_;ac_nf;exact u sh W L
 ac_nf;rw[wd];refine z0G (λj =>?_) (λj =>?_)
 .ac_nf;refine zd8 e (by lia) (by lia) pc w λk F =>?_;refine z0O (Safe.of_noL (z17 _) (z18 _) _) ?_;ac_rfl;ac_nf;refine zi6 (cyw g e _) (cyw g e _) (cyw g e _) pc ?_;ac_nf;refine zba q (zbj pc f f.sub e F) λsh W L =>?_;ac_nf;exact u sh W L
 .obtain⟨m,rfl⟩:∃m,h=[m]:=by
   match h,g,z,j with
   | [m],_,_,_=>exact⟨m,rfl⟩
   | _::_::r,_,z,j=>simp at z j;lia
  ac_nf;refine zba q (zgB (f.sub m (by simp)) w) λsh W L =>?_;ac_nf;exact u sh W L
def ky (st v:P):P:=(dot v (rt st),dot v st)
def Top (S:P->Prop)(st q:P):Prop:=S q/\∀r,S r->LxG (ky st q) (ky st r)
def z7d {st:P}(x:l≠[])(y:l.length<=12)(f:Wb 140 l)(b:Vb 700 st)(q:∀i,i<l.length->Top (· ∈ l) st (Geo.cy l i)->Q (.int i)):z2q.run [vecs l,vec st] Q X:=by
 have hr:Vb 700 (rt st):=⟨b.2,b.1.neg⟩
 walk_at "fn";ac_nf;refine z5W ?_;refine z0O (Safe.of_noL rfl rfl _) ?_;ac_rfl;ac_nf;refine⟨by rw[wd];exact szl' (by lia),?_⟩;refine z13 (g:=λp=>vec (ky st p)) (λp hp K r =>?_) ?_
 .ac_nf;refine z3o (f p hp).le hr.le ?_;ac_nf;refine z3o (f p hp).le b.le ?_;ac_nf;exact r
 ac_rfl;ac_nf;refine⟨l.map (ky st),by rw[wP];rfl,by simpa using x,by rw[wd];lia,λi m e w =>?_⟩;rw[wK] at e
 cases z:l[i]? with
 | none=>rw[z] at e;cases e
 | some v=>
  rw[z] at e
  cases e
  have j:i<l.length:=(wq.mp z).1;have o:Geo.cy l i=v:=by
   have:=z0X (h:=l) (i:=i) (by lia);rw[wV j,z] at this;exact(wY this).symm
  refine q i j ?_;rw[o];exact⟨ww z,λu hu=>w _ (List.mem_map_of_mem hu)⟩
def stq (h:List P)(s:Sh):P:=stp (Geo.cy h (s.1+h.length - 1)) (Geo.cy h s.1)
abbrev enD (s:Sh):Int × D:=((s.1),vec s.2)
abbrev foD (fs:List Sh):D:=dkI (fs.map enD)
def zgu {fs:List Sh}{s:Sh}(h:∀x∈fs,x.1≠s.1):putD ((fs.map enD).map λr=>(Sum.inl r.1,r.2)) (.inl (s.1)) (vec s.2)=((fs++[s]).map enD).map λr=>(Sum.inl r.1,r.2):=by
 unfold putD;rw[if_neg]
 .simp
 .simp only[List.any_eq_true,not_exists,not_and];intro p a;obtain⟨r,b,rfl⟩:=we.mp a;obtain⟨x,d,rfl⟩:=we.mp b;have:=h x d;simp;lia
def zcP {fs:List Sh}(h:∀x∈fs,x.1≠i):valD ((fs.map enD).map λr=>(Sum.inl r.1,r.2)) (.inl i)=none:=by
 unfold valD;rw[List.find?_eq_none.mpr]
 .rfl
 .intro p a;obtain⟨r,b,rfl⟩:=we.mp a;obtain⟨x,d,rfl⟩:=we.mp b;have:=h x d;simp;lia
def zcO (h:∀x∈A,x.1≠s.1):valD (((A++s::C).map enD).map λr=>(Sum.inl r.1,r.2)) (.inl (s.1))=some (vec s.2):=by
 unfold valD;rw[wA,wA,List.find?_append,List.find?_eq_none.mpr]
 .simp
 .intro p a;obtain⟨r,b,rfl⟩:=we.mp a;obtain⟨x,d,rfl⟩:=we.mp b;have:=h x d;simp;lia
def zgt (e:s'.1=s.1)(h:∀x∈A++C,x.1≠s.1):putD (((A++s::C).map enD).map λr=>(Sum.inl r.1,r.2)) (.inl (s.1)) (vec s'.2)=((A++s'::C).map enD).map λr=>(Sum.inl r.1,r.2):=by
 unfold putD;have b:∀l:List Sh,(∀x∈l,x.1≠s.1)->(((l.map enD).map λr=>((Sum.inl r.1,r.2):Key × D)).map λp=>if p.1=(.inl (s.1)) then (p.1,vec s'.2) else p)=(l.map enD).map λr=>(Sum.inl r.1,r.2):=λl d=>by
  rw[wP,wP,wP];apply uT;intro x a;have:=d x a;show (if (Sum.inl (x.1):Key)=Sum.inl _ then _ else _)=_;rw[if_neg (by grind)]
  rfl
 simp only[wA,wI];rw[b A λx a=>h x (by simp[a]),b C λx a=>h x (by simp[a])];simp[e]
def Sw.pl {W:Int}{n:Nat}{s:Sh}(h:Sw W n s)(g:Int.gcd s.2.1 s.2.2=1):Pl (pt W s) 0 W s.2.1 0 s.2.2:=⟨h.bot,by rw[gcd0];exact g,za7 h.dv,by simp⟩
def zbU {W p u t:Int}(d:0<W)(h:Pl p 0 W u 0 t)(g:0<p)(j:p<=W)(f:i<n):(Sw W n (i,u,t)/\Int.gcd u t=1)/\pt W (i,u,t)=p:=by
 have a:=h.pos;have e:=h.cx;have b:=h.cop;rw[gcd0] at b;have l:0<u:=by
  rcases uj 0 u with z | z
  .exact z
  .have:=vF z (wC d);have:=w5 g a;lia
 have q:u<=t:=by
  rcases uj t u with z | z
  .have m:=jC z d;have o:=wE j (wC a);lia
  .exact z
 refine⟨⟨⟨l,a,by lia,h.dvd,f⟩,b⟩,?_⟩;show u*(W / t)=p;apply w9 (show t≠0 by lia);rw[u3,Int.ediv_mul_cancel h.dvd,e]
def zhj {x k e:Ex}(q:x.run ρ (λa=>∃kvs,a=dk kvs/\k.run ρ (λb=>∃j,b=kD j/\e.run ρ (λc=>Q ((valD kvs j).getD c)) X) X) X):(Ex.dget2 x k e).run ρ Q X:=q
def zk5 {A C:List Sh}{y:Sh}(h:((A++y::C).map (·.1)).Nodup):∀z∈A++C,z.1≠y.1:=λz a e=>by
 rw[wA] at h;have:=(jL.nodup_iff.mp h)
 rw[vf, <- wA] at this;exact this.1 (we.mpr ⟨z,a,e⟩)
def z93 (A C:List Sh)(y:Sh):sw w W (A++y::C)=sw w W A+w y.1*pt W y+sw w W C:=by
 simp[sw];lia
def zcX (a:0<W)(h:∀s∈l,Sw W n s):0<=sw (λ_=>1) W l:=by
 refine(z4v λy d =>?_).1;obtain⟨s,b,rfl⟩:=we.mp d;have:=(h s b).pt_le a;lia
def z8S (s:Sh):back (enD s)=s:=by
 rfl
def za1 {x:List P × P}{h:List P}{sh:List Sh}{W:Int}{Q:DK}{X:XP}(hx:Wt4 x)(U:Wb 600 h)(hn:h≠[])(p:0<W)(bW:Bt 1400 W)(G:Gd W h.length sh)(one:sw (λ_=>1) W sh=W)
  (q:∀Y (φ:Sh->P),(∀s∈sh,Top (· ∈ x.1) (stq h s) (φ s))->Gd W x.1.length Y->sw (wx x.1) W Y=(sh.map λs=>(φ s).1*pt W s).sum->sw (wy x.1) W Y=(sh.map λs=>(φ s).2*pt W s).sum->sw (λ_=>1) W Y=W->Q (shsD Y)):z1j.run [vecs x.1,vecs h,shsD sh] Q X:=by
 have zero:Pl 0 0 W 0 0 1:=⟨by decide,by decide,by simp,by simp⟩
 walk_at "fn";refine z4k (zd4 ?_);refine⟨λ_ h=>by(cases h),?_⟩;ac_rfl;ac_nf;refine z0J (f:=shD) (λdn ρ=>∃(fs:List Sh) (I:Sh->Nat) (x4 x5 x6:B),(∀s∈dn,Top (· ∈ x.1) (stq h s) (Geo.cy x.1 (I s)))/\(∀w:Nat->Int,sw w W fs=(dn.map λs=>w (I s)*pt W s).sum)/\(∀s∈fs,Sw W x.1.length s/\Int.gcd s.2.1 s.2.2=1)/\(fs.map (·.1)).Nodup/\fs.length<=dn.length/\ρ=[.s (vecs x.1),.s (vecs h),.s (shsD sh),.o (foD fs),x4,x5,x6]) ⟨[],λ_=>0,_,_,_,λ_ h=>by(cases h),λ_=>rfl,λ_ h=>by(cases h),.nil,wt _,rfl⟩ ?_ ?_
 .rintro dn s r ρ e ⟨fs,I,x4,x5,x6,h1,h2,J,R,h5,rfl⟩;obtain⟨O,sg⟩:=G.each s (by rw[e];simp);have sc:=O.bot;obtain⟨b1,b2⟩:=O.bits p bW;have a4:=G.few;have le:=congrArg List.length e;rw[wD,wU] at le;have a0:∀s'∈dn,s'≠s:=λs' g z=>by
   have up:=G.up;rw[e,uh] at up;have:=up.2.2 s' g s (by simp);rw[z] at this;lia
  have v1:=cyb hn U (s.1+h.length - 1);have v2:=cyb hn U s.1;refine⟨rfl,?_⟩;show Sm.run _ _ _ _ _;unfold z0l z0l z0l;ac_rfl;ac_nf;refine z19 (z0P (zkx O.ix)) ?_;ac_nf;refine z19 (z0P (z8P O.ix)) ?_;ac_nf;refine z1U ?_;ac_nf;refine z7d (st:=stq h s) hx.ne hx.len hx.wb ⟨Bt.le (Bt.sub v2.1 v1.1),Bt.le (Bt.sub v2.2 v1.2)⟩ λi hi top =>?_;ac_nf;refine⟨_,rfl,zkr (zhj ?_)⟩;ac_nf;refine⟨_,rfl,?_⟩;ac_nf;refine⟨.inl i,rfl,?_⟩;ac_nf;have p0:=(O.pt_le p).1;have a5:sw (λ_=>1) W fs+pt W s<=W:=by
   have e1:=h2 λ_=>1;have e2:=z93 (w:=λ_=>1) (W:=W) dn r s;rw[<- e,one] at e2;have e3:(dn.map λs=>(1)*pt W s).sum=sw (λ_=>1) W dn:=rfl;have e4:=zcX (l:=r) p λs' g=>(G.each s' (by rw[e];simp[g])).1;lia
  have fin:∀j:List Sh,(∀w:Nat->Int,sw w W j=sw w W fs+w i*pt W s)->(∀s∈j,Sw W x.1.length s/\Int.gcd s.2.1 s.2.2=1)->(j.map (·.1)).Nodup->j.length<=fs.length+1->
    ∃(fs:List Sh) (I:Sh->Nat) (x4 x5 x6:B),(∀a3∈dn++[s],Top (· ∈ x.1) (stq h a3) (Geo.cy x.1 (I a3)))/\(∀w:Nat->Int,sw w W fs=((dn++[s]).map λs=>w (I s)*pt W s).sum)/\(∀s∈fs,Sw W x.1.length s/\Int.gcd s.2.1 s.2.2=1)/\(fs.map (·.1)).Nodup/\fs.length<=(dn++[s]).length/\[.s (vecs x.1),.s (vecs h),.s (shsD sh),.o (foD j),.s (.int (s.1)),.s (.tup [.int s.2.1,.int s.2.2]),.s (.int i)]=[.s (vecs x.1),.s (vecs h),.s (shsD sh),.o (foD fs),x4,x5,x6]:=λj k1 k2 k3 k4=>by
   refine⟨j,λs'=>if s'=s then i else I s',_,_,_,λs' g =>?_,λw =>?_,k2,k3,by simp;lia,rfl⟩
   .rcases wB.mp g with z | z
    .dsimp only;rw[if_neg (a0 s' z)];exact h1 s' z
    .rw[wg.mp z];dsimp only;rw[if_pos rfl];exact top
   .rw[k1,h2,wA,j2]
    congr 1
    .congr 1
     refine uT λs' g =>?_;dsimp only;rw[if_neg (a0 s' g)]
    .simp
  by_cases K:∃y∈fs,y.1=i
  .obtain⟨y,K,rfl⟩:=K;obtain⟨A,C,eA⟩:=List.append_of_mem K;subst eA;obtain⟨ys,yg⟩:=J y (by simp);have yc:=ys.bot;obtain⟨c1,c2⟩:=ys.bits p bW;have nd:=zk5 R;rw[zcO λz Z=>nd z (by simp[Z])];refine z8n yc sc yg sg c1.le c2.le b1.le b2.le λu t hp =>?_;have hp:=((ys.pl yg).more (vx:=1) (vy:=0) sc (za7 O.dv) (by simpa using hp)).eq0;have a1:=zcX (l:=A) p λs' g=>(J s' (by simp[g])).1;have a2:=zcX (l:=C) p λs' g=>(J s' (by simp[g])).1;rw[z93] at a5;have y0:=(ys.pt_le p).1;obtain⟨n1,n2⟩:=zbU (i:=y.1) p hp (by lia) (by lia) ys.ix;refine⟨Safe.of_noL rfl rfl _,?_⟩;ac_nf;refine⟨.inl (y.1),rfl,?_,?_⟩
   .rw[wd,wd];exact szl' (by lia)
   have pe:putD (((A++y::C).map enD).map λr=>(Sum.inl r.1,r.2)) (.inl (y.1)) (.tup [.int u,.int t])=_:=zgt (s':=(y.1,u,t)) rfl nd;rw[pe];refine fin (A++(y.1,u,t)::C) (λw =>?_) (λs' g =>?_) ?_ (by simp)
   .rw[z93,z93,n2];show _+w y.1*(_+1*_)+_=_
    grind
   .rcases wB.mp g with z | z
    .exact J s' (by simp[z])
    .rcases wm.mp z with z | z
     .rw[z];exact n1
     .exact J s' (by simp[z])
   .simpa using R
  .have nd:∀z∈fs,z.1≠i:=λz Z e=>K ⟨z,Z,e⟩;rw[zcP nd];refine z8n (by decide) sc (by decide) sg (Bt.le (m:=1) (z0b (by decide))) (Bt.le (m:=1) (z0b (by decide))) b1.le b2.le λu t hp =>?_;have hp:=(zero.more (vx:=1) (vy:=0) sc (za7 O.dv) (by simpa using hp)).eq0;have a1:=zcX (l:=fs) p λs' g=>(J s' g).1;obtain⟨n1,n2⟩:=zbU (i:=i) p hp (by lia) (by lia) hi;refine⟨Safe.of_noL rfl rfl _,?_⟩;ac_nf;refine⟨.inl i,rfl,?_,?_⟩
   .rw[wd,wd];exact szl' (by lia)
   have pe:putD ((fs.map enD).map λr=>(Sum.inl r.1,r.2)) (.inl i) (.tup [.int u,.int t])=_:=zgu (s:=(i,u,t)) nd;rw[pe];refine fin (fs++[(i,u,t)]) (λw =>?_) (λs' g =>?_) ?_ (by simp)
   .rw[z6g,n2];show _+w i*(0+1*_)=_
    grind
   .rcases wB.mp g with z | z
    .exact J s' z
    .rw[wg.mp z];exact n1
   .rw[wA];refine List.nodup_append.mpr ⟨R,by simp,λa ha b U =>?_⟩;obtain⟨z,Z,rfl⟩:=we.mp ha;rw[wg.mp U];exact nd z Z
 rintro ρ ⟨fs,I,x4,x5,x6,h1,h2,J,R,h5,rfl⟩;have a4:=G.few;ac_nf;have nd:((fs.map enD).map (·.1)).Nodup:=by
  rw[show (fs.map enD).map (·.1)=(fs.map (·.1)).map λk:Nat=>(k:Int) by rw[wP,wP];rfl];unfold List.Nodup at R ⊢;rw[wZ];exact R.imp λ{a b} h=>by lia
 refine⟨fs.map enD,rfl,nd,by rw[wd];lia,λrl pm pw =>?_⟩;ac_nf;have N:(rl.map back).Perm fs:=by
  have:=pm.map back
  rwa [wP,show (back ∘ enD)=id from funext λs=>z8S s,List.map_id] at this
 have M:∀y∈rl,y=enD (back y):=λy K=>by
  obtain⟨s,_,rfl⟩:=we.mp (pm.mem_iff.mp K);rw[z8S]
 rw[show rl.map pdD=(rl.map back).map shD by
  rw[wP];refine uT λy K =>?_;rw[M y K];show _=shD (back (enD (back y)));rw[z8S]]
 have sp:∀w:Nat->Int,sw w W (rl.map back)=(sh.map λs=>w (I s)*pt W s).sum:=λw=>by rw[<- h2];exact z7p N
 refine q _ (λs=>Geo.cy x.1 (I s)) h1 ⟨λs hs=>J s (N.mem_iff.mp hs),?_,by rw[N.length_eq];lia⟩ (sp _) (sp _) ?_
 .rw[wZ];refine pw.imp_of_mem λ{a b} ha U L =>?_;rw[M a ha,M b U] at L;have L:((back a).1:Int)<(back b).1:=L;lia
 .rw[sp];exact one
def Al (s b:P):Prop:=∃i j,0<i/\0<j/\i*s.1=j*b.1/\i*s.2=j*b.2
def Al.refl (b:P):Al b b:=⟨1,1,by decide,by decide,rfl,rfl⟩
def zhm (d:a∈h):∃j,j<h.length/\Geo.cy h (j+h.length - 1)=a:=by
 obtain⟨i,f,e⟩:=jQ d;have b:∀k,k % h.length=i->Geo.cy h k=a:=λk g=>by
  unfold Geo.cy
  simp_all
 by_cases c:i+1<h.length
 .exact⟨i+1,c,b _ (by rw[show i+1+h.length - 1=i+h.length by lia,uv,wV f])⟩
 .exact⟨0,by lia,b _ (by rw[wV (by lia)];lia)⟩
def z3Y (x:z04 S h)(b:2<=h.length)(a:j<h.length):Edge S (Geo.cy h (j+h.length - 1)) (Geo.cy h j):=
 x.cyc b a (z0X (by lia)) (by rw[<- z0X (by lia),wV a])
def z5j {a b d:Int}(n:(b,d)≠((0),(0)))(f:a*b=0)(g:a*d=0):a=0:=by
 rcases wM.mp f with z | z
 .exact z
 rcases wM.mp g with e | e
 .exact e
 simp_all
def z4D {b:P}(h:b≠(0,0)):0<b.1*b.1+b.2*b.2:=by
 have e:0<=b.1*b.1:=by rcases Int.le_total 0 b.1 with z | z;exact wS z z;exact v3 z z
 have f:0<=b.2*b.2:=by rcases Int.le_total 0 b.2 with z | z;exact wS z z;exact v3 z z
 rcases uJ (Int.add_nonneg e f) with z | z
 .exact z
 .have a:b.1*b.1=0:=by omega
  have d:b.2*b.2=0:=by omega
  exact absurd (uc ((wM.mp a).elim id id) ((wM.mp d).elim id id)) h
def zf5 {a b:Int}(h:0<a*b)(d:0<a):0<b:=by
 by_cases z:0<b
 .exact z
 .have:=wH (Int.not_lt.mp z) (wC d);rw[Int.mul_zero] at this;exact absurd (Int.lt_of_lt_of_le h this) (Int.lt_irrefl _)
def z7V (x:z04 S h){a c b:P}(f:a∈h)(g:c∈h)(ne:a≠c)(A:b≠(0,0))(m:∀p∈h,dot p b<=dot a b)(e:dot c b=dot a b):∃s∈z06 h,Al s.1 b:=by
 have M:2<=h.length:=by
  rcases h with _ | ⟨u,_ | ⟨v,r⟩⟩
  .simp at f
  .rw[wg] at f g;exact absurd (f.trans g.symm) ne
  .simp
 have d:∀{a c:P},a∈h->c∈h->a≠c->(∀p∈h,dot p b<=dot a b)->dot c b=dot a b->0<b.1*(c.2 - a.2) - b.2*(c.1 - a.1)->∃s∈z06 h,Al s.1 b:=λ{a c} f g ne m e k=>by
  obtain⟨j,F,C⟩:=zhm f;have E:=z3Y x M F;generalize G:Geo.cy h j=v at E;rw[C] at E;have O:v∈h:=G ▸ z2d (by lia);have U:=E.left c (x.sub c g);have W:=m v O;have l:(c.1 - a.1,c.2 - a.2)≠((0),(0)):=λz=>ne (by
   have q:=congrArg Prod.fst z;have t:=congrArg Prod.snd z;dsimp only at q t;exact uc (by lia) (by lia))
  have K:b.1*(c.1 - a.1)+b.2*(c.2 - a.2)=0:=by simp only[dot] at e;grind
  have X:0<=Qa a c v:=by
   have i:=z4D (b:=(c.1 - a.1,c.2 - a.2)) l;have key:(b.1*(c.2 - a.2) - b.2*(c.1 - a.1))*Qa a c v=((c.1 - a.1)*(c.1 - a.1)+(c.2 - a.2)*(c.2 - a.2))*(dot a b - dot v b):=by
    simp only[dot,Qa];grind
   have H:0<=((c.1 - a.1)*(c.1 - a.1)+(c.2 - a.2)*(c.2 - a.2))*(dot a b - dot v b):=wS (wC i) (by lia);rw[<- key] at H;exact v7 (by simpa using H) k
  have z:Qa a v c=0:=by
   have:Qa a v c = - Qa a c v:=by simp only[Qa];grind
   lia
  obtain⟨J,Z⟩:=E.btw c (x.sub c g) z;have T:(v.1 - a.1)*(c.2 - a.2)=(v.2 - a.2)*(c.1 - a.1):=by simp only[Qa] at z;lia
  have R:b.1*(v.1 - a.1)+b.2*(v.2 - a.2)=0:=z5j l (by grind) (by grind);have L:0<(c.1 - a.1)*(v.1 - a.1)+(c.2 - a.2)*(v.2 - a.2):=by
   simp only[Geo.dot] at J
   rcases uJ J with y | y
   .exact y
   .exfalso
    have Q:(v.1 - a.1,v.2 - a.2)≠((0),(0)):=λw=>E.ne (by
     have q:=congrArg Prod.fst w;have t:=congrArg Prod.snd w;dsimp only at q t;exact uc (by lia) (by lia))
    have i:=z4D (b:=(v.1 - a.1,v.2 - a.2)) Q;dsimp only at i;have n:((v.1 - a.1)*(v.1 - a.1)+(v.2 - a.2)*(v.2 - a.2))*(c.1 - a.1)=0:=by grind
    have o:((v.1 - a.1)*(v.1 - a.1)+(v.2 - a.2)*(v.2 - a.2))*(c.2 - a.2)=0:=by grind
    have:=z5j l n o;lia
  have kf:0<b.1*(v.2 - a.2) - b.2*(v.1 - a.1):=by
   have i:=z4D (b:=(c.1 - a.1,c.2 - a.2)) l;dsimp only at i;have key:((c.1 - a.1)*(c.1 - a.1)+(c.2 - a.2)*(c.2 - a.2))*(b.1*(v.2 - a.2) - b.2*(v.1 - a.1))=(b.1*(c.2 - a.2) - b.2*(c.1 - a.1))*((c.1 - a.1)*(v.1 - a.1)+(c.2 - a.2)*(v.2 - a.2)):=by grind
   have I:=w5 k L;rw[<- key] at I;exact zf5 I i
  refine⟨(rt (stp a v),v),z1p (by lia) F (by rw[<- C, <- G];exact wv ..),b.1*b.1+b.2*b.2,b.1*(v.2 - a.2) - b.2*(v.1 - a.1),z4D A,kf,?_,?_⟩
  .simp only[rt,stp];grind
  .simp only[rt,stp];grind
 rcases Int.lt_trichotomy 0 (b.1*(c.2 - a.2) - b.2*(c.1 - a.1)) with k | k | k
 .exact d f g ne m e k
 .exfalso
  have K:b.1*(c.1 - a.1)+b.2*(c.2 - a.2)=0:=by simp only[dot] at e;grind
  have Y:=z4D A;have n:(c.1 - a.1)*(b.1*b.1+b.2*b.2)=0:=by grind
  have o:(c.2 - a.2)*(b.1*b.1+b.2*b.2)=0:=by grind
  refine ne (uc ?_ ?_)
  .rcases wM.mp n with z | z <;> omega
  .rcases wM.mp o with z | z <;> omega
 .exact d g f (vQ ne) (λp N=>by rw[e];exact m p N) e.symm (by grind)
def zcm (a c b:P):dot (Geo.pl a c) b=dot a b+dot c b:=by simp[dot,Geo.pl];grind
def zfa {f d:P}(a:d≠(0,0))(h:f.1*d.2=f.2*d.1)(k:0<f.1*d.1+f.2*d.2):Al f d:=⟨d.1*d.1+d.2*d.2,f.1*d.1+f.2*d.2,z4D a,k,by grind,by grind⟩
def z7F (x:z04 (· ∈ l) l){a c d:P}(i:a∈l)(q:c∈l)(ne:a≠c)(h:d≠(0,0))(e:∀p∈l,d.1*(p.2 - a.2)=d.2*(p.1 - a.1)):∃s∈z06 l,Al s.1 d:=by
 have m:2<=l.length:=by
  rcases l with _ | ⟨u,_ | ⟨v,r⟩⟩
  .simp at i
  .rw[wg] at i q;exact absurd (i.trans q.symm) ne
  .simp
 have b:∀k,Geo.cy l k∈l:=λk=>z2d (by lia);have K:=z4D h
 by_cases F:3<=l.length
 .exfalso
  have t:=z4e (z2V x m 0) (z2V x m 1) (zct x F 0);have H:=e _ (b 0);have I:=e _ (b 1);have J:=e _ (b 2);have:Qa (Geo.cy l 0) (Geo.cy l (0+1)) (Geo.cy l (1+1))*(d.1*d.1+d.2*d.2)=0:=by
   simp only[Qa];generalize Geo.cy l 0=u at*;rw[show (0+1)=1 from rfl,show (1+1)=2 from rfl];generalize Geo.cy l 1=v at*;generalize Geo.cy l 2=w at*
   grind
  rcases wM.mp this with z | z <;> omega
 have g:l.length=2:=by lia
 have E:=z3Y x m (j:=0) (by lia);have f:∀j,j<2->(stp (Geo.cy l (j+l.length - 1)) (Geo.cy l j),Geo.cy l j)∈z06 l:=λj G=>z1p (by rw[g];decide) (by rw[g];exact G) (by unfold z0n;rw[if_pos g];exact wn _ (wg.mpr rfl));have n:=f 0 (by decide);have o:=f 1 (by decide);rw[g] at n o E;have A:Geo.cy l (1+2 - 1)=Geo.cy l 0:=by unfold Geo.cy;rw[g]
 rw[A] at o;rw[show 0+2 - 1=1 from rfl] at n E;have H:=e _ (b 0);have I:=e _ (b 1);generalize Geo.cy l 0=u at*;generalize Geo.cy l 1=v at*;have y:(u.1 - v.1)*d.2=(u.2 - v.2)*d.1:=by grind
 rcases Int.lt_trichotomy 0 ((u.1 - v.1)*d.1+(u.2 - v.2)*d.2) with k | k | k
 .exact⟨_,n,zfa h (by simp only[stp];exact y) (by simp only[stp];exact k)⟩
 .exfalso
  have C:(u.1 - v.1)*(d.1*d.1+d.2*d.2)=0:=by grind
  have g:(u.2 - v.2)*(d.1*d.1+d.2*d.2)=0:=by grind
  refine E.ne (uc ?_ ?_)
  .rcases wM.mp C with z | z <;> omega
  .rcases wM.mp g with z | z <;> omega
 .exact⟨_,o,zfa h (by simp only[stp];grind) (by simp only[stp];grind)⟩
section
variable {l1 l2 R:List P}(x1:z04 (· ∈ l1) l1)(x2:z04 (· ∈ l2) l2)(x:z04 (Sm2 l1 l2) R)
include x1 x2 x
theorem zfD {u v b:P}(r:u∈R)(t:v∈R)(ne:u≠v)(j:b≠(0,0))(m:∀p,Sm2 l1 l2 p->dot p b<=dot u b)(e:dot v b=dot u b):∃s∈z06 l1++z06 l2,Al s.1 b:=by
 obtain⟨a,l,c,n,rfl⟩:=x.sub u r;obtain⟨i,d,c',f,rfl⟩:=x.sub v t;simp only[zcm] at m e;have o:∀p∈l1,dot p b<=dot a b:=λp g=>by
  have:=m _ ⟨p,g,c,n,rfl⟩;rw[zcm] at this;lia
 have q:∀p∈l2,dot p b<=dot c b:=λp g=>by
  have:=m _ ⟨a,l,p,g,rfl⟩;rw[zcm] at this;lia
 have A:=o i d;have C:=q c' f
 by_cases z:a=i
 .have y:c≠c':=λw=>ne (by rw[z,w]);obtain⟨s,h,k⟩:=z7V x2 n f y j q (by lia);exact⟨s,ve _ h,k⟩
 .obtain⟨s,h,k⟩:=z7V x1 l d z j o (by lia);exact⟨s,vD _ h,k⟩
set_option tactic.hygienic true in
theorem zaR (f:s∈z06 R):∃s'∈z06 l1++z06 l2,Al s'.1 s.1:=by
 have q:=zaW x f;obtain⟨Y,M⟩:=z3S x f
 by_cases l:R.length=1
 .have one:l1.length=1:=by
   obtain⟨m,t,e,_,_,_,k⟩:=x.ex;have N:t=[]:=by rw[e] at l;simpa using l
   rcases k with ⟨_,k⟩ | ⟨k,_⟩
   .obtain⟨c,i⟩:=List.exists_mem_of_ne_nil _ (z0S x2);have all:∀a∈l1,∀a'∈l1,a=a':=λa o a' g=>by
     have F:=(k _ ⟨a,o,c,i,rfl⟩).trans (k _ ⟨a',g,c,i,rfl⟩).symm;have T:=congrArg Prod.fst F;have U:=congrArg Prod.snd F;simp only[Geo.pl] at T U;exact uc (by lia) (by lia)
    have I:=x1.nodup
    rcases l1 with _ | ⟨u,_ | ⟨v,r⟩⟩
    .exact absurd rfl (z0S x1)
    .rfl
    .have:=all u (by simp) v (by simp);rw[this] at I;simp at I
   .exact absurd N k
  unfold z06 at f;rw[if_pos l] at f;obtain⟨b,L,rfl⟩:=we.mp f;refine⟨(b,Geo.cy l1 0),vD _ ?_,Al.refl _⟩;unfold z06;rw[if_pos one];exact we.mpr ⟨b,L,rfl⟩
 .obtain⟨j,G,d⟩:=z2B l f;have H:2<=R.length:=by
   have:=w6.mpr (z0S x);lia
  have E:=z3Y x H G;have O:Geo.cy R (j+R.length - 1)∈R:=z2d (by lia);have Q:Geo.cy R j∈R:=z2d (by lia)
  rcases wm.mp d with rfl | d
  .refine zfD x1 x2 x Q O (vQ E.ne) q M ?_;simp only[dot,rt,stp]
   grind
  .split at d
   .rename_i n
    rw[wg] at d;subst d;have K:Edge (Sm2 l1 l2) (Geo.cy R j) (Geo.cy R (j+R.length - 1)):=by
     have k:=z3Y x H (j:=(j+1) % 2) (by rw[n];exact je _ (by decide));rw[n] at G k ⊢;have C:j=0\/j=1:=by lia
     rcases C with rfl | rfl
     .have y:Geo.cy R ((0+1) % 2+2 - 1)=Geo.cy R 0:=by unfold Geo.cy;rw[n]
      rw[y] at k;exact k
     .have y:Geo.cy R (1+2 - 1)=Geo.cy R 0:=by unfold Geo.cy;rw[n]
      rw[y];exact k
    generalize Geo.cy R (j+R.length - 1)=u at*;generalize Geo.cy R j=v at*;have J:∀p,Sm2 l1 l2 p->Qa u v p=0:=λp h=>by
     have W:=E.left p h;have X:=K.left p h;have:Qa v u p = - Qa u v p:=by simp only[Qa];grind
     lia
    obtain⟨a,o,c,i,rfl⟩:=E.sa;obtain⟨a',g,c',A,rfl⟩:=E.sb
    by_cases z:a=a'
    .have S:c≠c':=λw=>E.ne (by rw[z,w]);obtain⟨s,f,k⟩:=z7F x2 i A S q λp h=>by
      have:=J _ ⟨a,o,p,h,rfl⟩;simp only[Qa,Geo.pl,stp] at this ⊢
      grind
     exact⟨s,ve _ f,k⟩
    .obtain⟨s,f,k⟩:=z7F x1 o g z q λp h=>by
      have:=J _ ⟨p,h,c,i,rfl⟩;simp only[Qa,Geo.pl,stp] at this ⊢
      grind
     exact⟨s,vD _ f,k⟩
   .simp at d
end
def Al.trans {a b c:P}(h:Al a b)(k:Al b c):Al a c:=by
 obtain⟨i,j,f,g,n,o⟩:=h;obtain⟨l,m,d,e,p,q⟩:=k;exact⟨i*l,j*m,w5 f d,w5 g e,by grind,by grind⟩
def Al.le {s b u v:P}(h:Al s b)(k:dot u s<=dot v s):dot u b<=dot v b:=by
 obtain⟨i,j,a,g,d,f⟩:=h;have l:=wH k (wC a);have e:∀w,i*dot w s=j*dot w b:=λw=>by simp[dot];grind
 simp_all
def zcu (b:h≠[])(f:P->P)(k:Nat):Geo.cy (h.map f) k=f (Geo.cy h k):=by
 have a:=w6.mpr b;have:=z0X (h:=h.map f) (i:=k) (by simp_all);rw[wd,wK,z0X a] at this
 simp_all
set_option tactic.hygienic true in
def z4T (i:0<m)(g:h≠[])(e:s∈z06 (h.map (Geo.sca m))):∃s'∈z06 h,Al s'.1 s.1/\s.2=Geo.sca m s'.2:=by
 by_cases d:h.length=1
 .unfold z06 at e;rw[if_pos (by rw[wd];exact d)] at e;obtain⟨b,n,rfl⟩:=we.mp e;refine⟨(b,Geo.cy h 0),?_,Al.refl _,zcu g _ _⟩;unfold z06;rw[if_pos d];exact we.mpr ⟨b,n,rfl⟩
 .obtain⟨j,f,a⟩:=z2B (by rw[wd];exact d) e;rw[wd] at f;unfold z0n at a;rw[wd,zcu g,zcu g] at a
  rcases wm.mp a with rfl | a
  .exact⟨_,z1p d f (wv ..),⟨m,1,i,by decide,by simp only[rt,stp,Geo.sca];grind,by simp only[rt,stp,Geo.sca];grind⟩,rfl⟩
  .split at a
   .rename_i l
    rw[wg] at a;subst a;exact⟨_,z1p d f (by unfold z0n;rw[if_pos l];exact wn _ (wg.mpr rfl)),⟨m,1,i,by decide,by simp only[stp,Geo.sca];grind,by simp only[stp,Geo.sca];grind⟩,rfl⟩
   .simp at a
def zc7 (x:z04 S h):z04 (· ∈ h) h:=x.of x.sub λ_ a=>a
def zdb (t:z04 (· ∈ h) h)(r:z04 (· ∈ d) d)(o:0<p1)(n:0<p0)(i:0<T)(x:z04 (Sm2 (h.map (Geo.sca p1)) (d.map (Geo.sca p0))) R)
  (C:∀s∈z06 h++z06 d,∃a∈h,∃c∈d,dot (X,Y) s.1<=dot (Geo.sca T (Geo.pl (Geo.sca p1 a) (Geo.sca p0 c))) s.1) (b:P):∃c∈R,dot (X,Y) b<=dot c b*T:=by
 have K:=z04.sca i (zc7 x);have Rn:=z0S x;have y:∀s∈z06 (R.map (Geo.sca T)),dot (X,Y) s.1<=dot s.2 s.1:=λs m=>by
  obtain⟨L,q,p,w⟩:=z4T i Rn m;obtain⟨J,I,E⟩:=zaR (z04.sca o t) (z04.sca n r) x q;have:∃e∈z06 h++z06 d,Al e.1 J.1:=by
   rcases wB.mp I with z | z
   .obtain⟨e,g,f,_⟩:=z4T o (z0S t) z;exact⟨e,vD _ g,f⟩
   .obtain⟨e,g,f,_⟩:=z4T n (z0S r) z;exact⟨e,ve _ g,f⟩
  obtain⟨e,g,f⟩:=this;obtain⟨a,A,c,j,le⟩:=C e g;have F:=((f.trans E).trans p).le le;have G:=p.le ((z3S x q).2 _ ⟨_,we.mpr ⟨a,A,rfl⟩,_,we.mpr ⟨c,j,rfl⟩,rfl⟩);have H:=wE G (wC i);rw[w];refine jU F ?_;simp only[dot,Geo.sca,Geo.pl] at H ⊢
  grind
 obtain⟨c,j,le⟩:=K.far (z6m (by simpa using Rn) y) b;obtain⟨u,l,rfl⟩:=we.mp j;refine⟨u,l,?_⟩;simp only[Geo.sc,Geo.sca,dot] at le ⊢
 grind
def z2U:Fn:=Fn.mkN 3 7 (.seq (.own 3 (.op pLst []))
 (.seq (.for_ [] (.tp [4,5]) (.op pAdd [.op z1I [.v 0],.op z1I [.v 1]]) (.seq (.set 6 (.op pSub [.op z10 [.v 4,.v 2],.op z0d [.op pIx [.v 2,.c (.int 2)],.op z28 [.v 0,.v 4]]]))
 (.app 3 (.op pTup [.v 4,.v 6,.op z0d [.op pIx [.v 2,.c (.int 2)],.op z28 [.v 1,.v 4]]]))))
 (.ret (.v 3))))
def z0k:Fn:=Fn.mkN 1 3 (.seq (.set 1 (.c .non))
 (.seq (.for_ [] (.nm 2) (.v 0) (.ifs (.and (.op pGt [.op pIx [.v 2,.c (.int 1)],.c (.int 0)]) (.or (.op pIs [.v 1,.c .non]) (.op pGt [.op z0d [.op pIx [.v 2,.c (.int 1)],.op pIx [.v 1,.c (.int 2)]],.op z0d [.op pIx [.v 1,.c (.int 1)],.op pIx [.v 2,.c (.int 2)]]]))) (.set 1 (.v 2)) .skip))
 (.ret (.v 1))))
def z1u:Fn:=Fn.mkN 1 3 (.seq (.set 1 (.c .non))
 (.seq (.for_ [] (.nm 2) (.v 0) (.ifs (.and (.op pGt [.op pIx [.v 2,.c (.int 1)],.op pIx [.v 2,.c (.int 2)]]) (.or (.op pIs [.v 1,.c .non]) (.op pLt [.op z0d [.op pIx [.v 2,.c (.int 1)],.op pIx [.v 1,.c (.int 2)]],.op z0d [.op pIx [.v 1,.c (.int 1)],.op pIx [.v 2,.c (.int 2)]]]))) (.set 1 (.v 2)) .skip))
 (.ret (.v 1))))
def z1Q:Fn:=Fn.mkN 1 6 (.seq (.for_ [] (.tp [1,2,3]) (.v 0) (.ifs (.and (.op pGt [.v 2,.c (.int 0)]) (.op pGt [.v 2,.v 3])) (.ret (.op pTup [.v 1])) .skip))
 (.seq (.set 4 (.op z0k [.v 0]))
 (.seq (.set 5 (.op z1u [.v 0]))
 (.seq (.ifs (.and (.op z7s [.v 5,.c .non]) (.op pLt [.op z0d [.op pIx [.v 4,.c (.int 1)],.op pIx [.v 5,.c (.int 2)]],.op z0d [.op pIx [.v 5,.c (.int 1)],.op pIx [.v 4,.c (.int 2)]]])) (.ret (.op pTup [.op pIx [.v 4,.c (.int 0)],.op pIx [.v 5,.c (.int 0)]])) .skip)
 (.ret (.c .non))))))
def z1W:Fn:=Fn.mkN 2 2 (.ret (.op z0Q [.comp 1 [1] (.nm 0) (.v 0) none (.op pTup [.op z0d [.op pIx [.v 0,.c (.int 0)],.v 1],.op z0d [.op pIx [.v 0,.c (.int 1)],.v 1]])]))
def z2o:Fn:=Fn.mkN 2 2 (.ret (.op z24 [.op z0d [.op pIx [.v 0,.c (.int 0)],.op pIx [.v 1,.c (.int 0)]],.op z0d [.op pIx [.v 0,.c (.int 1)],.op pIx [.v 1,.c (.int 1)]]]))
def z1i:Fn:=Fn.mkN 4 9 (.seq (.set 4 (.op z29 [.op pIx [.v 0,.op pNeg [.c (.int 1)]]]))
 (.seq (.set 5 (.op z3v [.op z1W [.v 1,.op pIx [.v 2,.c (.int 1)]],.op z1W [.v 4,.op pIx [.v 2,.c (.int 0)]]]))
 (.seq (.set 6 (.op pIx [.op z2T [.v 5,.op z23 [.v 3,.op pTup [.op pIx [.v 2,.c (.int 1)],.c (.int 1)]]],.c (.int 1)]))
 (.seq (.own 7 (.comp 1 [5,6] (.nm 0) (.v 0) none (.op z1j [.op pIx [.v 0,.c (.int 0)],.v 1,.v 2])))
 (.seq (.popTo 8 7)
 (.seq (.app 7 (.op z0Q [.comp 2 [2] (.tp [0,1]) (.v 8) none (.op pTup [.v 0,.op z2o [.v 1,.v 2]])]))
 (.ret (.op z0Q [.v 7]))))))))
def z4c:Fn:=Fn.mkN 2 11 (.seq (.ifs (.op pEq [.v 1,.op pTup [.c (.int 0),.c (.int 0),.c (.int 1)]]) (.ret (.op pTup [.c (.str "at"),.op pTup [.c (.int 0),.c (.int 1)],.op pTup [],.op pTup []])) .skip)
 (.seq (.own 2 (.op pLst []))
 (.seq (.set 3 (.op pTup [.op pTup [.c (.int 0),.c (.int 0)]]))
 (.seq (.forr [.op pLen [.v 0]] (.nm 4) (.seq (.set 5 (.op z29 [.op pIx [.v 0,.v 4]]))
 (.seq (.setx [] 6 (.op z2U [.v 3,.v 5,.v 1]))
 (.seq (.set 7 (.op z1Q [.v 6]))
 (.seq (.ifs (.op pIs [.v 7,.c .non]) (.seq (.set 8 (.op z0k [.v 6]))
 (.seq (.set 9 (.op z24 [.op pIx [.v 8,.c (.int 1)],.op pIx [.v 8,.c (.int 2)]]))
 (.seq (.set 10 (.op z1i [.sl (.v 0) none (some (.op pAdd [.v 4,.c (.int 1)])),.v 3,.v 9,.v 1]))
 (.ret (.op pTup [.c (.str "at"),.op z4y [.op pTup [.v 4,.c (.int 1)],.v 9],.v 10,.op pAdd [.op z0Q [.v 2],.op pTup [.op pTup [.op pIx [.v 8,.c (.int 0)]]]]]))))) .skip)
 (.seq (.app 2 (.v 7))
 (.set 3 (.op z3v [.v 3,.v 5]))))))))
 (.ret (.op pTup [.c (.str "never"),.op z0Q [.v 2]]))))))
def z0U:Fn:=Fn.mkN 2 6 (.seq (.set 2 (.sl (.v 0) none (some (.op z00 [.v 1,.c (.int 81),.op pAdd [.op pLen [.v 0],.c (.int 1)]]))))
 (.seq (.ifs (.op pEq [.v 2,.op pTup []]) (.ret (.v 2)) .skip)
 (.seq (.set 3 (.op pAdd [.c (.int 1),.op z00 [.v 1,.c (.int 82),.c (.int 7)]]))
 (.seq (.set 4 (.op pTup [.op pAdd [.c (.int 1),.op z00 [.v 1,.c (.int 83),.v 3]],.v 3]))
 (.seq (.set 5 (.op z0Q [.comp 2 [4] (.tp [0,1]) (.op pIx [.v 2,.op pNeg [.c (.int 1)]]) none (.op pTup [.v 0,.op z01 [.op pLst [.op z0d [.op pIx [.v 1,.c (.int 0)],.op pIx [.v 2,.c (.int 0)]],.op z0d [.op pIx [.v 1,.c (.int 1)],.op pIx [.v 2,.c (.int 1)]]]]])]))
 (.ret (.op pAdd [.sl (.v 2) none (some (.op pNeg [.c (.int 1)])),.op pTup [.v 5]])))))))
open Mth
def sup:List P->P->Int
 | [],_=>0
 | [p],b=>dot p b
 | p::q::r,b=>max (dot p b) (sup (q::r) b)
theorem z1O:∀{l:List P},l≠[]->most l b (sup l b)
 | [],h=>absurd rfl h
 | [p],_=>⟨by simp[sup],λq f=>by rw[wg.mp f];exact uQ _⟩
 | p::q::r,_=>by
  obtain⟨d,e⟩:=z1O (l:=q::r) (by simp);show most _ _ (max _ _);refine⟨?_,λu a =>?_⟩
  .rcases Int.le_total _ _ with z | z
   .rw[Int.max_eq_right z];exact wn _ d
   .rw[Int.max_eq_left z];exact wv ..
  .rcases wm.mp a with rfl | a
   .exact Int.le_max_left _ _
   .exact jU (e u a) (Int.le_max_right _ _)
def zic (f:Vb 30000000 b)(g:Wb 30000000 l)(a:l≠[])(h:l.length<=62)(q:Q (.int (sup l b))):z28.run [vecs l,vec b] Q X:=
 za2 f g a (szl' (by lia)) λm d e=>by rw[zh0 ⟨d,e⟩ (z1O a)];exact q
abbrev Lm:=P × Int × Int
abbrev lmD (m:Lm):D :=.tup [vec m.1,.int m.2.1,.int m.2.2]
def lim (h d:List P)(x y t:Int)(s:P × P):Lm:=(s.1,dot (x,y) s.1 - t*sup h s.1,t*sup d s.1)
def lims (h d:List P)(x y t:Int):List Lm:=(z06 h++z06 d).map (lim h d x y t)
def z94 (g:l≠[])(d:Wb n l)(a:Vb m b):Bt (n+m+1) (sup l b):=by
 obtain⟨p,f,e⟩:=we.mp (z1O g).1;rw[<- e];exact Bt.le (Bt.add (Bt.mul (d p f).1 a.1) (Bt.mul (d p f).2 a.2)) (by lia)
def zaV (o:h≠[])(d:Wb (n+1) h)(g:s∈z06 h):Vb (n+2) s.1:=by
 have one:∀b∈ways,Vb (n+2) b:=λb d=>by
  simp only[ways,wm,wz,vK] at d
  rcases d with rfl | rfl | rfl | rfl <;> exact⟨Bt.le (m:=1) (z0b (by decide)) (by lia),Bt.le (m:=1) (z0b (by decide)) (by lia)⟩
 by_cases l:h.length=1
 .unfold z06 at g;rw[if_pos l] at g;obtain⟨b,i,rfl⟩:=we.mp g;exact one b i
 .obtain⟨j,p,a⟩:=z2B l g;have e:=cyb o d (j+h.length - 1);have f:=cyb o d j;unfold z0n at a
  rcases wm.mp a with rfl | a
  .exact⟨Bt.le (Bt.sub f.2 e.2) (by lia),Bt.le (Bt.sub f.1 e.1).neg (by lia)⟩
  .split at a
   .rw[wg] at a;subst a;exact⟨Bt.le (Bt.sub f.1 e.1) (by lia),Bt.le (Bt.sub f.2 e.2) (by lia)⟩
   .simp at a
def zid {x y t:Int}(e:Vb n b)(f:n<=3000)(pc:Pc x y t)(q:Q (.int (dot (x,y) b))):z10.run [vec b,pcD x y t] Q X:=by
 have g  := Bt.le e.1 f;have i  := Bt.le e.2 f;have j:=pc.bx;have m:=pc.bY;walk_at "fn";ac_nf;rw[show b.1*x+b.2*y=dot (x,y) b by simp[dot];grind];exact q
structure Twh (h d:List P):Prop where
 xh:z04 (· ∈ h) h
 xd:z04 (· ∈ d) d
 bh:Wb 165 h
 bd:Wb 165 d
 zh:h.length<=62
 zd:d.length<=62
def Twh.vb (T:Twh h d)(a:s∈z06 h++z06 d):Vb 166 s.1:=by
 rcases wB.mp a with z | z
 .exact zaV (z0S T.xh) T.bh z
 .exact zaV (z0S T.xd) T.bd z
def z8m {x y t:Int}(T:Twh h d)(pc:Pc x y t)(q:Q (.lst ((lims h d x y t).map lmD))):z2U.run [vecs h,vecs d,pcD x y t] Q X:=by
 have n1:=z0S T.xh;have g:=z0S T.xd;have z:Wb 10000000 h:=T.bh.le;have C:Wb 10000000 d:=T.bd.le;have K:=T.zh;have L:=T.zd;have R:=z5c h;have U:=z5c d;have M:=pc.bt;walk_at "fn";ac_nf;refine z1A (λx J=>by cases J) ?_;ac_rfl;ac_nf;refine z4j (.inl rfl) z n1 (by lia) λb i =>?_;obtain rfl:b=h:=(i.is n1).unique T.xh;ac_nf;refine z4j (.inl rfl) C g (by lia) λd' i =>?_;obtain rfl:d'=d:=(i.is g).unique T.xd;refine z7z (by rw[wd,wd];exact uy (szl' (by lia))) ?_;rw[<- wA];ac_nf;refine z0J (f:=zcZ) (λw u=>Ee3 λ(j m p)=>u=[.s (vecs b),.s (vecs d'),.s (pcD x y t),.o (.lst ((w.map (lim b d' x y t)).map lmD)),j,m,p]) ⟨_,_,_,rfl⟩ ?_ ?_
 .rintro w s r u e ⟨j,m,p,rfl⟩;have I:s∈z06 b++z06 d':=by rw[e];simp
  have vb:=T.vb I;have N:Bt 400 (sup b s.1):=Bt.le (z94 n1 T.bh vb);have O:Bt 400 (sup d' s.1):=Bt.le (z94 g T.bd vb);have le:=congrArg List.length e;rw[wD,wD,wU] at le;refine⟨rfl,?_⟩;show Sm.run _ _ _ _ _;unfold z0l z0l z0l;ac_rfl;ac_nf;refine zid vb (by decide) pc ?_;ac_nf;refine zic vb.le T.bh.le n1 K ?_;ac_nf;refine z4l (l:=[]) (z0w rfl ?_);ac_nf;refine zic vb.le T.bd.le g L ?_;ac_nf;refine⟨by rw[wd,wd];exact szl' (by lia),Safe.of_noL rfl rfl _,?_⟩;ac_rfl;exact⟨_,_,_,by rw[wA,wA];rfl⟩
 rintro u ⟨j,m,p,rfl⟩;ac_nf;exact q
abbrev Rr (a f:Lm):Prop:=a.2.1*f.2.2<=f.2.1*a.2.2
def Rr.tr {a b c:Lm}(h:Rr a b)(k:Rr b c)(s:(0<a.2.2/\0<b.2.2/\0<c.2.2)\/(a.2.2<0/\b.2.2<0/\c.2.2<0)):Rr a c:=by
 rcases s with ⟨d,f,e⟩ | ⟨d,f,e⟩
 .have g:=wE h (wC e);have i:=wE k (wC d);exact v7 (by grind) f
 .have g:=vU h (wC e);have i:=vU k (wC d);exact v7 (a := - b.2.2) (by grind) (by lia)
def zib {ls:List Lm}(bt:∀m∈ls,Bt 1400 m.2.1/\Bt 1400 m.2.2)(o:∀m∈ls,0<m.2.1->0<m.2.2)(R:(∀m∈ls,m.2.1<=0)->Q .non)
  (U:∀f∈ls,0<f.2.1->(∀m∈ls,0<m.2.1->Rr m f)->Q (lmD f)):z0k.run [.lst (ls.map lmD)] Q X:=by
 walk_at "fn";ac_nf;refine z0J (f:=lmD) (λq K=>Ee2 λ(w J)=>((w = .s .non/\∀m∈q,m.2.1<=0)\/∃f∈q,w = .s (lmD f)/\0<f.2.1/\∀m∈q,0<m.2.1->Rr m f)/\K=[.s (.lst (ls.map lmD)),w,J]) ⟨_,_,.inl ⟨rfl,λm x=>by cases x⟩,rfl⟩ ?_ ?_
 .rintro q m r K e ⟨w,J,I,rfl⟩;have x:m∈ls:=by rw[e];simp
  have sub:∀{k},k∈q->k∈ls:=λg=>by rw[e];simp[g]
  obtain⟨N,O⟩:=bt m x;show Sm.run _ _ _ _ _
  rcases I with ⟨rfl,y⟩ | ⟨f,p,rfl,u,b⟩
  .ac_rfl;ac_nf;refine z0G (λj =>?_) (λj =>?_)
   .ac_nf;refine z6f rfl ?_;ac_nf;refine⟨_,_,.inr ⟨m,by simp,rfl,j,λk g i =>?_⟩,rfl⟩
    rcases wB.mp g with z | z
    .have:=y k z;lia
    .rw[wg.mp z];exact uQ _
   .ac_nf;refine⟨_,_,.inl ⟨rfl,λk g =>?_⟩,rfl⟩
    rcases wB.mp g with z | z
    .exact y k z
    .rw[wg.mp z];lia
  .obtain⟨L,M⟩:=bt f (sub p);ac_rfl;ac_nf;refine z0G (λj =>?_) (λj =>?_)
   .ac_nf;refine z9S rfl ?_;ac_nf;refine z0G (λC =>?_) (λC =>?_)
    .ac_nf;refine⟨_,_,.inr ⟨m,by simp,rfl,j,λk g i =>?_⟩,rfl⟩
     rcases wB.mp g with z | z
     .exact(b k z i).tr (wC C) (.inl ⟨o k (sub z) i,o f (sub p) u,o m x j⟩)
     .rw[wg.mp z];exact uQ _
    .ac_nf;refine⟨_,_,.inr ⟨f,by simp[p],rfl,u,λk g i =>?_⟩,rfl⟩
     rcases wB.mp g with z | z
     .exact b k z i
     .rw[wg.mp z];exact Int.not_lt.mp C
   .ac_nf;refine⟨_,_,.inr ⟨f,by simp[p],rfl,u,λk g i =>?_⟩,rfl⟩
    rcases wB.mp g with z | z
    .exact b k z i
    .rw[wg.mp z] at i;exact absurd i j
 rintro K ⟨w,J,I,rfl⟩
 rcases I with ⟨rfl,y⟩ | ⟨f,p,rfl,u,b⟩
 .ac_nf;exact R y
 .ac_nf;exact U f p u b
def zl3 {ls:List Lm}(bt:∀m∈ls,Bt 1400 m.2.1/\Bt 1400 m.2.2)(o:∀m∈ls,m.2.2<m.2.1->m.2.2<0)(R:(∀m∈ls,m.2.1<=m.2.2)->Q .non)
  (U:∀f∈ls,f.2.2<f.2.1->(∀m∈ls,m.2.2<m.2.1->Rr f m)->Q (lmD f)):z1u.run [.lst (ls.map lmD)] Q X:=by
 walk_at "fn";ac_nf;refine z0J (f:=lmD) (λq K=>Ee2 λ(w J)=>((w = .s .non/\∀m∈q,m.2.1<=m.2.2)\/∃f∈q,w = .s (lmD f)/\f.2.2<f.2.1/\∀m∈q,m.2.2<m.2.1->Rr f m)/\K=[.s (.lst (ls.map lmD)),w,J]) ⟨_,_,.inl ⟨rfl,λm x=>by cases x⟩,rfl⟩ ?_ ?_
 .rintro q m r K e ⟨w,J,I,rfl⟩;have x:m∈ls:=by rw[e];simp
  have sub:∀{k},k∈q->k∈ls:=λg=>by rw[e];simp[g]
  obtain⟨N,O⟩:=bt m x;show Sm.run _ _ _ _ _
  rcases I with ⟨rfl,y⟩ | ⟨f,p,rfl,u,b⟩
  .ac_rfl;ac_nf;refine z0G (λj =>?_) (λj =>?_)
   .ac_nf;refine z6f rfl ?_;ac_nf;refine⟨_,_,.inr ⟨m,by simp,rfl,j,λk g i =>?_⟩,rfl⟩
    rcases wB.mp g with z | z
    .have:=y k z;lia
    .rw[wg.mp z];exact uQ _
   .ac_nf;refine⟨_,_,.inl ⟨rfl,λk g =>?_⟩,rfl⟩
    rcases wB.mp g with z | z
    .exact y k z
    .rw[wg.mp z];lia
  .obtain⟨L,M⟩:=bt f (sub p);ac_rfl;ac_nf;refine z0G (λj =>?_) (λj =>?_)
   .ac_nf;refine z9S rfl ?_;ac_nf;refine z0G (λC =>?_) (λC =>?_)
    .ac_nf;refine⟨_,_,.inr ⟨m,by simp,rfl,j,λk g i =>?_⟩,rfl⟩
     rcases wB.mp g with z | z
     .exact Rr.tr (wC C) (b k z i) (.inr ⟨o m x j,o f (sub p) u,o k (sub z) i⟩)
     .rw[wg.mp z];exact uQ _
    .ac_nf;refine⟨_,_,.inr ⟨f,by simp[p],rfl,u,λk g i =>?_⟩,rfl⟩
     rcases wB.mp g with z | z
     .exact b k z i
     .rw[wg.mp z];exact Int.not_lt.mp C
   .ac_nf;refine⟨_,_,.inr ⟨f,by simp[p],rfl,u,λk g i =>?_⟩,rfl⟩
    rcases wB.mp g with z | z
    .exact b k z i
    .rw[wg.mp z] at i;exact absurd i j
 rintro K ⟨w,J,I,rfl⟩
 rcases I with ⟨rfl,y⟩ | ⟨f,p,rfl,u,b⟩
 .ac_nf;exact R y
 .ac_nf;exact U f p u b
def Fits (p q:Int)(a:List Lm):Prop:=∀m∈a,m.2.1*q<=p*m.2.2
def z7R {f l:Lm}(n:∀m∈ls,0<m.2.1->m.2.1<=m.2.2)(i:0<f.2.1)(j:f.2.1<=f.2.2)(a:∀m∈ls,0<m.2.1->Rr m f)(last:∀m∈ls,m.2.2<m.2.1->m.2.2<0/\Rr m f):Fits f.2.1 f.2.2 ls:=λm e=>by
 by_cases c:0<m.2.1
 .exact a m e c
 by_cases g:m.2.2<m.2.1
 .exact(last m e g).2
 by_cases h:0<=m.2.2
 .have b:=wS (wC i) h;have d:=wE (Int.not_lt.mp c) (show 0<=f.2.2 by lia);rw[uE] at d;exact jU d b
 .have b:=wE (show m.2.1<=m.2.2 by lia) (show 0<=f.2.2 by lia);have d:=vU j (show m.2.2<=0 by lia);rw[vA m.2.2] at b;exact jU b d
def zgY (f:m∈ls)(b:0<m.2.1)(d:m.2.2<m.2.1)(p q:Int)(i:0<=p)(j:p<=q)(a:0<q):¬ Fits p q ls:=λh=>by
 have k:=h m f;have e:=w5 b a
 by_cases c:0<=m.2.2
 .have g:=wE j c;have l:=Int.mul_lt_mul_of_pos_left d a
  grind
 .have g:=wH (show m.2.2<=0 by lia) i
  grind
def zgX (b:f∈ls)(d:l∈ls)(a:0<f.2.2)(e:l.2.2<0)(h:f.2.1*l.2.2<l.2.1*f.2.2)(p q:Int)(g:0<q):¬ Fits p q ls:=λk=>by
 have i:=vU (k f b) (wC e);have j:=wE (k l d) (wC a);have m:=Int.mul_lt_mul_of_pos_left h g
 grind
def zd7 (bt:∀m∈ls,Bt 1400 m.2.1/\Bt 1400 m.2.2)(ex:∃m∈ls,0<m.2.1)(R:∀bs:List P,(∀p q,0<=p->p<=q->0<q->¬ Fits p q ls)->Q (.tup (bs.map vec)))
  (U:(∀m∈ls,0<m.2.1->m.2.1<=m.2.2)->(∀f∈ls,0<f.2.1->(∀m∈ls,0<m.2.1->Rr m f)->Fits f.2.1 f.2.2 ls)->Q .non):z1Q.run [.lst (ls.map lmD)] Q X:=by
 walk_at "fn";ac_nf;refine z0J (f:=lmD) (λI M=>Ee3 λ(J K L)=>(∀m∈I,0<m.2.1->m.2.1<=m.2.2)/\M=[.s (.lst (ls.map lmD)),J,K,L,.n,.n]) ⟨_,_,_,(λm b=>by cases b),rfl⟩ ?_ ?_
 .rintro I m r M e ⟨J,K,L,hd,rfl⟩;have b:m∈ls:=by rw[e];simp
  refine⟨rfl,?_⟩;show Sm.run _ _ _ _ _;unfold z0l z0l z0l z0l;ac_rfl;ac_nf;have snoc:(0<m.2.1->m.2.1<=m.2.2)->∀k∈I++[m],0<k.2.1->k.2.1<=k.2.2:=λz k hk=>by
   rcases wB.mp hk with w | w
   .exact hd k w
   .rw[wg.mp w];exact z
  refine z0G (λi =>?_) (λi =>?_)
  .ac_nf;refine z0G (λx =>?_) (λx =>?_)
   .ac_nf;exact R [m.1] (zgY b i x)
   .ac_nf;exact⟨_,_,_,snoc λ_=>Int.not_lt.mp x,rfl⟩
  .ac_nf;exact⟨_,_,_,snoc λz=>absurd z i,rfl⟩
 rintro M ⟨J,K,L,nb,rfl⟩;have neg:∀m∈ls,m.2.2<m.2.1->m.2.2<0:=λm b h=>by
  by_cases c:0<m.2.1
  .have:=nb m b c;lia
  .lia
 ac_nf;refine zib bt (λm b h=>by have:=nb m b h;lia) (λz =>?_) λf y N u =>?_
 .obtain⟨m,b,h⟩:=ex;have:=z m b;lia
 have f1:=nb f y N;ac_nf;obtain⟨Y,Z⟩:=bt f y;have same:∀g∈ls,0<g.2.1->(∀m∈ls,0<m.2.1->Rr m g)->Rr f g/\Rr g f:=λg hg i o=>⟨o f y N,u g hg i⟩
 refine zl3 bt neg (λz =>?_) λl C O last =>?_
 .ac_nf;refine z9S rfl ?_;ac_nf;refine U nb λg hg i o=>z7R (l:=g) nb i (nb g hg i) o λm b h =>?_;have:=z m b;lia
 .obtain⟨a0,a4⟩:=bt l C;ac_nf;refine z6f rfl ?_;ac_nf;refine z0G (λi =>?_) (λi =>?_)
  .ac_nf;exact R [f.1,l.1] λp q _ _ q0=>zgX y C (by lia) (neg l C O) i p q q0
  .ac_nf;refine U nb λg hg j o=>z7R (l:=g) nb j (nb g hg j) o λm b h=>⟨neg m b h,?_⟩
   have x:=nb g hg j;have gm:=neg m b h;have gl:=neg l C O;have r1:Rr l m:=last m b h;have r2:l.2.1*f.2.2<=f.2.1*l.2.2:=Int.not_lt.mp i;have r3:=(same g hg j o).2;have a1:=wE r2 (show 0<=g.2.2 by lia);have a2:=vU r3 (wC gl);have W:l.2.1*g.2.2<=g.2.1*l.2.2:=v7 (a:=f.2.2) (by grind) (by lia);have b1:=wE r1 (show 0<=g.2.2 by lia);have b2:=vU W (wC gm);exact v7 (a := - l.2.2) (by grind) (by lia)
def z4G (b:Wb 165 l)(j:l.length<=62)(e:Bt 1000 m)(q:Q (vecs (l.map (Geo.sca m)))):z1W.run [vecs l,.int m] Q X:=by
 walk_at "fn";refine⟨by rw[wd];exact szl' (by lia),?_⟩;refine z13 (g:=λp=>vec (Geo.sca m p)) (λp hp K k =>?_) ?_
 .obtain⟨f,i⟩:=b p hp;ac_nf;exact k
 rw[show l.map _=(l.map _).map vec by rw[wP];rfl];exact q
def z7b (j:0<b)(hr:0<r)(m:Bt 3000 a)(f:Bt 3000 b)(x:Bt 3000 p)(g:Bt 3000 r)(q:∀u w,Q (.tup [.int u,.int w])):z2o.run [.tup [.int a,.int b],.tup [.int p,.int r]] Q X:=by
 have i:=w5 j hr;have e:Bt 6000 (b*r):=Bt.le (Bt.mul f g);have z:(Int.gcd (b*r) (a*p))<=b*r:=Int.le_of_dvd i (jq ..);have y  := by
  have:=Int.gcd_pos_of_ne_zero_left (a*p) (show b*r≠0 by omega);omega
 have o:Bt 9000 (Int.gcd (b*r) (a*p)):=Bt.le (e.of_abs (by lia));walk_at "fn";ac_nf;walk_at "fn";ac_nf;refine t_no (by lia) ?_;ac_nf;refine z3p ?_;ac_nf;refine t_no (by lia) ?_;ac_nf;exact q _ _
theorem zkt:∀l:List P,l.length<=(df l).length+1
 | []=>by simp
 | [_]=>by simp
 | a::b::r=>by
  have:=zkt (b::r);simp[df,wU] at*;lia
def zeZ (h:List P)(m:Int):(Geo.rd (h.map (Geo.sca m))).length<=(Geo.rd h).length:=by
 by_cases c:h.length=1
 .exact zdc λz=>absurd (by simp_all) z
 .refine zdc λ_ =>?_;rw[wd];unfold Geo.rd;rw[if_neg c];have:=zkt (h++h.take 1)
  grind
structure Pd (x y t:Int)(n:Nat:=300):Prop where
 pc:Pc x y t
 bx:Bt n x
 bY:Bt n y
 bt:Bt 100 t
def Pd.up {x y t:Int}(h:Pd x y t 290):Pd x y t:=⟨h.pc,h.bx.le,h.bY.le,h.bt⟩
def zek {x y t p r:Int}(m:h≠[])(l:d≠[])(f:Fits p r (lims h d x y t)):∀s∈z06 h++z06 d,∃a∈h,∃c∈d,dot (x*r,y*r) s.1<=dot (Geo.sca t (Geo.pl (Geo.sca r a) (Geo.sca p c))) s.1:=λs j=>by
 obtain⟨a,g,b⟩:=we.mp (z1O m).1;obtain⟨c,i,e⟩:=we.mp (z1O l).1;refine⟨a,g,c,i,?_⟩;have k:=f _ (we.mpr ⟨s,j,rfl⟩);simp[lim] at k;rw[<- b, <- e] at k;simp only[dot,Geo.sca,Geo.pl] at k ⊢
 grind
def zfU {x y t p r:Int}(hw:∀x∈ws,Wt4 x)(hz:ws.length<=12)(O:ws=ws0++[w])(N:z04 (· ∈ tr w) d)(T:Twh h d)(zl:(Geo.rd h).length+(Geo.rd d).length<=61)
  (pd:Pd x y t) (p0:0<p) (r0:0<r) (I:Bt 434 p) (m:Bt 434 r) (f:Fits p r (lims h d x y t)) (q:(∀b,r*dot (x,y) b<=t*(r*sup h b+p*sup d b))->∀ds,noLs ds=true->noDs ds=true->Q (.tup ds)):z1i.run [.tup (ws.map wtD),vecs h,.tup [.int p,.int r],pcD x y t] Q X:=by
 have nh:=z0S T.xh;have nd:=z0S T.xd;have pc:=pd.pc;have b1:=pd.bx;have b2:=pd.bY;have b3:=pc.bt;have t0:=pc.pos;have j:Wt4 w:=hw w (by rw[O];simp);have ew:atI (ws.map wtD) (-1)=some (wtD w):=by
  have e:=zhz (l:=ws.map wtD) (k:=0) (by rw[O];simp);rw[show (((0:Nat):Int) - 1) = -1 by decide] at e;rw[e,wV (by rw[O];simp),O];simp
 walk_at "fn";ac_nf;refine z19 ew ?_;ac_nf;refine z5X j.wb.le j.vb.le (by have:=j.len;lia) λd' x' =>?_;obtain rfl:d'=d:=(x'.is (by simpa using j.ne)).unique N;refine z0O (Safe.of_noL (z17 _) (z18 _) _) ?_;ac_rfl;ac_nf;refine z4G T.bh T.zh m.le ?_;ac_nf;refine z4G T.bd T.zd I.le ?_;ac_nf;have w1:Wb 600 (h.map (Geo.sca r)):=λv Y=>by
  obtain⟨u,hu,rfl⟩:=we.mp Y;exact⟨Bt.le (Bt.mul (T.bh u hu).1 m),Bt.le (Bt.mul (T.bh u hu).2 m)⟩
 have w2:Wb 600 (d'.map (Geo.sca p)):=λv Y=>by
  obtain⟨u,hu,rfl⟩:=we.mp Y;exact⟨Bt.le (Bt.mul (T.bd u hu).1 I),Bt.le (Bt.mul (T.bd u hu).2 I)⟩
 have y1:=zeZ h r;have y2:=zeZ d' p;refine z7c w1 w2 (z04.sca r0 T.xh) (z04.sca p0 T.xd) (by rw[wd];exact T.zh) (by rw[wd];exact T.zd) (by lia) λR xR zR =>?_;have nR:=z0S xR;have lR:=zil R;have bR:Wb 600 R:=λv Y=>by
  obtain⟨a,ha,c,M,rfl⟩:=xR.sub v Y;obtain⟨u,hu,rfl⟩:=we.mp ha;obtain⟨u',U,rfl⟩:=we.mp M;exact⟨Bt.le (Bt.add (Bt.mul (T.bh u hu).1 m) (Bt.mul (T.bd u' U).1 I)),Bt.le (Bt.add (Bt.mul (T.bh u hu).2 m) (Bt.mul (T.bd u' U).2 I))⟩
 have a0:=zdb T.xh T.xd r0 p0 t0 xR (zek nh nd f);refine z0O (Safe.of_noL (z17 _) (z18 _) _) ?_;ac_rfl;ac_nf;have a4:∀{Q:DK}{X:XP},(∀u v t',Pl (x*r) (y*r) t u v t'->Q (pcD u v t'))->z23.run [pcD x y t,.tup [.int r,.int 1]] Q X:=λ{Q X} k=>by
  walk_at "fn";ac_nf;rw[Int.mul_one];exact z5F t0 b3.le k
 refine a4 λu v t' pl =>?_;have a1:Pc u v t':=pl.pc t0 b3 (Bt.le (Bt.mul b1 m)) (Bt.le (Bt.mul b2 m));ac_nf;refine z7a nR (by lia) bR a1 (λb _ _ J =>?_) λsh W L =>?_
 .exfalso
  obtain⟨c,M,le⟩:=a0 b;have k:=J c M;have e:dot (u,v) b*t=dot (x*r,y*r) b*t':=by
   have e1:=pl.cx;have e2:=pl.cy;simp only[dot]
   grind
  have k1:=jC k t0;have k2:=wE le (wC a1.pos);rw[e] at k1
  grind
 ac_nf;refine⟨by rw[wd];exact szl' (by lia),?_⟩;refine z4f (f:=wtD) (g:=shsD) (P:=λx gs=>Gd W x.1.length gs) (λx hx K hK =>?_) λys i hy =>?_
 .ac_nf;refine za1 (hw x hx) bR nR L.pos L.bt L.gd L.one λgs φ _ k2 _ _ _ =>?_;exact hK gs k2
 have Z:ys≠[]:=λz=>by rw[z,O] at i;simp at i
 obtain⟨C,last,rfl⟩:Ee2 λC last=>ys=C++[last]:=⟨ys.dropLast,ys.getLast Z,(List.dropLast_concat_getLast Z).symm⟩
 have o:∀s∈last,Aa3 (0<s.2.2) (Bt 3000 s.2.1) (Bt 3000 s.2.2):=λs hs=>by
  obtain⟨y,e,G⟩:=hy C.length (by rw[<- i];simp);rw[wQ (wt _),Nat.sub_self] at e;obtain rfl:last=y:=by simpa using e
  obtain⟨ss,_⟩:=G.each s hs;obtain⟨c1,c2⟩:=ss.bits L.pos L.bt;exact⟨ss.bot,c1.le,c2.le⟩
 have a5:last.length<=3:=by
  obtain⟨y,e,G⟩:=hy C.length (by rw[<- i];simp);rw[wQ (wt _),Nat.sub_self] at e;obtain rfl:last=y:=by simpa using e
  exact G.few
 ac_nf;refine z1A (λz hz=>by obtain⟨g,_,rfl⟩:=we.mp hz;exact Safe.of_noL (z7A g) (z7B g) _) ?_;ac_rfl;ac_nf;refine zfW (z0w rfl ?_);unfold popL;rw[wA,wD,wd];simp only[wI,uD,wU,vZ,Nat.zero_add,Nat.add_sub_cancel];rw[wQ (by simp),wd,Nat.sub_self];simp only[jn,List.dropLast_concat];ac_rfl;ac_nf;refine z4l (l:=[]) (z0w rfl ?_);ac_nf;refine⟨by rw[wd];exact szl' (by lia),?_⟩;refine z4f (f:=shD) (g:=shD) (P:=λ_ _=>True) (λs hs K hK =>?_) λzs a6 _ =>?_
 .obtain⟨c0,c1,c2⟩:=o s hs;refine⟨rfl,?_⟩;unfold z0l z0l z0l;ac_rfl;ac_nf;refine z7b c0 r0 c1 c2 I.le m.le λu w =>?_;ac_nf;exact hK (s.1,u,w) trivial
 ac_nf;have yz:C.length<=12:=by simp at i;lia
 refine⟨by rw[wd];exact szl' (by lia),Safe.of_noL (z7A zs) (z7B zs) _,?_⟩;ac_rfl;ac_nf;rw[show C.map shsD++[.tup (zs.map shD)]=(C++[zs]).map shsD by simp];refine q (λb =>?_) _ (z2L λd N=>by(obtain⟨g,_,rfl⟩:=we.mp N;exact z7A g)) (z2M λd N=>by(obtain⟨g,_,rfl⟩:=we.mp N;exact z7B g));obtain⟨c,M,le⟩:=a0 b;obtain⟨a',a2,e',a3,rfl⟩:=xR.sub c M;obtain⟨a,ha,rfl⟩:=we.mp a2;obtain⟨e,he,rfl⟩:=we.mp a3;have k1:=wH ((z1O (b:=b) nh).2 a ha) (wC r0);have k2:=wH ((z1O (b:=b) nd).2 e he) (wC p0);have k3:=wH (Int.add_le_add k1 k2) (wC t0);refine jU ?_ k3;simp only[dot,Geo.sca,Geo.pl] at le ⊢
 grind
def z57 (x:z04 S h)(b:P):Geo.Far S b (sup h b):=by
 obtain⟨a,d⟩:=z1O (z0S x);obtain⟨c,f,e⟩:=we.mp a;refine⟨λp g =>?_,c,x.sub c f,e⟩;obtain⟨u,i,le⟩:=x.far (x.in g) b;exact jU le (d u i)
def zfr (h:Geo.Far S b F)(k:Geo.Far S b G):F=G:=by
 obtain⟨g,u,e,a⟩:=h;obtain⟨i,v,f,d⟩:=k;exact Int.le_antisymm (by rw[<- a];exact i u e) (by rw[<- d];exact g v f)
def Rw (a d:P->Prop)(x y t p r:Int):Prop:=∀b F G,Geo.Far a b F->Geo.Far d b G->r*dot (x,y) b<=t*(r*F+p*G)
def Rw.fits {x y t p r:Int}(b:z04 S1 h)(e:z04 S2 d)(k:Rw S1 S2 x y t p r):Fits p r (lims h d x y t):=λm a=>by
 obtain⟨s,_,rfl⟩:=we.mp a;have:=k s.1 _ _ (z57 b s.1) (z57 e s.1);simp only[lim]
 grind
def zdQ {x y t:Int}(m:z04 (· ∈ h) h)(f:0<t)(E:t*sup h b<dot (x,y) b):∃s∈z06 h,t*sup h s.1<dot (x,y) s.1:=by
 by_cases c:∃s∈z06 h,t*sup h s.1<dot (x,y) s.1
 .exact c
 exfalso
 have d:=z0S m;have far:∀s∈z06 h,dot (x,y) s.1<=dot (Geo.sca t s.2) s.1:=λs a=>by
  have p:¬ t*sup h s.1<dot (x,y) s.1:=λz=>c ⟨s,a,z⟩;obtain⟨F,r⟩:=z3S m a;obtain⟨u,j,e⟩:=we.mp (z1O (b:=s.1) d).1;have n:=wH (r u j) (wC f);rw[e] at n;have C:dot (Geo.sca t s.2) s.1=t*dot s.2 s.1:=by simp only[dot,Geo.sca];grind
  omega
 have w:=z04.sca f m;have l:In (h.map (Geo.sca t)) (x,y):=z6m (by simpa using d) λs a=>by
  obtain⟨q,i,o,e⟩:=z4T f d a;rw[e];exact o.le (far q i)
 obtain⟨A,g,le⟩:=w.far l b;obtain⟨u,j,rfl⟩:=we.mp g;have p:=wH ((z1O (b:=b) d).2 u j) (wC f);have n:dot (Geo.sca t u) b=t*dot u b:=by simp only[dot,Geo.sca];grind
 have le:dot (x,y) b<=dot (Geo.sca t u) b:=le;omega
def zel {ws:List (List P × P)}{k:Nat}{b:P}{F G:Int}(l:ws[k]? = some w)(g:Geo.Far (MS (ws.take k)) b F)(h:Geo.Far (· ∈ tr w) b G):Geo.Far (MS (ws.take (k+1))) b (F+G):=by
 rw[jJ,l];show Geo.Far (Ms ((ws.take k++[w]).map tr)) b (F+G);rw[wA];have e:∀u v:P,Geo.sc (Geo.pl u v) b=Geo.sc u b+Geo.sc v b:=λu v=>by simp only[Geo.sc,Geo.pl];grind
 obtain⟨q,a,i,d⟩:=g;obtain⟨r,c,j,f⟩:=h;refine⟨λp m =>?_,Geo.pl a c,z6J.mpr ⟨a,i,c,j,rfl⟩,by rw[e,d,f]⟩;obtain⟨u,n,v,o,rfl⟩:=z6J.mp m;have:=q u n;have:=r v o;rw[e];lia
def zi9 (m:0<g)(o:g<=n)(b:Bt 432 n)(q:∀p r,0<p->p<=r->Int.gcd p r=1->(∃c,0<c/\g=p*c/\n=r*c)->Bt 434 p->Bt 434 r->Q (.tup [.int p,.int r])):z24.run [.int g,.int n] Q X:=by
 have l:0<n:=by lia
 refine z98 l b.le ?_;obtain⟨d,i,j,_,e⟩:=z3f (t:=g) l;have f:g / ((Int.gcd g n:Nat))*((Int.gcd g n:Nat))=g:=by rw[vA];exact i.symm
 have h:n / ((Int.gcd g n:Nat))*((Int.gcd g n:Nat))=n:=by rw[vA];exact j.symm
 clear i j;generalize g / ((Int.gcd g n:Nat))=p at*;generalize n / ((Int.gcd g n:Nat))=r at*;generalize ((Int.gcd g n):Int)=c at*;have s:0<p:=zf5 (a:=c) (by rw[vA,f];exact m) d;have u:p<=r:=jG (by rw[f,h];exact o) d;have w:r<=n:=by
  have:=wH (show 1<=c by omega) (show 0<=r by omega);omega
 exact q p r s u e ⟨c,d,f.symm,h.symm⟩ (Bt.le (b.of_abs (by omega))) (Bt.le (b.of_abs (by omega)))
def Fits.low (h:Fits g n ls)(c:∃c,0<c/\g=p*c/\n=r*c):Fits p r ls:=λm e=>by
 obtain⟨c,a,b,d⟩:=c;have:=h m e;rw[b,d] at this;exact jG (by grind) a
abbrev atD (u v:Int)(ds es:List D):D :=.tup [.str (Str.ofString "at"),.tup [.int u,.int v],.tup ds,.tup es]
abbrev nvD (es:List D):D :=.tup [.str (Str.ofString "never"),.tup es]
def Shut (ws:List (List P × P))(x y t:Int)(j:Nat):Prop:=∀w,ws[j]? = some w->∀p r,0<=p->p<=r->0<r->¬ Rw (MS (ws.take j)) (· ∈ tr w) x y t p r
theorem z6H:∀{l:List D},noLs l=true->∀{d},d∈l->noL d=true
 | a::l,h,d,b=>by
  rw[noLs,vI] at h
  rcases wm.mp b with rfl | b
  .exact h.1
  .exact z6H h.2 b
theorem z6I:∀{l:List D},noDs l=true->∀{d},d∈l->noD d=true
 | a::l,h,d,b=>by
  rw[noDs,vI] at h
  rcases wm.mp b with rfl | b
  .exact h.1
  .exact z6I h.2 b
def zb3 {x y t:Int}(hw:∀x∈ws,Wt4 x)(hz:ws.length<=12)(ht:tl ws<=60)(pd:Pd x y t)(q0:x=0->y=0->t=1->Q (atD 0 1 [] []))
  (q1:∀(k:Nat) w p r u v L es,ws[k]? = some w->(x,y)≠((0:Int),(0:Int))->0<p->p<=r->Int.gcd p r=1->Bt 434 p/\Bt 434 r->Rw (MS (ws.take k)) (· ∈ tr w) x y t p r->(∀j,j<k->Shut ws x y t j)->(∀p' r',0<=p'->p'<=r'->0<r'->Rw (MS (ws.take k)) (· ∈ tr w) x y t p' r'->p*r'<=p'*r)->Pl (k*r+p*1) 0 (1*r) u 0 v->noLs L=true->noDs L=true->noLs es=true->noDs es=true->Q (atD u v L es))
  (q2:(x,y)≠((0:Int),(0:Int))->(∀j,Shut ws x y t j)->∀es,noLs es=true->noDs es=true->Q (nvD es)):z4c.run [.tup (ws.map wtD),pcD x y t] Q X:=by
 have pc:=pd.pc;have t0:=pc.pos;walk_at "fn";ac_nf;refine zjX (l:=[.int x,.int y,.int t]) (r:=[.int 0,.int 0,.int 1]) (Da3 x y t) (Da3 0 0 1) ?_;rw[show deq (.tup [.int x,.int y,.int t]) (.tup [.int 0,.int 0,.int 1])=decide (x=0/\y=0/\t=1) from deq3 x y t 0 0 1];refine z0G (λz =>?_) (λz =>?_)
 .ac_nf;exact q0 z.1 z.2.1 z.2.2
 have ne:(x,y)≠((0:Int),(0:Int)):=λe=>by
  have U:=congrArg Prod.fst e;have W:=congrArg Prod.snd e;dsimp only at U W;have c:=pc.cop;rw[U,W] at c;simp at c;exact z ⟨U,W,by omega⟩
 ac_nf;refine z1A (λx hx=>by cases hx) ?_;ac_rfl;ac_nf;rw[wd];refine z9c (by lia) (by lia) ?_;rw[show (ws.length:Int).toNat=ws.length by simp];refine z0J (f:=λ(j:Nat)=>D.int j) (λI ρ=>Ee9 λh g (x4 x5 x6 x7 x8 x9 N:B)=>Aa8 (z04 (MS (ws.take I.length)) h) ((Geo.rd h).length<=tl (ws.take I.length)) (g.length=I.length) (noLs g=true) (noDs g=true) (∃b,t*sup h b<dot (x,y) b) (∀j,j<I.length->Shut ws x y t j) (ρ=[.s (.tup (ws.map wtD)),.s (pcD x y t),.o (.lst g),.s (vecs h),x4,x5,x6,x7,x8,x9,N])) ⟨[(0,0)],[],_,_,_,_,_,_,_,zk7,by simp[Geo.rd],rfl,rfl,rfl,⟨(x,y),?_⟩,λj hj=>absurd hj (by simp),rfl⟩ ?_ ?_
 .have:=z4D ne;simp only[sup,dot];dsimp only at this;omega
 .rintro I k0 rr ρ e ⟨h,g,x4,x5,x6,x7,x8,x9,N,M,a0,bl,bn,bD,⟨b,hb⟩,i,rfl⟩;have le:=congrArg List.length e;rw[uf,wD,wU] at le;have hi:I.length<ws.length:=by lia
  obtain rfl:k0=I.length:=by
   have:=congrArg (λl=>l[I.length]?) e;simp only[jR hi] at this;simpa using this.symm
  generalize hk:I.length=k at*;obtain⟨w,J⟩:∃w,ws[k]? = some w:=⟨_,wo hi⟩
  have wx:Wt4 w:=hw w (ww J);have tn:tr w≠[]:=λz=>wx.ne (jP.mp z);have b2:(tr w).length=w.1.length:=by unfold tr;rw[wd]
  have t1:tl (ws.take (k+1))=tl (ws.take k)+w.1.length:=by
   rw[jJ,J];exact z54 _ _
  have t2:=zaM ws (k+1);have wl:=wx.len;have h1:=zil h;have Y:Wb 165 h:=λp hp=>by
   obtain⟨c1,c2⟩:=zk6 (λd q=>by obtain⟨x,hx,rfl⟩:=we.mp q;exact zfJ (hw x (vE hx))) (M.sub p hp);rw[wd,vh] at c1 c2;exact⟨Bt.le c1 (by lia),Bt.le c2 (by lia)⟩
  show Sm.run _ _ _ _ _;ac_rfl;ac_nf;refine z19 (z0P ((z9K hi).trans J)) ?_;ac_nf;refine z5X wx.wb.le ⟨wx.vb.1.le,wx.vb.2.le⟩ (by lia) λd q =>?_;have C:z04 (· ∈ tr w) d:=q.is tn;have yl:=z1V C.nodup C.sub;have h2:(Geo.rd d).length<=w.1.length:=zdc λ_=>by lia
  have T:Twh h d:=⟨z79 M,z79 C,Y,λp hp=>⟨(zfJ wx p (C.sub p hp)).1.le,(zfJ wx p (C.sub p hp)).2.le⟩,by lia,by lia⟩
  refine z0O (Safe.of_noL (z17 _) (z18 _) _) ?_;ac_rfl;ac_nf;refine z8m T pc ?_;ac_rfl;ac_nf;have nh:=z0S T.xh;have nd:=z0S T.xd;have bm:∀m∈lims h d x y t,Bt 1400 m.2.1/\Bt 432 m.2.2:=λm K=>by
   obtain⟨s,hs,rfl⟩:=we.mp K;have vb:=T.vb hs;exact⟨Bt.le (Bt.sub (Bt.add (Bt.mul pd.bx vb.1) (Bt.mul pd.bY vb.2)) (Bt.mul pd.bt (z94 nh T.bh vb))),Bt.le (Bt.mul pd.bt (z94 nd T.bd vb))⟩
  have bt:∀m∈lims h d x y t,Bt 1400 m.2.1/\Bt 1400 m.2.2:=λm K=>⟨(bm m K).1,(bm m K).2.le⟩
  have ex:∃m∈lims h d x y t,0<m.2.1:=by
   obtain⟨s,hs,k⟩:=zdQ T.xh t0 hb;exact⟨_,we.mpr ⟨s,vD _ hs,rfl⟩,by simp only[lim];omega⟩
  refine zd7 bt ex (λbs nf =>?_) λnb O =>?_
  .have a4:Shut ws x y t k:=λw' a5 p r p0 pr r0 c=>by
    obtain rfl:w=w':=wY (J.symm.trans a5);exact nf p r p0 pr r0 (c.fits M C)
   refine z0O (Safe.of_noL (z17 _) (z18 _) _) ?_;ac_rfl;ac_nf;refine z9S rfl ?_;ac_nf;refine z4l (l:=[]) (z0w rfl ?_);ac_nf;refine⟨szl' (by lia),Safe.of_noL (z17 _) (z18 _) _,?_⟩;ac_rfl;ac_nf;refine z7c Y.le T.bd.le T.xh T.xd T.zh T.zd (by lia) λh' a7 b1 =>?_;refine z0O (Safe.of_noL (z17 _) (z18 _) _) ?_;ac_rfl;have Z:z04 (MS (ws.take (k+1))) h':=by
    rw[jJ,J];show z04 (Ms ((ws.take k++[w]).map tr)) h';rw[wA];exact ze2 M C a7
   have b0:∃b,t*sup h' b<dot (x,y) b:=by
    by_cases c:∃b,t*sup h' b<dot (x,y) b
    .exact c
    .refine absurd (λb F G f1 f2 =>?_) (a4 w J 1 1 (by decide) (by decide) (by decide));have h3:¬ t*sup h' b<dot (x,y) b:=λz=>c ⟨b,z⟩;obtain⟨m1,u,hu,eu⟩:=zel J f1 f2;obtain⟨m2,v,hv,ev⟩:=z57 Z b;have e:sup h' b=F+G:=Int.le_antisymm (by rw[<- ev];exact m1 v hv) (by rw[<- eu];exact m2 u hu);rw[e] at h3;rw[Int.one_mul,Int.one_mul,Int.one_mul];exact Int.not_lt.mp h3
   rw[wD,uZ,hk];refine⟨h',g++[.tup (bs.map vec)],_,_,_,_,_,_,_,Z,by lia,by simp[bl],?_,?_,b0,λj hj =>?_,rfl⟩
   .refine z2L λd q =>?_
    rcases wB.mp q with z | z
    .exact z6H bn z
    .rw[wg.mp z];exact z17 bs
   .refine z2M λd q =>?_
    rcases wB.mp q with z | z
    .exact z6I bD z
    .rw[wg.mp z];exact z18 bs
   .by_cases z:j=k
    .rw[z];exact a4
    .exact i j (by lia)
  .ac_nf;refine z6f rfl ?_;ac_nf;refine zib bt (λm K z=>by have:=nb m K z;lia) (λz =>?_) λf hf f0 bf =>?_
   .exfalso
    obtain⟨m,K,z'⟩:=ex;have:=z m K;lia
   ac_nf;refine zi9 f0 (nb f hf f0) (bm f hf).2 λp r p0 pr R c bp br =>?_;ac_nf;have a6:=(O f hf f0 bf).low c;rw[z5z (by lia),show ((k:Int)+1).toNat=k+1 by lia];refine zfU (ws0:=ws.take k) (λx hx=>hw x (vE hx)) (by rw[vh];lia) (by rw[jJ,J];rfl) C T (by lia) pd p0 (by lia) bp br a6 λa9 L n1 n2 =>?_;refine z0O (Safe.of_noL (show noL (.tup L)=true from n1) (show noD (.tup L)=true from n2) _) ?_;ac_rfl;ac_nf;refine z8n (by decide) (by lia) (by simp) R (Bt.le (m:=64) (z0b (by omega))) (Bt.le (m:=1) (z0b (by decide))) bp.le br.le λu v pl =>?_;ac_nf;refine z7z (by simp[bl];exact uy (szl' (by lia))) ?_;ac_nf;refine q1 k w p r u v L _ J ne p0 pr R ⟨bp,br⟩ (λb F G f1 f2=>by rw[zfr f1 (z57 M b),zfr f2 (z57 C b)];exact a9 b) i (λp' r' a1 a2 a3 c' =>?_) pl n1 n2 (z2L λd q =>?_) (z2M λd q =>?_)
   .obtain⟨c,c0,U,W⟩:=c;have k':=(c'.fits M C) f hf;rw[U,W] at k';exact jG (a:=c) (by grind) c0
   .rcases wB.mp q with z | z
    .exact z6H bn z
    .rw[wg.mp z];rfl
   .rcases wB.mp q with z | z
    .exact z6I bD z
    .rw[wg.mp z];rfl
 rintro ρ ⟨h,g,x4,x5,x6,x7,x8,x9,N,M,a0,bl,bn,bD,hb,i,rfl⟩;ac_nf;refine q2 ne (λj w hj =>?_) g bn bD;obtain⟨a8,_⟩:=wq.mp hj;exact i j (by simpa using a8) w hj
structure CrsS (W:Int)(ws:List (List P × P))(co:List (List Sh)):Prop where
 len:co.length<=ws.length
 ok:∀p∈ws.zip co,p.2.length<=14/\∀s∈p.2,Sw W p.1.1.length s
def z6h {k n:Nat}(h:∀x∈ws,Wt4 x)(j:ws.length<=12)(g:0<W)(b:Bt k W)(f:CrsS W ws co):Bt (k+180) (((ws.zip co).take n).map (cX W)).sum/\Bt (k+180) (((ws.zip co).take n).map (cY W)).sum:=by
 have i:((ws.zip co).take n).length<=12:=by grind
 have e:∀p∈(ws.zip co).take n,Bt (k+160) (cX W p)/\Bt (k+160) (cY W p):=λp a=>by
  have a:=vE a;exact zmm g b (h _ (uP a).1) (f.ok p a).1 (f.ok p a).2
 constructor
 .refine Bt.le (z6L (m:=k+160) λx d =>?_) (by rw[wd];lia);obtain⟨p,a,rfl⟩:=we.mp d;exact(e p a).1
 .refine Bt.le (z6L (m:=k+160) λx d =>?_) (by rw[wd];lia);obtain⟨p,a,rfl⟩:=we.mp d;exact(e p a).2
def zj5 (h:s.2.2 ∣ W):pt (W*m) s=pt W s*m:=by
 unfold pt;rw[vA W m,Int.mul_ediv_assoc _ h]
 grind
theorem z92:∀{l:List Sh},(∀s∈l,s.2.2 ∣ W)->sw w (W*m) l=sw w W l*m
 | [],_=>by simp[sw]
 | s::l,h=>by
  have b:=z92 (w:=w) (m:=m) (l:=l) λs a=>h s (by simp[a]);unfold sw at*;rw[wI,vC,wI,vC,b,zj5 (h s (by simp))]
  grind
theorem z67 {f:Nat->Int}{g:Nat->Bool}:∀{l:List Nat},(∀k∈l,g k=false->f k=0)->((l.filter g).map f).sum=(l.map f).sum
 | [],_=>rfl
 | a::l,h=>by
  have d:=z67 (l:=l) λk b=>h k (by simp[b])
  cases c:g a with
  | true=>simp_all
  | false=>simp_all
def zhZ {ts:List Int}(d:∀t∈ts,0<=t)(j:0<ts.sum):sw (λ_=>1) ts.sum (wsh ts)=ts.sum:=by
 unfold sw wsh;rw[wP];have e:∀l:List Nat,l.map ((λs:Sh=>1*pt ts.sum s) ∘ λk=>(k,ts.getD k 0 / (Int.gcd (ts.getD k 0) ts.sum),ts.sum / (Int.gcd (ts.getD k 0) ts.sum)))=l.map λk=>ts.getD k 0:=λl=>uT λk _=>by
  obtain⟨n,a,b,m,_⟩:=z3f (t:=ts.getD k 0) j;simp only[Function.comp,pt,Int.one_mul];generalize (Int.gcd (ts.getD k 0) ts.sum)=g at*;have:ts.sum / (ts.sum / g)=g:=by
   generalize ts.sum / g=q at*;rw[b];exact Int.mul_ediv_cancel _ (by omega)
  rw[this,vA];exact a.symm
 rw[e,z67 λk h z =>?_]
 .congr 1
  refine List.ext_getElem (by simp) λi o f =>?_;simp[ug,f]
 .have:=d _ (z6P (v4.mp h));have z:=of_decide_eq_false z;omega
def z7f {c:Int}(hw:∀x∈ws,Wt4 x)(hz:ws.length<=12)(q:∀w W,0<W->Bt 85 W->CrsS W ws w->w.length=ws.length->(∀p∈ws.zip w,(p.2.length<=12/\∀s∈p.2,s.2.1<=s.2.2)/\sw (λ_=>1) W p.2=W)->Q (.tup (w.map shsD))):z0s.run [.tup (ws.map wtD),.int c] Q X:=by
 walk_at "fn";ac_nf;refine z1A (λx hx=>by cases hx) ?_;ac_rfl;ac_nf;rw[wd];refine z9c (by lia) (by lia) ?_;rw[show (ws.length:Int).toNat=ws.length by simp];refine z0J (f:=λ(j:Nat)=>D.int j) (λJ ρ=>Ee4 λw (x3 x4 x5:B)=>w.length=J.length/\(∃W,0<W/\Bt (1+7*J.length) W/\∀p∈ws.zip w,(sw (λ_=>1) W p.2=W/\p.2.length<=12)/\∀s∈p.2,Sw W p.1.1.length s/\s.2.1<=s.2.2)/\ρ=[.s (.tup (ws.map wtD)),.s (.int c),.o (.lst (w.map shsD)),x3,x4,x5]) ⟨[],_,_,_,rfl,⟨1,by decide,z0b (by decide),λp hp=>by(simp at hp)⟩,rfl⟩ ?_ ?_
 .rintro J k r ρ e ⟨w,x3,x4,x5,M,⟨W,W0,U,u⟩,rfl⟩;have hk:k=J.length/\k<ws.length:=by
   have h4:=congrArg List.length e;have h5:(List.range ws.length)[J.length]? = some k:=by rw[e];simp
   rw[jR (by simp at h4;lia)] at h5;simp at h4 h5;lia
  obtain⟨x,hx,ex⟩:=z4K (xs:=ws) (i:=k) (by lia) (by lia);obtain⟨wb,ne,len,vb⟩:=hw x hx;have hp:=w6.mpr ne;show Sm.run _ _ _ _ _;ac_rfl;ac_nf;refine z0I (by decide) (by decide) (by decide) λr0 a3 a4 =>?_;ac_nf;refine menu (ns:=[1,6,60]) a3 (by show r0<3;exact a4) λm hm =>?_;have a1:0<m/\m<=60:=by
   simp only[wm,wz,vK] at hm;lia
  clear hm;refine z0I (by lia) (by lia) a1.1 λb b0 b1 =>?_;ac_nf;ac_rfl;ac_nf;refine z19 (z0P ex) ?_;ac_nf;rw[wd];refine zfX hp (by lia) (by lia) (by lia) λts h1 Y L =>?_;ac_rfl;refine zbb (λa5=>Ee2 λ(ts:List Int) m=>Aa6 (ts.length=x.1.length) (∀t∈ts,0<=t) (ts.sum=m) (0<m) (m<=60) (a5=[.s (.tup (ws.map wtD)),.s (.int c),.o (.lst (w.map shsD)),.s (.int k),.s (.int m),.s (.lst (ts.map .int))])) ?_ ?_
  .ac_nf;refine z0I (by decide) (by decide) (by decide) λr1 a6 a7 =>?_;ac_nf;refine z0G (λ_ =>?_) (λ_ =>?_)
   .ac_nf;ac_rfl;ac_nf;refine z19 (z0P ex) ?_;ac_nf;rw[wd];refine z6G (by lia) (by lia) ?_;rw[show ((x.1.length:Nat):Int).toNat=x.1.length by simp];ac_nf;refine⟨by rw[wd,uf];exact szl (by lia),?_⟩;refine z4g (f:=λ(j:Nat)=>D.int (j:Int)) (g:=D.int) (P:=λ_ y=>1<=y/\y<=5) (λj hj K hK =>?_) λZ I O =>?_
    .have:=v4.mp hj;ac_nf;refine z0I (by lia) (by lia) (by decide) λv v0 v1 =>?_;ac_nf;exact hK _ ⟨by lia,by lia⟩
    ac_rfl;ac_nf;refine zlV ?_;have R:∀y∈Z,1<=y/\y<=5:=λy a2=>(O y a2).choose_spec.2;have I:Z.length=x.1.length:=by rw[I,uf]
    have bd:∀l:List Int,(∀y∈l,1<=y/\y<=5)->(l.length:Int)<=l.sum/\l.sum<=5*(l.length:Int):=λl=>by
     induction l with
     | nil=>intro _;simp
     | cons a l ih=>
      intro h;have:=ih λy O=>h y (by simp[O]);have:=h a (by simp);rw[vC,wU];lia
    have:=bd Z R;ac_nf;exact⟨Z,_,I,λy O=>by have:=R y O;lia,rfl,by lia,by lia,rfl⟩
   .ac_nf;exact⟨ts,_,h1,Y,L,by lia,by lia,rfl⟩
  rintro ρ ⟨ts,m,h1,Y,L,m0,m1,rfl⟩;refine z4l (l:=[]) (z0w rfl ?_);refine zew rfl rfl rfl rfl (by lia) L m0 (by lia) ?_;refine⟨by rw[wd];exact szl' (by lia),Safe.of_noL (z7A _) (z7B _) _,?_⟩;ac_rfl;refine⟨w++[wsh ts],_,_,_,by simp[M],⟨W*m,w5 W0 m0,Bt.le (Bt.mul U (z0b (n:=6) (by lia))) (by simp;lia),λp N =>?_⟩,by rw[wA];rfl⟩;have ok:=zhE Y (by lia);rw[h1,L] at ok;have a0:ws[w.length]? = some x:=by
   unfold atI at ex;rw[z49 (by lia) (by lia)] at ex;have ex:ws[((k:Nat):Int).toNat]? = some x:=ex;rw[show (k:Int).toNat=w.length by lia] at ex;exact ex
  rw[z4Q a0] at N
  rcases wB.mp N with z | z
  .exact⟨⟨by rw[z92 λs C=>((u p z).2 s C).1.dv,(u p z).1.1],(u p z).1.2⟩,λs C=>⟨((u p z).2 s C).1.mul,((u p z).2 s C).2⟩⟩
  .rw[wg.mp z];refine⟨⟨by show sw (λ_=>1) (W*m) (wsh ts)=W*m;rw[vA W m,z92 λs C=>(ok.2 s C).1.dv, <- L,zhZ Y (by lia)],by have:=ok.1.2;show (wsh ts).length<=12;lia⟩,λs C=>⟨?_,(ok.2 s C).2⟩⟩;rw[vA];exact(ok.2 s C).1.mul
 rintro ρ ⟨w,x3,x4,x5,M,⟨W,W0,U,u⟩,rfl⟩;ac_nf;rw[uf] at M U;exact q w W W0 (U.le (by lia)) ⟨Nat.le_of_eq M,λp hp=>⟨by have:=(u p hp).1.2;lia,λs C=>((u p hp).2 s C).1⟩⟩ M λp hp=>⟨⟨(u p hp).1.2,λs C=>((u p hp).2 s C).2⟩,(u p hp).1.1⟩
def zfC {f g:Type}{l:List f}{m:List g}(h:m.length<=l.length){a:List Nat}{k:Nat}{r:List Nat}(e:List.range m.length=a++k::r):∃x y,k=a.length/\atI l k=some x/\atI m k=some y/\(l.zip m)[k]? = some (x,y):=by
 have b:=congrArg List.length e;have d:(List.range m.length)[a.length]? = some k:=by rw[e];simp
 rw[jR (by simp at b;lia)] at d;simp at b d;have i:k<m.length:=by lia
 refine⟨l[k],m[k],by lia,?_,?_,?_⟩
 .unfold atI;rw[z49 (by lia) (by lia)]
  simp_all
 .unfold atI;rw[z49 (by lia) (by lia)]
  simp_all
 .rw[wo (by grind),jr]
def zeT {W:Int}(hw:∀x∈ws,Wt4 x)(hz:ws.length<=12)(R:0<W)(K:Bt 1900 W)(hc:CrsS W ws co)(q:∀u v t,Pl ((ws.zip co).map (cX W)).sum ((ws.zip co).map (cY W)).sum W u v t->Q (.tup [.int u,.int v,.int t])):z0V.run [.tup (ws.map wtD),.tup (co.map shsD)] Q X:=by
 have hl:=hc.len;have a3:(ws.zip co).length=co.length:=by rw[uS];lia
 have zero:Pl 0 0 W 0 0 1:=⟨by decide,by decide,by simp,by simp⟩
 walk_at "fn";ac_nf;rw[wd];refine z9c (by lia) (by lia) ?_;rw[show (co.length:Int).toNat=co.length by simp];refine z0J (f:=λ(j:Nat)=>D.int j) (λz ρ=>Ee7 λ(u v t) (x3 x4 Y Z)=>Aa2 (Pl (((ws.zip co).take z.length).map (cX W)).sum (((ws.zip co).take z.length).map (cY W)).sum W u v t) (ρ=[.s (.tup (ws.map wtD)),.s (.tup (co.map shsD)),.s (.tup [.int u,.int v,.int t]),x3,x4,Y,Z])) ⟨0,0,1,_,_,_,_,zero,rfl⟩ ?_ ?_
 .rintro z k r ρ e ⟨u,v,t,x3,x4,Y,Z,hp,rfl⟩;obtain⟨x,sh,ek,e1,e2,e3⟩:=zfC hl e;have hm:=ww e3;have p:Wt4 x:=hw x (uP hm).1;obtain⟨I,hs⟩:=hc.ok _ hm;dsimp only at I hs;obtain⟨bA,bB⟩:=z6h (n:=z.length) hw hz R K hc;have nx:(ws.zip co).take (z++[k]).length=(ws.zip co).take z.length++[(x,sh)]:=by rw[wD,uZ,jJ, <- ek,e3];rfl
  rw[nx,wA,j2,wA,j2];generalize (((ws.zip co).take z.length).map (cX W)).sum=A at hp bA ⊢;generalize (((ws.zip co).take z.length).map (cY W)).sum=C at hp bB ⊢;have bits:∀l:List Sh,(∀s∈l,s∈sh)->l.length<=14->∀{u v t a b:Int},Pl (A+sw (wx x.1) W l) (C+sw (wy x.1) W l) W u v t->Pl (sw (λ_=>1) W l) 0 W a 0 b->Aa5 (Bt 1900 t) (Bt 2100 u) (Bt 2100 v) (Bt 1900 b) (Bt 1920 a):=λl hl O {u v t a b} h1 h2=>by
   have U:∀s∈l,Sw W x.1.length s:=λs h=>hs s (hl s h);obtain⟨c1,c2,c3⟩:=h1.bt (n:=1900) (m:=2100) R K (Bt.le (Bt.add bA (z9T O R K U λi=>(cyb p.ne p.wb i).1))) (Bt.le (Bt.add bB (z9T O R K U λi=>(cyb p.ne p.wb i).2)));obtain⟨c4,c5,_⟩:=h2.bt (n:=1900) (m:=1920) R K (Bt.le (z9T (w:=λ_=>1) (m:=1) O R K U λ_=>zfA)) (Bt.le (m:=0) (z0b (by decide)));exact⟨c1,c2,c3,c4,c5⟩
  show Sm.run _ _ _ _ _;ac_rfl;ac_nf;refine z19 (z0P e2) ?_;ac_nf;refine z0J (f:=shD) (λg ρ=>Ee7 λ(u v t a b) (Y Z)=>Aa3 (Pl (A+sw (wx x.1) W g) (C+sw (wy x.1) W g) W u v t) (Pl (sw (λ_=>1) W g) 0 W a 0 b) (ρ=[.s (.tup (ws.map wtD)),.s (.tup (co.map shsD)),.s (.tup [.int u,.int v,.int t]),.s (.int k),.s (.tup [.int a,.int b]),Y,Z])) ⟨u,v,t,0,1,_,_,by simpa[sw] using hp,zero,rfl⟩ ?_ ?_
  .rintro g s r' ρ e' ⟨u,v,t,a,b,Y,Z,hp,J,rfl⟩;have o:=hs s (by rw[e'];simp);have y:=o.bot;obtain⟨a0,a1⟩:=o.bits R K;have a2:g.length<=14:=by have:=congrArg List.length e';simp at this;lia
   obtain⟨N,bu,bv,M,L⟩:=bits g (λs h=>by rw[e'];simp[h]) a2 hp J;refine⟨rfl,?_⟩;show Sm.run _ _ _ _ _;unfold z0l z0l z0l;ac_rfl;ac_nf;refine z19 (z0P e1) ?_;ac_nf;refine z19 (z0P (z8P o.ix)) ?_;ac_nf;refine zb7 hp.pos y bu.le bv.le N.le a0.le a1.le ⟨(cyb p.ne p.wb s.1).1.le,(cyb p.ne p.wb s.1).2.le⟩ λu' v' t' h' =>?_;refine z0O (Safe.of_noL rfl rfl _) ?_;ac_rfl;ac_nf;refine zi8 J.pos y L.le M.le a0.le a1.le λa' b' h2 =>?_;refine z0O (Safe.of_noL rfl rfl _) ?_;ac_rfl;refine⟨u',v',t',a',b',_,_,?_,?_,rfl⟩
   .rw[z6g,z6g, <- Int.add_assoc, <- Int.add_assoc];exact hp.more y (za7 o.dv) h'
   .rw[z6g];exact(J.more (vx:=1) (vy:=0) y (za7 o.dv) (by simpa using h2)).eq0
  rintro ρ ⟨u,v,t,a,b,Y,Z,hp,J,rfl⟩;obtain⟨N,bu,bv,M,L⟩:=bits sh (λs h=>h) I hp J;ac_nf;refine z19 (z0P e1) ?_;ac_nf;refine zb7 hp.pos J.pos bu.le bv.le N.le L.le M.le ⟨p.vb.1.le,p.vb.2.le⟩ λu' v' t' h' =>?_;refine z0O (Safe.of_noL rfl rfl _) ?_;ac_rfl;refine⟨u',v',t',_,_,_,_,?_,rfl⟩;have:=hp.more J.pos J.cx h';simpa[cX,cY,Int.add_assoc] using this
 rintro ρ ⟨u,v,t,x3,x4,Y,Z,hp,rfl⟩;rw[uf,uk (by lia)] at hp;ac_nf;exact q u v t hp
def z0m:Fn:=Fn.mkN 1 1 (.seq (.ifs (.op pEq [.op pMod [.op z05 [.v 0,.c (.int 0)],.c (.int 2)],.c (.int 1)]) (.ret (.op pIx [.op pLst [.c (.int 3),.c (.int 12),.op pPow [.c (.int 10),.c (.int 9)]],.op pMod [.op z1G [.op pIx [.v 0,.c (.int 0)],.c (.int 2)],.c (.int 3)]])) .skip)
 (.ret (.op pIx [.op pLst [.c (.int 3),.c (.int 3),.c (.int 12),.op pPow [.c (.int 10),.c (.int 9)]],.op z00 [.op z05 [.v 0,.c (.int 0)],.c (.int 1),.c (.int 4)]])))
open Mth
def z9Z {ns:List Int}{Q:DK}{X:XP}(hz:ns.length<=63)(q:∀ws:List (List P × P),(∀x∈ws,Wt4 x 136)->ws.length<=12->tl ws<=60->Q (.tup (ws.map wtD))):z0o.run [.lst (ns.map .int)] Q X:=by
 walk_at "fn";ac_nf;refine z99 (λb hb =>?_);ac_nf;refine z0G (λh =>?_) (λ_ =>?_)
 .ac_nf;exact zfZ (hb h) hz q
 clear hb;ac_nf;refine z0I (by decide) (by decide) (by decide) λr r0 r1 =>?_;ac_nf;refine menu (ns:=[3,3,12,10 ^ 9]) r0 r1 λm hm =>?_;have f:0<=m/\m<=10000000000000000000000000000000000000000:=by
  simp only[wm,wz,vK] at hm;lia
 clear hm;ac_nf;refine z0I (by decide) (by decide) (by decide) λr2 a8 a9 =>?_;ac_nf;refine zhQ (λe=>∃d,Ln d/\e=[.s (.lst (ns.map .int)),.s (.int b),.s (.int m),.s d,.n,.n,.n,.n,.n,.n]) ?_ ?_
 .refine z0G (λ_ =>?_) (λ_ =>?_)
  .ac_nf;refine z0I (by decide) (by decide) (by decide) λu u0 u1 =>?_;ac_nf;refine z0I (by decide) (by decide) (by decide) λv v0 v1 =>?_;ac_nf;exact⟨_,.inr ⟨(u - 3,v - 3),rfl,⟨by show -3<=u - 3;lia,by show u - 3<=3;lia⟩,by show -3<=v - 3;lia,by show v - 3<=3;lia⟩,rfl⟩
  .ac_nf;exact⟨_,.inl rfl,rfl⟩
 rintro e ⟨d,hd,rfl⟩;ac_nf;refine z0I (by decide) (by decide) (by decide) λr3 a2 a3 =>?_;ac_nf;refine menu (ns:=[3,3,5,12]) a2 a3 λY O =>?_;have R:0<Y/\Y<=12:=by
  simp only[wm,wz,vK] at O;lia
 clear O;ac_nf;refine z1A (λx j=>by cases j) ?_;ac_rfl;ac_nf;refine z51 (λZ=>Ee5 λws a (x7 x8 x9:B)=>(∀x∈ws,Wt4 x 136)/\ws.length<=12/\1<=a/\a<=100/\tl ws<a/\tl ws<=60/\Z=[.s (.lst (ns.map .int)),.s (.int b),.s (.int m),.s d,.s (.int Y),.o (.lst (ws.map wtD)),.s (.int a),x7,x8,x9]) (λZ=>(100 - nI Z 6).toNat) ⟨[],1,_,_,_,λ_ z=>by(cases z),by simp,by simp,by simp,by simp[tl],by simp[tl],rfl⟩ ?_;rintro Z ⟨ws,a,x7,x8,x9,M,C,a6,ha,a7,W,rfl⟩;ac_nf;rw[wd,min2];refine z0G (λh =>?_) (λh =>?_)
 .ac_nf;rw[wd];refine z0G (λa0 =>?_) (λa0 =>?_)
  .obtain⟨c,_,J⟩:=z4K (xs:=ns) (i:=a) (by lia) (by lia);ac_nf;refine z19 (z0P J) ?_;ac_nf;refine z0I (by decide) (by decide) R.1 λsz b2 b3 =>?_;ac_nf;obtain⟨k2,N,a4⟩:∃k2:Int,k2=(if 61<a+(1+sz) then 61 else a+(1+sz))/\(a:Int)<k2:=⟨_,rfl,by split <;> lia⟩
   rw[<- N,z2W];have e1:HT.sIx ns.length 0 (some (a:Int))=a:=by
    show (if (a:Int)<0 then (a+(ns.length:Int)).toNat else min (a:Int).toNat ns.length)=_;rw[if_neg (by lia)];lia
   have e2:HT.sIx ns.length ns.length (some k2)=min k2.toNat ns.length:=by
    show (if k2<0 then (k2+(ns.length:Int)).toNat else min k2.toNat ns.length)=_;rw[if_neg (by lia)]
   rw[e1,e2];have key:∀L:Nat,L<=k2.toNat - a->L<=12/\L<=1+sz.toNat/\L<=61 - a:=λL hL=>by split at N <;> lia
   have U:(ns.drop a).take (min k2.toNat ns.length - a)≠[]/\(((ns.drop a).take (min k2.toNat ns.length - a)).length<=12/\((ns.drop a).take (min k2.toNat ns.length - a)).length<=1+sz.toNat/\((ns.drop a).take (min k2.toNat ns.length - a)).length<=61 - a):=by
    refine⟨λw =>?_,key _ (by rw[vh,jp];exact wO (j0 ..) (Nat.sub_le_sub_right (j0 ..) _))⟩;have:=congrArg List.length w;rw[vh,jp,vZ] at this;lia
   clear key;generalize (ns.drop a).take (min k2.toNat ns.length - a)=a5 at*;refine⟨by rw[wd];exact szl' (by lia),?_⟩;refine z4g (g:=vec) (P:=λ_ p=>Far 10000000000000000000000000000000000000000 p) (λc _ K hK =>?_) λI a1 hy =>?_
   .ac_nf;exact zeQ f.1 f.2 hd hK
   refine z1A (λx j =>?_) ?_
   .obtain⟨y,_,rfl⟩:=we.mp j;exact Safe.of_noL rfl rfl _
   ac_rfl;ac_nf;refine z19 (z0P J) ?_;ac_nf;refine z0I (by decide) (by decide) (by decide) λr4 b0 b1 =>?_;ac_nf;refine zhQ (λe=>∃s,Far 10000000000000000000000000000000000000000 s/\e=[.s (.lst (ns.map .int)),.s (.int b),.s (.int m),.s d,.s (.int Y),.o (.lst (ws.map wtD)),.s (.int (a:Int)),.s (.int (1+sz)),.o (.lst (I.map vec)),.s (vec s)]) ?_ ?_
   .refine z0G (λ_ =>?_) (λ_ =>?_)
    .ac_nf;refine z19 (z0P J) ?_;ac_nf;refine zeQ f.1 f.2 hd λs hs =>?_;refine z0O (Safe.of_noL rfl rfl _) ?_;exact⟨s,hs,rfl⟩
    .ac_nf;exact⟨(0,0),by unfold Far;decide,rfl⟩
   rintro e ⟨s,hs,rfl⟩;refine z4k (z4l (l:=[]) (z0w rfl ?_));ac_nf;refine⟨by rw[wd];exact szl' (by lia),Safe.of_noL (zbJ (I,s)) (zbK (I,s)) _,?_⟩;ac_rfl;ac_nf;refine⟨⟨ws++[(I,s)],a+(1+sz.toNat),.s (.int (1+sz)),.o (.lst (I.map vec)),.s (vec s),λx j =>?_,by simp;lia,by lia,by lia,by rw[z54];show _+I.length<_;lia,by rw[z54];show _+I.length<=_;lia,?_⟩,?_⟩
   .rcases wB.mp j with j | j
    .exact M x j
    .rw[wg.mp j];refine⟨λp hp =>?_,λz=>U.1 (uM.mp (by rw[<- a1];exact congrArg List.length z)),by show I.length<=12;lia,(hs.vb (n:=134) (by decide)).le⟩;obtain⟨_,_,hf⟩:=hy p hp;exact(hf.vb (n:=134) (by decide)).le
   .rw[wA,show ((a+(1+sz.toNat):Nat):Int)=(a:Int)+(1+sz) by lia]
    rfl
   .show (100 - ((a:Int)+(1+sz))).toNat<(100 - (a:Int)).toNat
    lia
  .ac_nf;exact q ws M C W
 .ac_nf;exact q ws M C W
theorem zip_map {d e:Type}{f:d->D}{g:e->D}:∀{l:List d}{m:List e},((l.map f).zip (m.map g)).map (λp=>D.tup [p.1,p.2])=(l.zip m).map λp=>D.tup [f p.1,g p.2]
 | [],_=>by simp
 | _::_,[]=>by simp
 | a::l,b::m=>by
  have:=zip_map (f:=f) (g:=g) (l:=l) (m:=m)
  simp_all
abbrev one:Nat->Int:=λ_=>1
def zaQ (s:Sh)(l:List Sh):sw w W (s::l)=w s.1*pt W s+sw w W l:=by simp[sw]
def zk3 (a:List (List Sh)):noL (.tup (a.map shsD))=true:=z2L λd b=>by(obtain⟨g,_,rfl⟩:=we.mp b;exact z7A g)
def zk4 (a:List (List Sh)):noD (.tup (a.map shsD))=true:=z2M λd b=>by(obtain⟨g,_,rfl⟩:=we.mp b;exact z7B g)
def zkv (b:List (List Sh)):Da (n+4) (.tup (b.map shsD)):=Da.tup.mpr λd a=>by
 obtain⟨g,_,rfl⟩:=we.mp a;refine Da.tup.mpr λd a =>?_;obtain⟨s,_,rfl⟩:=we.mp a;refine Da.tup.mpr λd a =>?_;simp[wm,wz,vK] at a
 rcases a with rfl | rfl
 .exact Da.int
 .exact Da.vec s.2
def zky {a:Type}{f:a->D}{l:List a}{x:a}:cutD ((l++[x]).map f) none (some (-1))=l.map f:=by
 rw[z2W,z6V];simp
def Tms (a b:Int)(s y:Sh):Prop:=y.1=s.1/\Pl (s.2.1*a) 0 (s.2.2*b) y.2.1 0 y.2.2
def zfL (d:0<W)(g:0<a)(i:a<=b)(h:Sw W n s)(le:s.2.1<=s.2.2)(k:Tms a b s y):Sw (W*b) n y/\pt (W*b) y=a*pt W s:=by
 obtain⟨e,pl⟩:=k;obtain⟨j,u,t⟩:=y;dsimp only at e pl;subst e;have l:0<b:=by lia
 have m:=za7 h.dv;obtain⟨p,_⟩:=h.pt_le d;have w:=h.bot;have q:pt W s<=W:=by
  have f:=wE le (wC d);rw[m,vA _] at f
  simp_all
 have c:Pl (a*pt W s) 0 (W*b) u 0 t:=by
  refine⟨pl.pos,pl.cop,?_,by simp⟩;have r:=pl.cx;apply w9 (show s.2.2≠0 by omega)
  grind
 obtain⟨⟨f,_⟩,o⟩:=zbU (w5 d l) c (w5 g p) (by
  have:=wH q (wC g);have:=wE i (wC d)
  grind) h.ix
 exact⟨f,o⟩
theorem zaL (m:0<W)(g:0<a)(j:a<=b):∀{l ys:List Sh},ys.length=l.length->(∀(i:Nat) h,∃y,ys[i]? = some y/\Tms a b l[i] y)->(∀s∈l,Sw W n s/\s.2.1<=s.2.2)->(∀s∈ys,Sw (W*b) n s)/\∀w,sw w (W*b) ys=a*sw w W l
 | [],[],_,_,_=>⟨(λs d=>by cases d),λw=>by simp[sw]⟩
 | s::l,y::ys,p,h,d=>by
  obtain⟨y',e,k⟩:=h 0 (by simp);obtain rfl:y=y':=by simpa using e
  have k:Tms a b s y:=k;obtain⟨A,q⟩:=zaL m g j (n:=n) (l:=l) (ys:=ys) (by simpa using p) (λi u=>by
   obtain⟨y',e,k⟩:=h (i+1) (by simp;lia);exact⟨y',by simpa using e,by simpa using k⟩) λr f=>d r (by simp[f])
  obtain⟨t,o⟩:=zfL m g j (d s (by simp)).1 (d s (by simp)).2 k;refine⟨λz x =>?_,λw =>?_⟩
  .grind
  .rw[zaQ,zaQ,q,o,k.1]
   grind
def zd5 {i:List (List Sh)}{W c:Int}{Q:DK}{X:XP}(hz:i.length<=12)(x:0<W)(C:Bt 90 W)(U:∀g∈i,g.length<=12/\∃n,∀s∈g,Sw W n s/\s.2.1<=s.2.2)(q0:Q (.tup (([]).map shsD)))
  (q1:∀m g a b g',i[m]? = some g->0<a->a<=b->b<=7->g'.length=g.length->(∀n,(∀s∈g,Sw W n s/\s.2.1<=s.2.2)->(∀s∈g',Sw (W*b) n s)/\∀w,sw w (W*b) g'=a*sw w W g)->Q (.tup ((i.take m++[g']).map shsD))):z0U.run [.tup (i.map shsD),.int c] Q X:=by
 walk_at "fn";ac_nf;rw[wd];refine z0I (by decide) (by decide) (by lia) λr r0 r1 =>?_;ac_nf;rw[z5z r0];refine zjX (l:=(i.take r.toNat).map shsD) (r:=[]) (zkv _) (zkv []) ?_
 rcases List.eq_nil_or_concat (i.take r.toNat) with e | ⟨co0,g,e⟩
 .rw[e];refine z6f rfl ?_;ac_nf;exact q0
 rw[List.concat_eq_append] at e;obtain⟨m,q⟩:∃m,r.toNat=m+1:=by
  cases h:r.toNat with
  | zero=>rw[h] at e;simp at e
  | succ m=>exact⟨m,rfl⟩
 have o:i[m]? = some g/\i.take m=co0:=by
  have Y:=congrArg List.length e;rw[vh,wD,uZ,q] at Y;have y:m<i.length:=by lia
  rw[q,jJ,wo y] at e;obtain⟨N,O⟩:=List.append_inj' e rfl;exact⟨by rw[wo y];exact congrArg some (by simpa using O),N⟩
 rw[e];have hg:=ww o.1;obtain⟨gl,n,M⟩:=U g hg;rw[show deq (.tup ((co0++[g]).map shsD)) (.tup [])=false by cases co0 <;> rfl];refine z3C ?_;ac_nf;refine z0I (by decide) (by decide) (by decide) λb b0 b1 =>?_;ac_nf;refine z0I (by decide) (by decide) (by lia) λa a0 a1 =>?_;ac_nf;have L:atI ((co0++[g]).map shsD) (-1)=some (shsD g):=by
  have e:=zhz (l:=(co0++[g]).map shsD) (k:=0) (by simp);rw[show (((0:Nat):Int) - 1) = -1 by decide] at e;rw[e,wV (by simp)];simp
 refine z19 L ?_;ac_nf;refine⟨by rw[wd];exact szl' (by lia),?_⟩;refine z4f (f:=shD) (g:=shD) (P:=Tms (1+a) (1+b)) (λs hs K R =>?_) λp j hy =>?_
 .obtain⟨z,_⟩:=M s hs;have s0:=z.bot;obtain⟨c1,I⟩:=z.bits x C;have c3:Bt 64 (1+a):=z0b (by omega);have J:Bt 64 (1+b):=z0b (by omega);refine⟨rfl,?_⟩;unfold z0l z0l z0l;ac_rfl;ac_nf;refine zb6 (w5 s0 (by lia)) (Bt.le (Bt.mul I J)) λu w pl =>?_;ac_nf;exact R (s.1,u,w) ⟨rfl,pl⟩
 ac_nf;rw[zky];refine z7z (by rw[wd];have:=congrArg List.length o.2;rw[vh] at this;exact uy (szl' (by simp;lia))) ?_;rw[show co0.map shsD++[.tup (p.map shD)]=(i.take m++[p]).map shsD by rw[o.2];simp];exact q1 m g (1+a) (1+b) p o.1 (by lia) (by lia) (by lia) j λn Z=>zaL x (by lia) (by lia) j hy Z
def z0W:Fn:=Fn.mkN 3 5 (.seq (.ifs (.op pEq [.op pMod [.v 1,.c (.int 2)],.c (.int 1)]) (.ret (.op z0i [.op z1G [.v 1,.c (.int 2)],.v 2])) .skip)
 (.seq (.set 3 (.op z0U [.op z0s [.v 0,.v 1],.v 1]))
 (.seq (.set 4 (.op z0V [.v 0,.v 3]))
 (.seq (.ifs (.op pEq [.op z00 [.v 1,.c (.int 65),.c (.int 3)],.c (.int 0)]) (.set 4 (.op z1v [.sl (.v 0) none (some (.op pLen [.v 3])),.op pAdd [.v 1,.c (.int 5)],.v 2])) .skip)
 (.ret (.v 4))))))
open Mth
def Pl.pd {x y b u v t:Int}(h:Pl x y b u v t)(f:0<b)(d:Bt 100 b)(e:Bt 290 x)(a:Bt 290 y):Pd u v t 290:=by
 obtain⟨g,i,j⟩:=h.bt f d e a;exact⟨h.pc f d.le e.le a.le,i,j,g⟩
def z3V {c m:Int}(C:0<m)(I:m<=10000000000000000000000000000000000000000)(q:∀u v t,Pd u v t 290->Q (.tup [.int u,.int v,.int t])):z0i.run [.int c,.int m] Q X:=by
 have p:Bt 135 (m+1):=z0b (by lia);walk_at "fn";ac_nf;obtain⟨w,b,e,J⟩:∃w,Aa3 (w=80*(m+1)+1) (0<w) (w<100000000000000000000000000000000000000000000):=⟨_,rfl,by lia,by lia⟩
 rw[<- b];clear b;have r:Bt 9000 w:=Bt.le (m:=150) (z0b (by lia));ac_nf;have f:=j1 c (show w≠0 by lia);have g:=jv c e;have i:=j1 (c / w) (show w≠0 by lia);have j:=jv (c / w) e;have o:0<=c / w / w % 60/\c / w / w % 60<60:=by lia
 generalize c % w=x at*;generalize c / w % w=y at*;generalize c / w / w % 60=z at*;refine zb4 (by lia) (Bt.le (m:=10) (z0b (by lia))) λu v t h =>?_;exact q u v t (h.pd (by lia) (Bt.le (m:=10) (z0b (by lia))) (Bt.le (m:=150) (z0b (by lia))) (Bt.le (m:=150) (z0b (by lia))))
def zfY {ws:List (List P × P)}{c m:Int}{Q:DK}{X:XP}(I:∀x∈ws,Wt4 x)(J:ws.length<=12)(U:0<m)(Y:m<=10000000000000000000000000000000000000000)(q:∀u v t,Pd u v t 290->Q (.tup [.int u,.int v,.int t])):z1v.run [.tup (ws.map wtD),.int c,.int m] Q X:=by
 have bm:Bt 135 (1+m):=z0b (by lia);walk_at "fn";ac_nf;refine z0G (λ_ =>?_) (λ_ =>?_)
 .ac_nf;exact z3V U Y q
 ac_nf;refine z7f I J λco W g j N _ _ =>?_;obtain⟨w,C⟩:=z6h (n:=100) I J g j N;rw[uk (by rw[uS];lia)] at w C;refine zeT I J g j.le N λu v t hp =>?_;refine z0O (Safe.of_noL rfl rfl _) ?_;ac_rfl;have K:Pd u v t 290:=hp.pd g j.le w.le C.le;obtain⟨e,L,M⟩:=hp.bt g j w C;ac_nf;refine z0I (by decide) (by decide) (by decide) λr r0 r1 =>?_;ac_nf;refine z0G (λ_ =>?_) (λhr =>?_)
 .ac_nf;exact q u v t K
 ac_nf;refine menu (ns:=[1,1+m,40*(1+m)]) (by lia) (by show r - 3<3;lia) λs O =>?_;have Z:0<s/\s<=10000000000000000000000000000000000000000000:=by
  simp only[wm,wz,vK] at O;lia
 clear O;have bs:Bt 145 s:=z0b (by lia);ac_nf;refine z0I (by decide) (by decide) (by lia) λx x0 x1 =>?_;ac_nf;refine z0I (by decide) (by decide) (by lia) λy y0 y1 =>?_;ac_nf;refine z0I (by decide) (by decide) (by decide) λz z0 z1 =>?_;ac_nf;refine zb6 (by lia) (Bt.le (m:=10) (z0b (by lia))) λa b f =>?_;obtain⟨i,o,_⟩:=f.bt (n:=10) (m:=10) (by lia) (z0b (by lia)) (z0b (by decide)) (z0b (by decide));have vs:Vb 149 (x - s,y - s):=⟨z0b (by show (x - s).natAbs<2 ^ 149;lia),z0b (by show (y - s).natAbs<2 ^ 149;lia)⟩
 refine zb7 (p:=(x - s,y - s)) K.pc.pos f.pos L.le M.le e.le o.le i.le ⟨vs.1.le,vs.2.le⟩ λu' v' t' R =>?_;refine q u' v' t' (R.pd (w5 K.pc.pos f.pos) (Bt.le (Bt.mul e i)) (Bt.le (Bt.add (Bt.mul L i) (Bt.mul (Bt.mul vs.1 o) e))) (Bt.le (Bt.add (Bt.mul M i) (Bt.mul (Bt.mul vs.2 o) e))))
def Whl (W:Int)(b:List (List Sh)):Prop:=b=[]\/∃a g,b=a++[g]/\(∀d∈a,sw one W d=W)/\sw one W g<=W
def zd3 {W c:Int}(hz:ws.length<=12)(E:0<W)(G:Bt 85 W)(r:CrsS W ws co)(hl:co.length=ws.length)(u:∀p∈ws.zip co,(p.2.length<=12/\∀s∈p.2,s.2.1<=s.2.2)/\sw one W p.2=W)
  (q:∀f A,0<A->Bt 95 A->CrsS A ws f->Whl A f->Q (.tup (f.map shsD))):z0U.run [.tup (co.map shsD),.int c] Q X:=by
 have j:∀g∈co,∃w,(w,g)∈ws.zip co:=λg t=>by
  obtain⟨i,M,e⟩:=jQ t;exact⟨ws[i],ww (i:=i) (by rw[wo (by rw[uS];lia),jr,e])⟩
 have all:∀g∈co,sw one W g=W:=λg t=>by
  obtain⟨w,d⟩:=j g t;exact(u _ d).2
 refine zd5 (by lia) E G.le (λg t =>?_) ?_ λm g a b C J a0 N b7 gl Y =>?_
 .obtain⟨w,d⟩:=j g t;exact⟨(u _ d).1.1,_,λs h=>⟨(r.ok _ d).2 s h,(u _ d).1.2 s h⟩⟩
 .exact q [] W E G.le ⟨by simp,by simp⟩ (.inl rfl)
 .have O:0<b:=by lia
  obtain⟨hm,T⟩:=wq.mp J;obtain⟨w,H⟩:∃w,ws[m]? = some w:=⟨_,wo (by lia)⟩
  have F:(co.take m).length=m:=by rw[vh];lia
  have U:=z4Q (y:=C) (l:=ws) (m:=co.take m) (x:=w) (by rw[F];exact H);have sub:∀p∈ws.zip (co.take m),p∈ws.zip co:=λp d=>by
   have k:=z4Q (y:=g) (l:=ws) (m:=co.take m) (x:=w) (by rw[F];exact H);obtain⟨i,M,e⟩:=jQ d;rw[uS,F] at M;refine ww (i:=i) ?_;rw[wo (by rw[uS];lia), <- e,jr,jr,List.getElem_take]
  have o:(w,g)∈ws.zip co:=by
   refine ww (i:=m) ?_;have Z:=(wq.mp H).2;rw[wo (by rw[uS];lia),jr,Z,T]
  obtain⟨R,S⟩:=Y w.1.length λs h=>⟨(r.ok _ o).2 s h,(u _ o).1.2 s h⟩
  refine q (co.take m++[C]) (W*b) (w5 E O) (Bt.le (Bt.mul G (z0b (n:=3) (by omega)))) ⟨by rw[wD,F,uZ];lia,λp d =>?_⟩ (.inr ⟨co.take m,C,rfl,λK I =>?_,?_⟩)
  .rw[U] at d
   rcases wB.mp d with z | z
   .exact⟨(r.ok p (sub p z)).1,λs h=>((r.ok p (sub p z)).2 s h).mul⟩
   .rw[wg.mp z];have:=(u _ o).1.1;exact⟨by show C.length<=14;lia,R⟩
  .have L:=vE I;obtain⟨w2,d⟩:=j K L;rw[z92 λs h=>((r.ok _ d).2 s h).dv,all K L]
  .rw[S,all g (ww J),vA];exact wH N (wC E)
def zie {ws:List (List P × P)}{c m:Int}{Q:DK}{X:XP}(b:∀x∈ws,Wt4 x)(e:ws.length<=12)(I:0<m)(J:m<=10000000000000000000000000000000000000000)(q:∀u v t,Pd u v t 290->Q (pcD u v t)):z0W.run [.tup (ws.map wtD),.int c,.int m] Q X:=by
 walk_at "fn";ac_nf;refine z0G (λ_ =>?_) (λ_ =>?_)
 .ac_nf;exact z3V I J q
 ac_nf;refine z7f b e λL N o g p w y =>?_;ac_nf;refine zd3 e o g p w y λi W j f K _ =>?_;refine z0O (Safe.of_noL (zk3 _) (zk4 _) _) ?_;ac_rfl;ac_nf;refine zeT b e j f.le K λu v t pl =>?_;obtain⟨z,C⟩:=z6h (n:=(ws.zip i).length) b e j f K;rw[List.take_length] at z C;have pd:Pd u v t 290:=pl.pd j f.le z.le C.le;ac_nf;refine z0I (by decide) (by decide) (by decide) λr _ _ =>?_;ac_nf;refine z0G (λ_ =>?_) (λ_ =>?_)
 .ac_nf;rw[wd,z5z (by omega),show (i.length:Int).toNat=i.length by simp];refine zfY (λx M=>b x (vE M)) (by rw[vh];lia) I J λu v t pd =>?_;refine z0O (Safe.of_noL rfl rfl _) ?_;ac_rfl;ac_nf;exact q u v t pd
 .ac_nf;exact q u v t pd
open PySem.Spec PyProof.Rows
def Std (K:W.Frag)(n:Str)(st:Stmt)(f:Addr):Prop:=∃(g:Value) (h:Option Addr) (sl:Array (Option Value)) (kV e i:Value) (b:Option Addr) (a d:Value),
 W.nsIn K mainGlobals n=some (some (.ref f))/\K.lookup f=some ⟨g,h,.func (W.fnOf n n (z1J st) (z0N st) (z07 st) .none kV e i b a d),sl⟩/\W.codeIn K a n=true/\W.keepIn K (.ref f)=true
def Std.mk {K:W.Frag}{n:Str}{st:Stmt}{f:Addr}{g:Value}{h:Option Addr}{sl:Array (Option Value)}{kV e i:Value}{d:Option Addr}{b ct:Value}(a:W.nsIn K mainGlobals n=some (some (.ref f)))(l:K.lookup f=some ⟨g,h,.func (W.fnOf n n (z1J st) (z0N st) (z07 st) .none kV e i d b ct),sl⟩)(c:W.codeIn K b n=true)(k:W.keepIn K (.ref f)=true):Std K n st f:=⟨g,h,sl,kV,e,i,d,b,ct,a,l,c,k⟩
section
variable {P:Program}{w:World}{K:W.Frag}{mg:WmP}{h base:Heap}{CX:CXT}{k:Nat}{n:Str}{st:Stmt}{f fa:Addr}{ps:List Str}{sp:Sp}
def zkI (X:K.In h)(G:h.Ns mainGlobals mg)(d:Std K n st f)
  (o:∀kV g m b e ct us,us.length=ps.length->bindArgs (W.fnOf n n (z1J st) (z0N st) (z07 st) .none kV g m b e ct) ⟨us,[]⟩=pure (ps.zip us))
  (ok:∀i,Fun K n n st f i->FnOk P w K mg base CX k f i ps sp):Cal P w K mg base CX k n ps sp:=by
 obtain⟨p,q,sl,kV,g,m,b,e,ct,a,l,c,j⟩:=d;have F:=zfq l c j;exact⟨_,_,ok _ F,W.mg_of X G a,j,F.binds o⟩
end
end Pu
namespace L2
open PySem PySem.Spec PyProof.Rows
@[reducible] def Cx.repin (X:Cx)(l:List (Addr × Obj)):Cx:={ X with pn:=l }
theorem Inv.repin {X:Cx}{a:List (Addr × Obj)}{b:St}{H:Hp}{s:Shared}(I:Inv X a b H s){l:List (Addr × Obj)}(h:∀p∈l++a,s.heap.get? p.1=some p.2/\H p.1=none/\p.1≠X.env.locals/\p.1 ∉ X.fs/\∀v,p.2.data ≠ .cell v):Inv (X.repin l) a b H s:=
 ⟨⟨I.ok.mod,I.ok.kind,I.ok.glob,I.ok.blt,I.ok.above,I.ok.inj,I.ok.has,I.ok.cab,I.ok.hd,I.ok.frames,I.ok.stk,I.ok.exf,I.ok.bs,I.ok.bsz,I.ok.noex,I.ok.exfs,I.ok.funs,I.ok.frf,I.ok.tbs⟩,I.os,I.bare,I.base,I.loc,I.cell,I.free,I.freeC,h,I.hok,I.len⟩
section
variable {X:Cx}{σ:St}{H:Hp}{s:Shared}{name qual:Str}{params:Arguments}{body:List Stmt}{scope:Scope}{pos:Pos}{fl:Nat}{clos:List (Str × Addr)}{c P:Addr}{ps:Array Value}{l:List (Addr × Obj)}
abbrev tab1 (ps:Array Value)(pos:Pos)(c':Addr):Obj:=W.tabObj (ps ++ #[rawInt pos.line,rawInt pos.col,.ref c'])
def Inv.old {X:Cx}{a:List (Addr × Obj)}(I:Inv X a σ H s){f:Addr}(d:s.heap.objs.size<=f):H f=none/\f≠X.env.locals/\f ∉ X.fs:=by
 refine⟨I.hok.fresh d,λz =>?_,λb =>?_⟩
 .obtain⟨m,⟨o,i,h,e,_⟩,_⟩:=id I.loc;exact absurd (wu e) (by simp_all)
 .obtain⟨_,o,e,_⟩:=I.ok.funs.mem b;obtain⟨j,g⟩:=I.base.there _ o e λz=>I.ok.exfs _ z b;exact absurd (wu g) (j5.mpr d)
def zet {E:WvP}{Q:WvP}(I:Inv (X.repin ((P,W.tabObj ps)::l)) [] σ H s)(m:X.env.code = .ref c)(O:W.codeHdIn X.K c P=true)(q:P∈X.ex)(hl:∀p∈l,p.1≠P)(ht:TriplesOk ps.toList)(S:codeAmong pos ps.toList=none)
  (M:closureFor scope X.env=pure clos)
  (h:∀f i F g d vs t s',Inv (X.repin ((P,tab1 ps pos i)::(f,W.fnMade name qual params body scope clos g ((X.mg "__name__").getD .none) i d)::(i,F)::l)) [] σ H s'->
   F.data = .fields vs->vs[1]? = some (.str qual t)->f≠P->i≠P->Q (.ref f) s'):
  wpAny (model X.prog X.w) X.A (makeFunction name qual params (.stmts body) scope X.env [] [] [] pos fl) Q E s:=by
 obtain⟨hP,hn,hL,hF,_⟩:=I.pin (P,W.tabObj ps) (by simp);have CH:W.CodeHd s.heap c P:=W.codeHd_of_K I.kIn O;have hg:s.heap.Ns mainGlobals X.mg:=I.mod.glob.keeps I.bk;have a:∀b o,X.base.get? b=some o->b≠P:=λb o e z=>I.ok.noex b o e (z ▸ q);have N:mainGlobals≠P:=by
  obtain⟨o,es,ep,e,_⟩:=I.mod.glob;exact a _ _ e
 have hb:s.heap.BuiltinsAt X.mg P:=by
  obtain⟨bm,ob,b1,b2,G,b4,b5,L⟩:=I.mod.bm;obtain⟨o,es,ep,e,J,_⟩:=I.mod.glob;exact⟨bm,ob,b1,b2,(λz=>by rw[z,e] at G;cases G;rw[J] at L;cases L),a _ _ G,I.bk _ _ G,b4,b5,L⟩
 refine W.makeFunction_K M I.ok.glob hg m CH hP ht S N hb λi d g u tk hx r R y U =>?_;obtain⟨c2,F,vs,t,ec,T,J,hv⟩:=y
 cases ec
 have C:s.heap.objs.size<=u.objs.size:=wO r (uy R);have up:∀b o,u.get? b=some o->(u.push (W.fnMade name qual params body scope clos g ((X.mg "__name__").getD .none) i d)).get? b=some o:=λb o e=>wf _ e;have keep:∀b o,b≠P->s.heap.get? b=some o->(u.push (W.fnMade name qual params body scope clos g ((X.mg "__name__").getD .none) i d)).get? b=some o:=λb o n e=>up b o (hx b o n e);have I0:Inv (X.repin l) [] σ H s:=I.repin λp j=>I.pin p (by simp at j ⊢;exact .inr j);have I1:=I0.turned (t':=tk) (it:=P) keep hn hL (.inl q) (λx c e z=>(I.ok.exf P q).2 x c e z) (λp j=>hl p (by simpa using j));have Y:=I.old (f:=i) r;have Z:=I.old (f:=u.objs.size) C;have nP:∀{b},s.heap.objs.size<=b->b≠P:=λe z=>absurd (wu hP) (by rw[<- z];exact j5.mpr e);refine h u.objs.size i F g d vs t _ (I1.repin λp j =>?_) J hv (nP C) (nP r);simp only[vk,wm] at j
 rcases j with rfl | rfl | rfl | j
 .exact⟨up _ _ U,hn,hL,hF,λv z=>by cases z⟩
 .exact⟨wp _ rfl,Z.1,Z.2.1,Z.2.2,λv z=>by cases z⟩
 .exact⟨up _ _ T,Y.1,Y.2.1,Y.2.2,λv z=>by rw[show F.data = .fields vs from J] at z;cases z⟩
 .exact I1.pin p (by simpa using j)
end
end L2
namespace Pu
open PySem PySem.Spec PyProof.Rows L2
def Sm.mkf (i:Nat)(t:Addr->Sm):Sm:=⟨λb N Q X=>∀a,(t a).run (b.set i (.s (.ptr a))) N Q X,λb N d Q e X f g m h q a=>(t a).mono _ N d Q e X f g m h (q a)⟩
def Fn.mkC (e:Nat)(cs:List Int)(b:Sm):Fn:=⟨λa Q _=>a.length=e/\b.run (a.map B.s++cs.map λt=>B.s (.int t)) (λ_=>Q .non) Q (λ_=>False),λa Q d X g m h q=>⟨q.1,b.mono _ _ _ Q d _ _ (λ_ f=>m _ f) m (λ_ z=>z) q.2⟩⟩
def SP0 (X:Cx)(P:Addr)(D:Ends)(f:Flow)(s':Shared):Prop:=SP (X.repin []) [] D f s'/\∃ps,s'.heap.get? P=some (W.tabObj ps)
structure Q0 (X:Cx)(P:Addr)(E:XK)(ss:List Stmt)(t:Sm):Prop where
 p:∀s σ H D,Inv X [] σ H s->ts X.K X.mg E t D σ H->wpAny (model X.prog X.w) X.A (execs ss X.env) (SP0 X P D) X.xe s
section
variable {X:Cx}{P:Addr}{E:XK}{st:Stmt}{rest ss:List Stmt}{t u:Sm}{ps:Array Value}{l:List (Addr × Obj)}
def SP.zero {D:Ends}{f:Flow}{s:Shared}(h:SP (X.repin ((P,W.tabObj ps)::l)) [] D f s):SP0 (X.repin ((P,W.tabObj ps)::l)) P D f s:=by
 have k:∀{a H},Inv (X.repin ((P,W.tabObj ps)::l)) [] a H s->Inv (X.repin []) [] a H s/\∃ps,s.heap.get? P=some (W.tabObj ps):=λI=>⟨I.repin λp b=>absurd b (by simp),_,(I.pin _ (vD _ wv)).1⟩
 cases f with
 | next=>obtain⟨a,H,I,q⟩:=h;exact⟨⟨a,H,(k I).1,q⟩,(k I).2⟩
 | brk=>obtain⟨a,H,I,q⟩:=h;exact⟨⟨a,H,(k I).1,q⟩,(k I).2⟩
 | cont=>obtain⟨a,H,I,q⟩:=h;exact⟨⟨a,H,(k I).1,q⟩,(k I).2⟩
 | ret v=>obtain⟨w,a,H,I,q⟩:=h;exact⟨⟨w,a,H,(k I).1,q⟩,(k I).2⟩
def zkT (h:QZs (X.repin ((P,W.tabObj ps)::l)) E ss t):Q0 (X.repin ((P,W.tabObj ps)::l)) P E ss t:=⟨λs a H D I q=>thn (h.p [] s a H D I q) λ_ _ z=>SP.zero z⟩
def zaC (h:QZ (X.repin ((P,W.tabObj ps)::l)) E st t)(h':Q0 (X.repin ((P,W.tabObj ps)::l)) P E rest u):Q0 (X.repin ((P,W.tabObj ps)::l)) P E (st::rest) (.seq t u):=
 ⟨by
  rintro s L H D I ⟨n,m,G,J,o,e,i,z,C,A,r,w⟩;refine wpAny_execs_cons (thn (h.p [] s L H { D with nx:=λa d=>ts X.K X.mg E u D a d } I ⟨n,m,G,J,λb=>u.run b o e i,e,i,z,C,λb a d x q j g=>⟨n,m,x,b,o,e,i,j,q,A.same g,r,w⟩,r,w⟩) λf F q =>?_)
  cases f with
  | next=>obtain⟨a,d,y,q⟩:=q;exact h'.p F a d D y q
  | ret v=>exact SP.zero q
  | brk=>exact SP.zero q
  | cont=>exact SP.zero q⟩
def zeI {name:Str}{b:Arguments}{n:List Stmt}{m:Scope}{y:Pos}{i:Nat}{c:Addr}{u:Addr->Sm}{o:List (Str × Addr)}(hN:X.N.Nodup)(hi:X.N[i]? = some name)(a0:Loc X.env.scope name)(J:X.env.scope.names.lookup name=some .local)(x:X.env.code = .ref c)(Y:W.codeHdIn X.K c P=true)
  (U:P∈X.ex) (hl:∀p∈l,p.1≠P) (ht:TriplesOk ps.toList) (a1:codeAmong y ps.toList=none) (S:∀s σ H,Inv (X.repin ((P,W.tabObj ps)::l)) [] σ H s->closureFor m X.env=pure o) (T:b.defaults=[]) (Z:b.kw_defaults=[]) (ha:annTrees b none X.env=[])
  (h:∀f F O r q vs t,O.data = .fields vs->vs[1]? = some (.str (qualnameIn X.env name name) t)->f≠P->F≠P->
   Q0 (X.repin ((P,tab1 ps y F)::(f,W.fnMade name (qualnameIn X.env name name) b n m o r ((X.mg "__name__").getD .none) F q)::(F,O)::l)) P E rest (u f)):
  Q0 (X.repin ((P,W.tabObj ps)::l)) P E (.FunctionDef name b n [] none [] m none name y::rest) (.mkf i u):=
 ⟨by
  rintro s σ H D I ⟨H0,G0,G,ρ,N0,R0,X0,L,hr,hn,hR,hx⟩;refine wpAny_execs_cons (W.nestDef_K T Z ha (zet I x Y U hl ht a1 (S s σ H I) λf F O r q vs t s' I' hd hv hf hc =>?_));have k:=z6j (M:=model X.prog X.w) (A:=X.A) (E:=X.xe) (Q:=λ_ C=>wpAny (model X.prog X.w) X.A (execs rest X.env) (SP0 X P D) X.xe C) I' hN hi a0 (v :=.ref f) rfl (λC R =>?_) (.inr J)
  .exact k
  .refine(h f F O r q vs t hd hv hf hc).p C _ H D R ⟨H0,G0,G,ρ.set i _,N0,R0,X0,L.put L.nw Same.refl' L.g Same.refl' (λj d a _ e z=>L.free a ⟨j,d,e,z⟩) (by rw[RD]),hr f,hn,hR,hx⟩⟩
end
end Pu
namespace Pu
open PySem L2
def z0a:Fn:=Fn.mkN 2 3 (.seq (.set 2 (.op z4c [.v 0,.v 1]))
 (.seq (.ifs (.or (.not (.op (pIsi "tuple") [.v 2])) (.op pLt [.op pLen [.v 2],.c (.int 2)])) (.ret (.c .non)) .skip)
 (.ret (.op pIx [.op pLst [.sl (.v 2) none (some (.c (.int 1))),.sl (.v 2) none (some (.c (.int 2)))],.op pInt [.op pEq [.op pIx [.v 2,.c (.int 0)],.c (.str "at")]]]))))
def Ex.callp (a:Addr)(F:Fn)(i:Nat)(es:List Ex):Ex:=⟨λb Q X=>b.get i=some (.ptr a)/\runs es b (λd=>F.run d Q X) X,λb Q h X f m g ⟨e,q⟩=>⟨e,z2C es b _ _ X f (λd j=>F.mono d Q h X f m g j) g q⟩⟩
def z0h (a:Addr)(F:Fn):Fn:=Fn.mkN 2 5 (.seq (.own 2 (.op pLst []))
 (.seq (.for_ [] (.tp [3,4]) (.v 0) (.app 2 (.op pTup [(.op z0Q [(.comp 1 [1] (.nm 0) (.v 3) none (.callp a F 1 [(.v 0)]))]),(.callp a F 1 [(.v 4)])])))
 (.ret (.op z0Q [(.v 2)]))))
def fGr (t:Int):Fn:=Fn.mkC 1 [t] (.ret (.op pTup [(.op z0d [(.op pIx [(.v 0),(.c (.int 0))]),(.v 1)]),(.op z0d [(.op pIx [(.v 0),(.c (.int 1))]),(.v 1)])]))
def fMi:Fn:=Fn.mkC 1 [] (.ret (.op pTup [.op pIx [.v 0,.c (.int 1)],.op pIx [.v 0,.c (.int 0)]]))
def Ex.turn (a:Addr)(F:Int->Fn)(j i it:Nat):Ex:=⟨λb Q X=>∃w t,b.get j=some w/\b.get i=some (.ptr a)/\b.get it=some (.int t)/\(z0h a (F t)).run [w,.ptr a] Q X,λ_ Q d X f m l ⟨w,t,e,g,h,q⟩=>⟨w,t,e,g,h,(z0h a (F t)).mono _ Q d X f m l q⟩⟩
def z8K:Fn:=Fn.mkN 1 11 (.seq (.set 1 (.sl (.op z0o [.v 0]) none (some (.c (.int 5)))))
 (.seq (.set 2 (.op pIx [.op pLst [.op pAdd [.c (.int 2),.op z00 [.op z05 [.v 0,.c (.int 0)],.c (.int 96),.c (.int 8)]],.c (.int 1)],.op pInt [.op pGt [.op z0m [.v 0],.c (.int 12)]]]))
 (.mkf 9 λa =>.mkf 10 λb=>(.seq (.set 3 (.op z0Q [.comp 1 [] (.nm 0) (.v 1) none (.op pTup [.op pAdd [.sl (.op pIx [.v 0,.c (.int 0)]) none (some (.c (.int 10))),.sl (.op pIx [.v 0,.c (.int 0)]) none (some (.c (.int 2)))],.op pIx [.v 0,.c (.int 1)]])]))
 (.seq (.for_ [] (.nm 4) (.sl (.op pAdd [.op pLst [.c (.int 0)],.v 0]) (some (.op pNeg [.c (.int 3)])) none) (.seq (.set 5 (.op z0W [.v 1,.v 4,.op z0m [.v 0]]))
 (.seq (.set 6 (.op z0a [.v 1,.v 5]))
 (.seq (.set 7 (.op z01 [.op pLst [.op z0d [.op pIx [.v 5,.c (.int 0)],.v 2],.op z0d [.op pIx [.v 5,.c (.int 1)],.v 2],.op pIx [.v 5,.c (.int 2)]]]))
 (.seq (.ifs (.or (.op pIs [.v 6,.c .non]) (.op pNe [.op z0a [.turn a fGr 1 9 2,.v 7],.v 6])) (.ret (.c (.bl false))) .skip)
 (.seq (.ifs (.op pNe [.op z0a [.turn b (λ_=>fMi) 1 10 2,.op pTup [.op pIx [.v 5,.c (.int 1)],.op pIx [.v 5,.c (.int 0)],.op pIx [.v 5,.c (.int 2)]]],.v 6]) (.ret (.c (.bl false))) .skip)
 (.seq (.set 8 (.op z0Q [.comp 1 [] (.nm 0) (.v 1) (some (.op pLe [.op pLen [.op pIx [.v 0,.c (.int 0)]],.c (.int 10)])) (.v 0)]))
 (.ifs (.and (.op pEq [.op pLen [.v 8],.op pLen [.v 1]]) (.op pNe [.op z0a [.v 3,.v 5],.v 6])) (.ret (.c (.bl false))) .skip))))))))
 (.ret (.c (.bl true))))))))
open Mth
def Rk (ws:List (List P × P))(x y t:Int)(k:Nat)(p r:Int):Prop:=∃w,ws[k]? = some w/\Rw (MS (ws.take k)) (· ∈ tr w) x y t p r
def Non (R:Nat->Int->Int->Prop)(k:Nat):Prop:=∀p r,0<=p->p<=r->0<r->¬ R k p r
abbrev atW (u v:Int):D :=.tup [.str (Str.ofString "at"),.tup [.int u,.int v]]
abbrev nvW:D :=.tup [.str (Str.ofString "never")]
inductive Out (R:Nat->Int->Int->Prop) (z:Prop):D->Prop
 | zero (h:z):Out R z (atW 0 1)
 | att (k:Nat) (p r u v:Int) (n:¬ z) (p0:0<p) (pr:p<=r) (c:Int.gcd p r=1) (i:R k p r) (s:∀j,j<k->Non R j) (b:∀p' r',0<=p'->p'<=r'->0<r'->R k p' r'->p*r'<=p'*r) (pl:Pl ((k:Int)*r+p*1) 0 (1*r) u 0 v):Out R z (atW u v)
 | never (n:¬ z) (s:∀j,Non R j):Out R z nvW
def Out.imp {R R':Nat->Int->Int->Prop}{z q:Prop}{d:D}(h:Out R z d)(e:∀k p r,0<=p->0<r->(R k p r↔R' k p r))(f:z↔q):Out R' q d:=by
 have no:∀{j},Non R j->Non R' j:=λn p r a b c i=>n p r a b c ((e _ p r a c).mpr i)
 cases h with
 | zero h=>exact .zero (f.mp h)
 | att k p r u v n x y c i s b pl=>exact .att k p r u v (λz=>n (f.mpr z)) x y c ((e k p r (by omega) (by omega)).mp i) (λj l=>no (s j l)) (λm o a t g w=>b m o a t g ((e k m o a g).mpr w)) pl
 | never n s=>exact .never (λz=>n (f.mpr z)) λj=>no (s j)
theorem Out.eq {R:Nat->Int->Int->Prop}{z:Prop}{d d':D}(h:Out R z d)(h':Out R z d'):d=d':=by
 cases h with
 | zero h=>
  cases h' with
  | zero _=>rfl
  | att=>contradiction
  | never=>contradiction
 | att k p r u v n A e c i s b pl=>
  cases h' with
  | zero _=>contradiction
  | never t o=>exact absurd i (o k p r (by omega) e (by omega))
  | att k' g m G H t C f x q o w j=>
   have y:k=k':=by
    rcases ur k k' with l | l | l
    .exact absurd i (o k l p r (by omega) e (by omega))
    .exact l
    .exact absurd q (s k' l g m (by omega) f (by omega))
   subst y;have E:=b g m (by omega) f (by omega) q;have F:=w p r (by omega) e (by omega) i;obtain⟨rfl,rfl⟩:=zkB (a:=p) (b:=r) (c:=g) (d:=m) (by omega) (by omega) c x (by omega);obtain⟨rfl,_,rfl⟩:=pl.eq (by omega) j
   rfl
 | never n s=>
  cases h' with
  | zero _=>contradiction
  | att k p r u v t A e c i=>exact absurd i (s k p r (by omega) e (by omega))
  | never=>rfl
def z6n {ws:List (List P × P)}{x y t:Int}{Q:DK}{X:XP}(Z:∀x∈ws,Wt4 x)(hz:ws.length<=12)(Y:tl ws<=60)(pd:Pd x y t)(q:∀d,Out (Rk ws x y t) (x=0/\y=0) d->Q d):z0a.run [.tup (ws.map wtD),pcD x y t] Q X:=by
 have one:∀{j},Shut ws x y t j->Non (Rk ws x y t) j:=λs p r a b c ⟨w,e,i⟩=>s w e p r a b c i;have R:(x,y)≠((0),(0))->¬ (x=0/\y=0):=λn z=>n (by rw[z.1,z.2]);walk_at "fn";refine zbb (λI=>Ee4 λu v m f=>noLs m=true/\noDs m=true/\noLs f=true/\noDs f=true/\((Q (atW u v)/\I=[.s (.tup (ws.map wtD)),.s (pcD x y t),.s (atD u v m f)])\/Q nvW/\I=[.s (.tup (ws.map wtD)),.s (pcD x y t),.s (nvD f)])) ?_ ?_
 .ac_nf;refine zb3 Z hz Y pd (λU W e3 =>?_) (λk w p r u v m f O ne p0 pr J _ L g C pl n1 o M N =>?_) λne g f n1 o =>?_
  .exact⟨Safe.of_noL rfl rfl _,0,1,[],[],rfl,rfl,rfl,rfl,.inl ⟨q _ (.zero ⟨U,W⟩),rfl⟩⟩
  .refine⟨Safe.of_noL ?_ ?_ _,u,v,m,f,n1,o,M,N,.inl ⟨q _ (.att k p r u v (R ne) p0 pr J ⟨w,O,L⟩ (λj l=>one (g j l)) (λp' r' a b c ⟨w',K,i⟩ =>?_) pl),rfl⟩⟩
   .show (true && ((true && (true && true)) && (noLs m && (noLs f && true))))=true;rw[n1,M];rfl
   .show (true && ((true && (true && true)) && (noDs m && (noDs f && true))))=true;rw[o,N];rfl
   .obtain rfl:w=w':=wY (O.symm.trans K);exact C p' r' a b c i
  .refine⟨Safe.of_noL ?_ ?_ _,0,1,[],f,rfl,rfl,n1,o,.inr ⟨q _ (.never (R ne) λj=>one (g j)),rfl⟩⟩
   .show (true && (noLs f && true))=true;rw[n1];rfl
   .show (true && (noDs f && true))=true;rw[o];rfl
 rintro ρ ⟨u,v,m,f,n1,o,M,N,⟨h,rfl⟩ | ⟨h,rfl⟩⟩
 .ac_nf;refine z9R (z6f rfl ?_);ac_nf;refine t_no (by simp) ?_;ac_nf;refine zjY ?_;rw[vz rfl];ac_nf;exact h
 .ac_nf;refine z9R (z6f rfl ?_);ac_nf;refine t_no (by simp) ?_;ac_nf;refine zjY ?_;rw[wX (by decide)];ac_nf;exact h
def zck {a:Addr}{F:Fn}{i:Nat}{es:List Ex}{b:Pu.Env}{Q:DK}{X:XP}(h:b.get i=some (.ptr a))(q:runs es b (λd=>F.run d Q X) X):(Ex.callp a F i es).run b Q X:=⟨h,q⟩
def tw (φ:P->P)(x:List P × P):List P × P:=(x.1.map φ,φ x.2)
def z96 {ws:List (List P × P)}{a:Addr}{F:Fn}{φ:P->P}{Q:DK}{X:XP}(I:∀x∈ws,Wt4 x)(J:ws.length<=12)(y:∀p Q,Vb 140 p->Q (vec (φ p))->F.run [vec p] Q (λ_=>False))(q:Q (.tup ((ws.map (tw φ)).map wtD))):(z0h a F).run [.tup (ws.map wtD),.ptr a] Q X:=by
 walk_at "fn";ac_nf;refine z1A (λx b=>by cases b) ?_;ac_rfl;ac_nf;refine z0J (f:=wtD) (λi u=>Ee2 λ(j m)=>u=[.s (.tup (ws.map wtD)),.s (.ptr a),.o (.lst ((i.map (tw φ)).map wtD)),j,m]) ⟨_,_,rfl⟩ ?_ ?_
 .rintro i w r u e ⟨j,m,rfl⟩;have b:=I w (by rw[e];simp);have le:=congrArg List.length e;rw[wD,wU] at le;refine⟨rfl,?_⟩;show Sm.run _ _ _ _ _;unfold z0l z0l z0l;ac_rfl;refine z4l (l:=(i.map (tw φ)).map wtD) (z0w rfl ?_);ac_nf;refine⟨by rw[wd];exact szl' (by have:=b.len;lia),?_⟩;refine z13 (g:=λp=>vec (φ p)) (λp hp K C =>?_) ?_
  .ac_nf;refine zck rfl ?_;ac_nf;exact y p _ (b.wb p hp) C
  ac_nf;refine zck rfl ?_;ac_nf;refine y w.2 _ b.vb ?_;ac_nf;have z:D.tup [D.tup (w.1.map λp=>vec (φ p)),vec (φ w.2)]=wtD (tw φ w):=by simp only[tw,wtD,vecs,wP];rfl
  rw[z];refine⟨by rw[wd,wd];exact szl' (by lia),Safe.of_noL (zbJ _) (zbK _) _,?_⟩;ac_rfl;exact⟨.s (vecs w.1),.s (vec w.2),by rw[wA,wA];rfl⟩
 rintro u ⟨j,m,rfl⟩;ac_nf;exact q
def zb8 {ws:List (List P × P)}{t:Int}{Q:DK}{X:XP}(j:∀x∈ws,Wt4 x)(l:ws.length<=12)(o:Bt 8 t){b:Pu.Env}{a:Addr}{e d it:Nat}(f:b.get e=some (.tup (ws.map wtD)))(g:b.get d=some (.ptr a))(h:b.get it=some (.int t))(q:Q (.tup ((ws.map (tw (Geo.sca t))).map wtD))):(Ex.turn a fGr e d it).run b Q X:=by
 refine⟨_,_,f,g,h,z96 j l (λp Q i q =>?_) q⟩;obtain⟨m,n⟩:=i;refine⟨rfl,?_⟩;ac_nf;exact q
def swp (p:P):P:=(p.2,p.1)
def za0 {ws:List (List P × P)}{Q:DK}{X:XP}(i:∀x∈ws,Wt4 x)(j:ws.length<=12){t:Int}{b:Pu.Env}{a:Addr}{e d it:Nat}(f:b.get e=some (.tup (ws.map wtD)))(g:b.get d=some (.ptr a))(h:b.get it=some (.int t))(q:Q (.tup ((ws.map (tw swp)).map wtD))):(Ex.turn a (λ_=>fMi) e d it).run b Q X:=by
 refine⟨_,t,f,g,h,z96 i j (λp Q l q =>?_) q⟩;refine⟨rfl,?_⟩;ac_nf;exact q
structure Lin (φ ψ:P->P):Prop where
 add:∀a b,φ (Geo.pl a b)=Geo.pl (φ a) (φ b)
 zero:φ (0,0)=(0,0)
 adj:∀p b,Geo.sc (φ p) b=Geo.sc p (ψ b)
 inv:∀b,∃b' c,0<c/\ψ b'=Geo.sca c b
theorem zfh {φ r:P->P}{f:List P × P->List P × P}(L:Lin φ r):∀{ws:List (List P × P)},(∀x∈ws,∀q,q∈tr (f x)↔∃p∈tr x,q=φ p)->∀q,MS (ws.map f) q↔∃p,MS ws p/\q=φ p
 | [],_,q=>⟨λh=>⟨(0,0),rfl,by rw[L.zero];exact h⟩,λ⟨p,h,e⟩=>by rw[e,h,L.zero];rfl⟩
 | x::ws,h,q=>by
  have l:=zfh L (ws:=ws) λy o=>h y (by simp[o])
  constructor
  .rintro⟨a,d,b,g,rfl⟩;obtain⟨i,m,rfl⟩:=(h x (by simp) a).mp d;obtain⟨j,n,rfl⟩:=(l b).mp g;exact⟨_,⟨i,m,j,n,rfl⟩,(L.add i j).symm⟩
  .rintro⟨_,⟨a,d,b,g,rfl⟩,rfl⟩;exact⟨φ a,(h x (by simp) _).mpr ⟨a,d,rfl⟩,φ b,(l _).mpr ⟨b,g,rfl⟩,L.add a b⟩
def zci {φ i:P->P}{S S':P->Prop}{b:P}{F:Int}(L:Lin φ i)(h:∀q,S' q↔∃p,S p/\q=φ p):Geo.Far S' b F↔Geo.Far S (i b) F:=by
 constructor
 .rintro⟨d,q,g,e⟩;obtain⟨p,a,rfl⟩:=(h q).mp g;exact⟨λp a=>by rw[<- L.adj];exact d _ ((h _).mpr ⟨p,a,rfl⟩),p,a,by rw[<- L.adj];exact e⟩
 .rintro⟨d,p,a,e⟩;refine⟨λq g =>?_,φ p,(h _).mpr ⟨p,a,rfl⟩,by rw[L.adj];exact e⟩;obtain⟨j,f,rfl⟩:=(h q).mp g;rw[L.adj];exact d j f
def zb1 (p b:P)(c:Int):Geo.sc p (Geo.sca c b)=c*Geo.sc p b:=by simp[Geo.sc,Geo.sca];grind
def zch {S:P->Prop}{b:P}{F c:Int}(d:0<c)(h:Geo.Far S b F):Geo.Far S (Geo.sca c b) (c*F):=by
 obtain⟨f,p,a,e⟩:=h;exact⟨λp a=>by rw[zb1];simp_all,p,a,by rw[zb1,e]⟩
def zbf {φ l:P->P}{f:List P × P->List P × P}{ws:List (List P × P)}{x y t d g t' p r:Int}{k:Nat}(L:Lin φ l)(I:∀x∈ws,∀q,q∈tr (f x)↔∃p∈tr x,q=φ p)(J:0<t)(K:0<t')(e:∀b,Geo.sc (d,g) b*t=Geo.sc (x,y) (l b)*t'):
  Rk ws x y t k p r↔Rk (ws.map f) d g t' k p r:=by
 have key:∀w∈ws,Rw (MS (ws.take k)) (· ∈ tr w) x y t p r↔Rw (MS ((ws.map f).take k)) (· ∈ tr (f w)) d g t' p r:=λw M=>by
  have O:∀q,MS ((ws.map f).take k) q↔∃p,MS (ws.take k) p/\q=φ p:=λq=>by
   rw[<- List.map_take];exact zfh L (λx N=>I x (vE N)) q
  have E:=λb F=>zci (b:=b) (F:=F) L O;have H:=λb F=>zci (S:=(· ∈ tr w)) (S':=(· ∈ tr (f w))) (b:=b) (F:=F) L (I w M)
  constructor
  .intro h b F G s u;have A:=h _ F G ((E b F).mp s) ((H b G).mp u);have m:=e b;have C:=wH A (wC K);refine v7 (a:=t) ?_ J
   calc t*(r*dot (d,g) b)=r*(Geo.sc (d,g) b*t):=by rw[show dot (d,g) b=Geo.sc (d,g) b from rfl];grind
    _=t'*(r*dot (x,y) (l b)):=by rw[m,show dot (x,y) (l b)=Geo.sc (x,y) (l b) from rfl];grind
    _<=t'*(t*(r*F+p*G)):=C
    _=t*(t'*(r*F+p*G)):=by grind
  .intro h b F G s u;obtain⟨j,c,n,o⟩:=L.inv b;have A:=h j (c*F) (c*G) ((E j _).mpr (by rw[o];exact zch n s)) ((H j _).mpr (by rw[o];exact zch n u));have m:=e j;rw[o,zb1] at m;have C:=wH A (wC J);refine v7 (a:=t'*c) ?_ (w5 K n)
   calc t'*c*(r*dot (x,y) b)=r*(c*Geo.sc (x,y) b*t'):=by rw[show dot (x,y) b=Geo.sc (x,y) b from rfl];grind
    _=t*(r*dot (d,g) j):=by rw[<- m,show dot (d,g) j=Geo.sc (d,g) j from rfl];grind
    _<=t*(t'*(r*(c*F)+p*(c*G))):=C
    _=t'*c*(t*(r*F+p*G)):=by grind
 constructor
 .rintro⟨w,i,h⟩;exact⟨f w,by rw[wK,i];rfl,(key w (ww i)).mp h⟩
 .rintro⟨Q,i,h⟩;rw[wK] at i
  cases z:ws[k]? with
  | none=>rw[z] at i;cases i
  | some w=>
   rw[z] at i;obtain rfl:=wY i;exact⟨w,z,(key w (ww z)).mpr h⟩
def zh4 {c:Int}(d:0<c):Lin (Geo.sca c) (Geo.sca c):=⟨λa b=>by simp only[Geo.sca,Geo.pl];grind,by simp[Geo.sca],λp b=>by simp[Geo.sc,Geo.sca];grind,λb=>⟨b,c,d,rfl⟩⟩
def zbX:Lin swp swp:=⟨λ_ _=>rfl,rfl,λp b=>by simp[Geo.sc,swp];omega,λb=>⟨swp b,1,by decide,by simp[swp,Geo.sca]⟩⟩
def zkc:Lin id id:=⟨λ_ _=>rfl,rfl,λ_ _=>rfl,λb=>⟨b,1,by decide,by simp[Geo.sca]⟩⟩
def zhM {φ d:P->P}(L:Lin φ d)(x:List P × P)(q:P):q∈tr (tw φ x)↔∃p∈tr x,q=φ p:=by
 simp only[tr,tw,we]
 constructor
 .rintro⟨_,⟨a,b,rfl⟩,rfl⟩;exact⟨_,⟨a,b,rfl⟩,(L.add a x.2).symm⟩
 .rintro⟨_,⟨a,b,rfl⟩,rfl⟩;exact⟨_,⟨a,b,rfl⟩,(L.add a x.2).symm⟩
def dbl (x:List P × P):List P × P:=(x.1.take 10++x.1.take 2,x.2)
def zhN {x:List P × P}(h:x.1.length<=10)(q:P):q∈tr (dbl x)↔∃p∈tr x,q=id p:=by
 have e:∀a,a∈x.1.take 10++x.1.take 2↔a∈x.1:=λa=>by
  rw[wB,uk h];exact⟨λz=>z.elim id vE,.inl⟩
 simp only[tr,dbl,we,e,id]
 simp_all
def z97 {ns:List Int}{Q:DK}{X:XP}(q:∀m,0<m->m<=10000000000000000000000000000000000000000->Q (.int m)):z0m.run [.lst (ns.map .int)] Q X:=by
 walk_at "fn";ac_nf;refine z99 λc f =>?_;ac_nf;refine z0G (λh =>?_) (λh =>?_)
 .have hp:=w6.mpr (f h);obtain⟨v,_,e⟩:=z4K (xs:=ns) (i:=0) (by decide) (by lia);ac_nf;refine z19 (z0P e) ?_;ac_nf;refine menu (ns:=[3,12,10 ^ 9]) (by lia) (by show v / 2 % 3<3;lia) λm b =>?_;simp only[wm,wz,vK] at b;exact q m (by lia) (by lia)
 .ac_nf;refine z99 λc f =>?_;ac_nf;refine z0I (by decide) (by decide) (by decide) λr g r1 =>?_;ac_nf;refine menu (ns:=[3,3,12,10 ^ 9]) g (by show r<4;exact r1) λm b =>?_;simp only[wm,wz,vK] at b;exact q m (by lia) (by lia)
theorem zfM {φ:P->P}:∀ws:List (List P × P),tl (ws.map (tw φ))=tl ws
 | []=>rfl
 | x::ws=>by
  have:=zfM (φ:=φ) ws;simp[tl,wI,vC,tw,wd] at*;omega
theorem zeM:∀{n:Nat}{ws:List (List P × P)},ws.length<=n->tl (ws.map dbl)<=12*n
 | _,[],_=>by simp[tl]
 | 0,x::ws,h=>by simp at h
 | n+1,x::ws,h=>by
  have:=zeM (by simpa using h);simp only[tl,wI,vC,dbl,wD,vh] at*;omega
def Out.safe {R:Nat->Int->Int->Prop}{z:Prop}{d:D}(h:Out R z d)(ρ:Pu.Env):Safe d ρ:=by
 cases h <;> exact Safe.of_noL rfl rfl _
def Out.ne {R:Nat->Int->Int->Prop}{z:Prop}{d:D}{A B:Prop}(h:Out R z d)(q:B):tst (.bl (isN d)) A B:=by
 cases h <;> exact z3C q
def zgE {u v t d g h t':Int}(m:0<t)(l:0 < d)(pl:Pl (u*d) (v*d) t g h t'):(u=0/\v=0)↔(g=0/\h=0):=by
 have i:=pl.cx;have j:=pl.cy;have n:=pl.pos;have f:∀{a b:Int},b*t=a*d*t'->(a=0↔b=0):=λ{a b} e=>by
  constructor
  .rintro rfl;rw[uE,uE] at e;exact(wM.mp e).resolve_right (by omega)
  .rintro rfl;rw[uE] at e;exact((wM.mp ((wM.mp e.symm).resolve_right (by omega))).resolve_right (by omega))
 rw[f i,f j]
def zen:∀u v,PyData.eqv (py (atW u v)) (py (atW u v))=true:=λu v=>by
 show PyData.eqv (.tuple [.str _,.tuple [.int u,.int v]]) (.tuple [.str _,.tuple [.int u,.int v]])=true;simp[PyData.eqv,PyData.eqvAll]
def Out.same {R:Nat->Int->Int->Prop}{z:Prop}{d:D}{Q:DK}{X:XP}(h:Out R z d)(q:Q (.bl false)):pNe.run [d,d] Q X:=by
 have a:∀u v,Da 60 (atW u v):=λu v=>Da.tup.mpr λd b=>by
  simp[wm,wz,vK] at b
  rcases b with rfl | rfl
  .exact Da.str.mpr (by decide +kernel)
  .exact Da.vec (u,v)
 have e:Da 60 nvW:=Da.tup.mpr λd b=>by
  rw[wg.mp b];exact Da.str.mpr (by decide +kernel)
 have E:∀u v,deq _ _=true:=zen
 cases h with
 | zero h=>exact zgT (a _ _) (a _ _) (by exact q)
 | att k p r u v=>exact zgT (a _ _) (a _ _) (by rw[E];exact q)
 | never=>exact zgT e e (by exact q)
def zh6 (ns:List Int)(h:ns.length<=63):z8K.run [.lst (ns.map .int)] (λd=>d = .bl true) (λ_=>False):=by
 walk_at "fn";refine zbb (λM=>Ee1 λws=>Aa4 (∀x∈ws,Wt4 x 136) (ws.length<=5) (tl ws<=60) (M=[.s (.lst (ns.map .int)),.s (.tup (ws.map wtD)),.n,.n,.n,.n,.n,.n,.n,.n,.n])) ?_ ?_
 .ac_nf;refine z9Z h λa1 a0 a2 Z =>?_;ac_nf;rw[z5z (by decide)];exact⟨_,λx i=>a0 x (vE i),by rw[vh];exact j0 _ _,wO (zaM a1 _) Z,rfl⟩
 rintro R ⟨ws,O,Q,Y,rfl⟩;have J:∀x∈ws,Wt4 x:=λx i=>(O x i).up;have L:ws.length<=12:=wO Q (by decide);refine zbb (λM=>∃τ,Aa3 (0 < τ) (τ<=9) (M=[.s (.lst (ns.map .int)),.s (.tup (ws.map wtD)),.s (.int τ),.n,.n,.n,.n,.n,.n,.n,.n])) ?_ ?_
 .ac_nf;refine z99 λc hc =>?_;ac_nf;refine z0I (by decide) (by decide) (by decide) λr r0 r1 =>?_;ac_nf;refine z97 λm m0 m1 =>?_;ac_nf
  by_cases c:12<m
  .rw[vz c];ac_nf;exact⟨Safe.of_noL rfl rfl _,1,by decide,by decide,rfl⟩
  .rw[wX c];ac_nf;exact⟨Safe.of_noL rfl rfl _,2+r,by omega,by omega,rfl⟩
 rintro R ⟨τ,U,a3,rfl⟩;refine λfa fb =>?_;ac_nf;refine⟨by rw[wd];exact szl' (by lia),?_⟩;refine z13 (g:=λx=>wtD (dbl x)) (λx i K hK =>?_) ?_
 .ac_nf;rw[z5z (by decide),z5z (by decide)];refine z7z (by simp only[wd,vh];exact szl (by have:=(J x i).len;lia)) ?_;ac_nf;rw[<- wA];exact hK
 ac_nf;refine zbI (by simp;exact szl (by lia)) ?_;rw[show D.int 0::([])++ns.map D.int=(0::ns).map .int by simp];ac_nf;rw[z2W];generalize ((0::ns).drop (HT.sIx (0::ns).length 0 (some (-3)))).take (HT.sIx (0::ns).length (0::ns).length none - HT.sIx (0::ns).length 0 (some (-3)))=cs;refine z0J (f :=.int) (λdn R=>Ee5 λ(x4 x5 x6 x7 x8)=>R=[.s (.lst (ns.map .int)),.s (.tup (ws.map wtD)),.s (.int τ),.s (.tup (ws.map λx=>wtD (dbl x))),x4,x5,x6,x7,x8,.s (.ptr fa),.s (.ptr fb)]) ⟨_,_,_,_,_,rfl⟩ ?_ ?_
 .rintro dn c r R e ⟨x4,x5,x6,x7,x8,rfl⟩;show Sm.run _ _ _ _ _;ac_rfl;ac_nf;refine z97 λm m0 m1 =>?_;ac_nf;refine zie J L m0 m1 λu v t pd =>?_;ac_nf;refine z6n J L Y pd.up λd I =>?_;refine z0O (I.safe _) ?_;ac_rfl;have W:=pd.bx;have X:=pd.bY;have j:Bt 8 τ:=z0b (by lia);have C:=pd.pc.pos;ac_nf;refine zb4 C pd.bt.le λu' v' t' pl =>?_;ac_nf;refine I.ne ?_;ac_nf;refine zb8 J L j rfl rfl rfl ?_;ac_nf;have L1:=zh4 U;obtain⟨c1,c2,c3⟩:=pl.bt (n:=100) (m:=298) C pd.bt (Bt.mul W j).le (Bt.mul X j).le;refine z6n (ws:=ws.map (tw (Geo.sca τ))) (λx i =>?_) (by rw[wd];exact L) (by rw[zfM];exact Y) ⟨pl.pc C pd.bt.le (Bt.mul W j).le (Bt.mul X j).le,c2.le,c3.le,c1⟩ λd1 h1 =>?_
  .obtain⟨w,o,rfl⟩:=we.mp i;have a:=O w o;exact⟨λp hp=>by(obtain⟨q,N,rfl⟩:=we.mp hp;exact⟨(Bt.mul (a.wb q N).1 (z0b (n:=4) (by lia))).le,(Bt.mul (a.wb q N).2 (z0b (n:=4) (by lia))).le⟩),λz=>a.ne (jP.mp z),by simpa[tw] using a.len,⟨(Bt.mul a.vb.1 (z0b (n:=4) (by lia))).le,(Bt.mul a.vb.2 (z0b (n:=4) (by lia))).le⟩⟩
  obtain rfl:d=d1:=(I.imp (λk p r _ _=>zbf L1 (λx _ q=>zhM L1 x q) C pl.pos λb=>by(have:=pl.cx;have:=pl.cy;simp only[Geo.sc,Geo.sca];grind)) (zgE C U pl)).eq h1;ac_nf;refine I.same ?_;ac_nf;refine za0 (t:=τ) J L rfl rfl rfl ?_;ac_nf;refine z6n (x:=v) (y:=u) (t:=t) (ws:=ws.map (tw swp)) (λx i =>?_) (by rw[wd];exact L) (by rw[zfM];exact Y) ⟨⟨C,pd.pc.bY,pd.pc.bx,pd.pc.bt,by rw[Int.gcd_comm v u];exact pd.pc.cop⟩,X.le,W.le,pd.bt⟩ λd2 h2 =>?_
  .obtain⟨w,o,rfl⟩:=we.mp i;have a:=J w o;exact⟨λp hp=>by(obtain⟨q,N,rfl⟩:=we.mp hp;exact⟨(a.wb q N).2,(a.wb q N).1⟩),λz=>a.ne (jP.mp z),by simpa[tw] using a.len,a.vb.2,a.vb.1⟩
  obtain rfl:d=d2:=(I.imp (λk p r _ _=>zbf zbX (λx _ q=>zhM zbX x q) C C λb=>by(simp only[Geo.sc,swp];grind)) And.comm).eq h2;ac_nf;refine I.same ?_;ac_nf;refine⟨by rw[wd];exact szl' (by lia),?_⟩;refine z1X (f:=wtD) (g:=wtD) (p:=λx=>decide (x.1.length<=10)) (λx i K k1 k2 =>?_) ?_
  .ac_nf;rw[wd];refine z0G (λz =>?_) (λz =>?_)
   .ac_nf;exact k1 (vz (by omega))
   .exact k2 (wX (by omega))
  ac_nf;rw[wd,wd];refine z0G (λz =>?_) (λz =>?_)
  .have all:∀x∈ws,x.1.length<=10:=λx i=>by
    have:=List.filter_eq_self.mp ((List.filter_sublist (p:=λx:List P × P=>decide (x.1.length<=10)) (l:=ws)).eq_of_length (by omega)) x i;exact ue this
   ac_nf;rw[show (ws.map λx=>wtD (dbl x))=(ws.map dbl).map wtD by rw[wP];rfl];refine z6n (x:=u) (y:=v) (t:=t) (ws:=ws.map dbl) (λx i =>?_) (by rw[wd];exact L) (zeM Q) pd.up λd3 h3 =>?_
   .obtain⟨w,o,rfl⟩:=we.mp i;have a:=J w o;refine⟨λp hp=>a.wb p ?_,λz =>?_,by simp[dbl];lia,a.vb⟩
    .rcases wB.mp hp with k | k <;> exact vE k
    .have z':=congrArg List.length (show w.1.take 10++w.1.take 2=[] from z);rw[wD,vh,vZ] at z';have:=w6.mpr a.ne;omega
   obtain rfl:d=d3:=(I.imp (λk p r _ _=>zbf zkc (λx i q=>zhN (all x i) q) C C λb=>rfl) Iff.rfl).eq h3;ac_nf;refine I.same ?_;ac_nf;exact⟨_,_,_,_,_,rfl⟩
  .ac_nf;exact⟨_,_,_,_,_,rfl⟩
 rintro R ⟨x4,x5,x6,x7,x8,rfl⟩;ac_nf
 rfl
end Pu
namespace L2
open PySem PySem.Spec PyProof.Rows
section
variable {P:Program}{w:World}{K:W.Frag}{mg:WmP}{base:Heap}{CX:CXT}{k:Nat}{f c':Addr}{name qual:Str}{params:Arguments}{body:List Stmt}{scope:Scope}{clos:List (Str × Addr)}{doc pm ctv:Value}{oc:Obj}{vc:Array Value}{tq:Tok}{N ps:List Str}{fv:List V}{sp:Sp}
abbrev envQ (qual:Str)(scope:Scope)(clos:List (Str × Addr))(f c':Addr)(s:Shared):Env:=W.envX qual scope s.heap.objs.size f (.ref c') clos
@[reducible] def cxQ (P:Program)(w:World)(K:W.Frag)(mg:WmP)(base:Heap)(N:List Str)(d:Str)(a:Scope)(b:List (Str × Addr))(f e:Addr)(A:Around)(outer:List Env)(s:Shared)(H:Hp):Cx:=
 { prog:=P,w:=w,K:=K,mg:=mg,base:=base,A:=A.deeper (envQ d a b f e s),N:=N,s₀:=s,H₀:=H,env:=envQ d a b f e s,outer:=outer,stack:=envQ d a b f e s::outer,ex:=[],fn:=λ_=>false,calm:=true,pn:=[],xe:=λ_ _=>False }
structure Cap (base:Heap)(scope:Scope)(clos:List (Str × Addr))(N ps:List Str)(fv:List V):Prop where
 kind:scope.kind = .function
 co:scope.isCoroutine=false
 gen:scope.isGenerator=false
 nd:N.Nodup
 len:N.length=ps.length+fv.length
 pre:N.take ps.length=ps
 par:∀x∈ps,scope.names.lookup x=some .local
 nocell:∀y∈scope.names,y.2 ≠ .cell
 fr:∀x,scope.names.lookup x=some .free->∃c,clos.lookup x=some c
 inj:∀x y c,clos.lookup x=some c->clos.lookup y=some c->x=y
 at_:∀x c,clos.lookup x=some c->∃i v u,N[i]? = some x/\ps.length<=i/\fv[i - ps.length]? = some v/\RelV v u/\base.IsCell c (some u)
 all:∀i x,N[i]? = some x->ps.length<=i->scope.names.lookup x=some .free
theorem zeG:∀{P:List Str}(vs:List Value),P.Nodup->((P.zip vs).map (·.1)).Nodup
 | [],_,_=>by simp
 | _::_,[],_=>by simp
 | p::P,w::vs,d=>vf.mpr ⟨λz=>by
   obtain⟨⟨a,b⟩,e,f⟩:=we.mp z
   cases f
   exact(vf.mp d).1 (uP e).1,zeG vs (vf.mp d).2⟩
theorem zip_at {x:Str}{u:Value}:∀{P:List Str}{vs:List Value}{i:Nat},P.Nodup->P[i]? = some x->vs[i]? = some u->(P.zip vs).lookup x=some u
 | [],_,_,_,h,_=>by simp at h
 | _::_,[],_,_,_,h=>by simp at h
 | p::P,w::vs,0,b,a,d=>by
  simp_all
 | p::P,w::vs,i+1,b,a,d=>by
  have ne:(x == p)=false:=by
   have:x≠p:=λz=>(vf.mp b).1 (z ▸ ww (by simpa using a));simpa using this
  rw[ju,vP,ne];exact zip_at (vf.mp b).2 (by simpa using a) (by simpa using d)
def zfB {ps:List Str}{us:List Value}{i:Nat}{x:Str}{u:Value}(a:ps.Nodup)(b:ps[i]? = some x)(d:us[i]? = some u):(ps.zip us).reverse.lookup x=some u:=by
 rw[lookup_reverse_of_nodup _ (zeG us a)];exact zip_at a b d
def zkC (hf:base.get? f=some (W.fnMade name qual params body scope clos doc pm c' ctv))(hc:base.get? c'=some oc)(hd:oc.data = .fields vc)(hv:vc[1]? = some (.str qual tq))(S:Cap base scope clos N ps fv)
  (len:∀vs H Q E,sp vs H Q E->vs.length=ps.length)
  (G:∀A d s H vs Q E,Room k (A.deeper (envQ qual scope clos f c' s))->sp vs H Q E->
   ∃t,PSs (cxQ P w K mg base N qual scope clos f c' A d s H) body t/\t { nx:=λ_ x=>Q .non x,rt:=Q } (vs.map some++fv.map some) H):
  FnOk P w K mg base CX (k+1) f (W.fnX name qual params body scope clos .none .none doc pm none (.ref c') ctv) ps sp:=by
 refine⟨len,λA d s H a2 us vs Q E hr g hb r U =>?_⟩;have Z:=len _ _ _ _ U;have bs:=λb o e=>(g.bs b o e).1;have lim:s.heap.NoLimit:=g.mod.nolimit.keeps bs;refine codeAny_call_function hr.depth (bs _ _ hf) rfl S.co S.gen rfl ⟨c',oc,vc,tq,rfl,bs _ _ hc,hd,hv⟩ (hb _ _ _ _ ?_);refine wpAny_newFunctionEnv S.nocell (λ⟨n,v⟩ l=>S.par n (uP l).1) (λM a0 T=>⟨lim.fresh _ T,codeAny_func ?_⟩) S.kind;obtain⟨t,ht,hq⟩:=G A d s H vs Q E (hr.deeper _) U;have Y:∀b o,s.heap.get? b=some o->M.get? b=some o:=λb o e=>T.extBut b o (wJ (wu e)) (wf _ e);have I:Inv (cxQ P w K mg base N qual scope clos f c' A d s H) [] (vs.map some++fv.map some) H { s with heap:=M,toks:=s.toks+(ps.zip us).length }:=by
  refine⟨⟨g.mod,S.kind,rfl,rfl,wt _,S.inj,λy l =>?_,λy c z _=>(by cases z),λ_=>hr.hd,Around.frames_deeper g.frames,.inr ⟨rfl,rfl⟩,λb z=>absurd (show b∈([]) from z) (by simp),g.bs,g.bsz,λb _ _ z=>absurd (show b∈([]) from z) (by simp),λb z=>absurd (show b∈([]) from z) (by simp),g.funs,g.frf,g.tbs⟩,
   rfl,g.bare,Un.kept Y,⟨_,a0,λi y v M F h3 =>?_⟩,λy c h =>?_,g.hok.fresh (wt _),λy c h =>?_,λp hp=>absurd (show p∈([]) from hp) (by simp),g.hok.kept Y,?_⟩
  .have l:scope.names.lookup y=some .cell\/scope.names.lookup y=some .free:=l
   rcases l with l | l
   .exact absurd rfl (S.nocell _ (ul l))
   .exact S.fr y l
  .by_cases hi:i<ps.length
   .have ha:vs[i]? = some v:=by
     rw[wN (by simpa[Z] using hi),wK] at F
     cases e:vs[i]? with
     | none=>rw[e] at F;cases F
     | some a=>rw[e] at F;cases F;rfl
    obtain⟨u,hu,X⟩:=r.get ha;have hp:ps[i]? = some y:=by
     rw[<- S.pre,List.getElem?_take_of_lt (by lia)];exact M
    have a1:ps.Nodup:=by rw[<- S.pre];exact S.nd.sublist (List.take_sublist _ _)
    refine⟨u,X,.inl ⟨S.par y (ww hp),?_⟩⟩;exact zfB a1 hp hu
   .have hx:=S.all i y M (j5.mp hi);obtain⟨c,R⟩:=S.fr y hx;obtain⟨j,w,u,q1,q2,q3,q4,q5⟩:=S.at_ y c R;have ij:i=j:=by
     obtain⟨l1,C⟩:=wq.mp M;obtain⟨l2,L⟩:=wq.mp q1;exact(List.getElem_inj S.nd).mp (C.trans L.symm)
    subst ij;have hw:w=v:=by
     rw[wQ (by simpa[Z] using q2),wd,Z,wK,q3] at F
     cases F;rfl
    subst hw;obtain⟨o,C,L⟩:=q5;exact⟨u,q4,.inr ⟨.inr hx,c,R,o,Y _ _ (bs _ _ C),L⟩⟩
  .obtain⟨j,w,u,_,_,_,_,o,C,L⟩:=S.at_ y c h;exact⟨_,o,Y _ _ (bs _ _ C),L⟩
  .obtain⟨j,w,u,_,_,_,_,o,C,L⟩:=S.at_ y c h;exact(g.bs _ _ C).2
  .show _=N.length;rw[wD,wd,wd,S.len,Z]
 refine vH (ht [] _ _ H _ I hq) (λfl s' O =>?_) λe s' O=>O.elim;have fin:∀{m:St}{x:Hp}{v:V}{u:Value},Inv (cxQ P w K mg base N qual scope clos f c' A d s H) [] m x s'->RelV v u->Q v x->CE d P w H s Q u s':=
  λ{m x v u} J X q=>⟨v,x,J.os,J.bare,J.base,J.hok,X,q⟩
 cases fl with
 | ret u=>
  obtain⟨v,m,x,J,X,q⟩:=O;exact fin J X q
 | next=>
  obtain⟨m,x,J,q⟩:=O;exact fin (v :=.non) J rfl q
 | brk=>
  obtain⟨_,_,_,q⟩:=O;exact False.elim q
 | cont=>
  obtain⟨_,_,_,q⟩:=O;exact False.elim q
end
end L2
namespace Pu
open PySem PySem.Spec PyProof.Rows L2
def Fp (X:Cx)(CX:CXT)(k:Nat)(a:Addr)(F:Fn):Prop:=∃d e b sl ps,X.base.get? a=some ⟨d,e,.func b,sl⟩/\FnOk X.prog X.w X.K X.mg X.base CX k a b ps (spP X.K X.mg F)/\z3y X.K b ps []
section
variable {X:Cx}{E:XK}{CX:CXT}{e:Expr}{es:List Expr}{xs:List Ex}{pos:Pos}
def zhY (X:Cx)(CX:CXT)(E:XK)(k i:Nat)(a:Addr)(F:Fn)(t:TA):TE:=λb H Q=>b[i]? = some (some (.ref a))/\t b H λvs d=>spP X.K X.mg F (vs++[]) d Q E
def zdN {x:Str}{i k:Nat}{p:Pos}{t:TA}{a:Addr}{F:Fn}(z:Fp X CX k a F)(M:Room k X.A)(O:z2E CX X E)(N:PE X (.Name x p) (tVar i))(J:PA X (e::es) t)(L:autoParam (sE e es X) jA1)(f:autoParam (bT pos es X) jA1):
  PE X (.Call (.Name x p) (e::es) [] pos) (zhY X CX E k i a F t):=by
 rintro y s j H Q I ⟨g,h⟩;obtain⟨o,w,n,sl,ps,b,C,K⟩:=z;refine uY (thn (N _ s j H (λv d=>v = .ref a/\t j d _) I ⟨_,g,rfl,h⟩) λu T U =>?_);obtain⟨v,d,l,S,G,q⟩:=U;subst G
 cases S
 exact W.callWith_F ⟨o,w,n,sl,l.bk _ _ b⟩ (thn (J pos _ T j d _ l q) λus Z ⟨vs,Y,m,r,R⟩=>⟨⟨o,w,n,sl,m.bk _ _ b⟩,zbd C M K .nil O m r R⟩) L f
def zdq {x:Str}{i k:Nat}{p:Pos}{a:Addr}{F:Fn}(j:Fp X CX k a F)(C:Room k X.A)(L:z2E CX X E)(J:QE X (.Name x p) (tVar i))(u:QXA X E (e::es) xs)
  (w:autoParam (sE e es X) jA1) (d:autoParam (bT pos es X) jA1):QX X E (.Call (.Name x p) (e::es) [] pos) (.callp a F i xs):=
 ⟨PE.imp (zdN j C L J.p u.p w d) <| by
  rintro N H Q ⟨G,M,Q0,g,I,h,⟨z,f⟩,y,b⟩;obtain⟨v,s,t⟩:=h i _ z;subst t;refine⟨s,G,M,_,g,I,h,f,λn vs l m q o r g3 rds =>?_,b⟩;show spP X.K _ F _ m Q E;rw[vk];exact⟨l,n,Q0,g,r,rds,q,y.same o g3,b.same g3⟩⟩
end
end Pu
namespace L2
open PySem PySem.Spec PyProof.Rows
def wide (a h:Heap)(as:List Addr):Heap:=W.hideAll h ((List.range h.objs.size).filter λb=>(a.get? b).isNone && !as.contains b)
section
variable {base h:Heap}{as:List Addr}{b:Addr}{o:Obj}
def z6c (e:h.get? b=some o)(q:(∃o,base.get? b=some o)\/b∈as):(wide base h as).get? b=some o:=
 W.hideAll_get _ e λa=>by
  simp_all
def zaD (e:(wide base h as).get? b=some o):h.get? b=some o/\((∃o,base.get? b=some o)\/b∈as):=by
 have a  := W.of_hideAll _ e;refine⟨a,vO λn =>?_⟩;have:b∈(List.range h.objs.size).filter λb=>(base.get? b).isNone && !as.contains b:=by
  refine jV.mpr ⟨v4.mpr (wu a),?_⟩;have d:base.get? b=none:=by
   cases q:base.get? b with
   | none=>rfl
   | some o=>exact absurd (.inl ⟨o,q⟩) n
  simp_all
 rw[show (wide _ h as).get? b=none from W.hideAll_none _ this] at e
 cases e
def Mod.up {K:W.Frag}{mg:WmP}{base':Heap}(M:Mod K mg base)(k:∀b o,base.get? b=some o->base'.get? b=some o):Mod K mg base':=
 ⟨M.kin.keeps k,M.glob.keeps k,by obtain⟨m,j,l⟩:=M.blt;exact⟨m,j.keeps k,l⟩,M.nolimit.keeps k,by obtain⟨i,n,a,d,e,f,g,h⟩:=M.bm;exact⟨i,n,a,d,k _ _ e,f,g,h⟩⟩
theorem z5s (k:∀b o,base.get? b=some o->h.get? b=some o):∀{l:List Env},h.FunFrames base l->(∀a∈as,a ∉ frs l)->h.FunFrames (wide base h as) l
 | [],_,_=>trivial
 | env::rest,⟨i,⟨L,o,d,p,j,g⟩,m⟩,n=>by
  have e:frs (env::rest)=L::frs rest:=by show List.filterMap _ _=_;rw[v9,d];rfl
  rw[e] at n;refine⟨i,⟨L,o,d,?_,j,g⟩,z5s k m λa f z=>n a f (wn _ z)⟩
  cases q:(wide _ h as).get? L with
  | none=>rfl
  | some o=>
   rcases(zaD q).2 with ⟨_,z⟩ | z
   .grind
   .exact absurd wv (n _ z)
end
section
variable {X:Cx}{pins:List (Addr × Obj)}{σ:List (Option V)}{H:Hp}{s:Shared}{as:List Addr}{CX:CXT}{k:Nat}{f:Addr}{fd:FuncData}{ps:List Str}{sp:Sp}{dvs:List V}{ds:List Value}{E:XK}
def Inv.env0w (I:Inv X pins σ H s)(g:∀a∈as,H a=none/\a ∉ frs X.stack):Env0 X.prog X.w X.K X.mg (wide X.base s.heap as) X.A X.stack s H:=
 ⟨I.ok.frames,I.ok.mod.up λb o e=>z6c (I.bk b o e) (.inl ⟨o,e⟩),λb o e=>by
  obtain⟨f,d⟩:=zaD e
  rcases d with ⟨h,d⟩ | d
  .exact⟨f,(I.bs b h d).2⟩
  .exact⟨f,(g b d).1⟩,Nat.le_of_eq (W.hideAll_size _ _),z5s I.bk I.stack λa z=>(g a z).2,I.stkFree,I.tbs,I.hok,I.bare⟩
def zg1 {Q:VK}{us:List Value}{vs:List V}(g:∀a∈as,H a=none/\a ∉ frs X.stack)(F:FnOk X.prog X.w X.K X.mg (wide X.base s.heap as) CX k f fd ps sp)(m:Room k X.A)(i:z3y X.K fd ps ds)(j:Vals dvs ds)(n:z2E CX X E)
  (I:Inv X pins σ H s) (r:Vals vs us) (h:sp (vs++dvs) H Q E):wpAny (model X.prog X.w) X.A (call (.ref f) us) (EP X pins σ Q) X.xe s:=by
 have r2  := r.append j;have l:(us++ds).length=ps.length:=by rw[<- r2.length];exact F.len _ _ _ _ h
 refine wpAny_call (j7 (F.run X.A _ s H _ _ _ Q E m (I.env0w g) (i s us I.kIn l) r2 h) λr o b =>?_)
 cases r with
 | error e=>exact n _ σ H s e o I b
 | ok d=>
  cases d with
  | ret u=>exact I.after b
  | next=>exact False.elim b
  | brk=>exact False.elim b
  | cont=>exact False.elim b
end
end L2
namespace Pu
open PySem PySem.Spec PyProof.Rows L2
section
variable {X:Cx}{E:XK}{CX:CXT}{e:Expr}{es:List Expr}{xs:List Ex}{pos:Pos}
def zga {x:Str}{p:Pos}{a g:Addr}{F:Int->Fn}{y u it k:Nat}{C:FuncData}{ps:List Str}(hr:Room k X.A)(hx:z2E CX X E)(hm:X.mg x=some (.ref g))(hk:W.keepIn X.K (.ref g)=true)(hb:z3y X.K C ps [])
  (l:∀b s (f:L2.St) H t,Inv X b f H s->f[it]? = some (some (.int t))->∃as,(∀a∈as,H a=none/\a ∉ frs X.stack)/\FnOk X.prog X.w X.K X.mg (wide X.base s.heap as) CX k g C ps (spP X.K X.mg (z0h a (F t))))
  (ha:QXA X E (e::es) [.v y,.v u]) (hg:autoParam (Gl X x) jA1) (m:autoParam (dB x) jB1) (he:autoParam (sE e es X) jA1) (o:autoParam (bT pos es X) jA1):
  QX X E (.Call (.Name x p) (e::es) [] pos) (.turn a F y u it):=
 ⟨by
  rintro b s f H Q I ⟨G,J,Q0,X0,hs,z,⟨w,t,O,R,S,q⟩,n,d⟩;obtain⟨v,Y,Z⟩:=z it _ S;subst Z;have rr:runs [.v y,.v u] J (λj=>(z0h a (F t)).run j Q0 X0) X0:=by
   simp[runs,Ex.v,O,R];exact q
  refine uY (z8F I hg hm ?_ m);refine W.callWith_K I.ok.mod.kin hk (thn (ha.p pos _ s f H (λvs h=>spP X.K X.mg (z0h a (F t)) (vs++[]) h Q E) I ⟨G,J,_,X0,hs,z,rr,λj vs M N q T U g3 rds =>?_,d⟩) λus s1 ⟨vs,h,i,r,q1⟩=>⟨i.kIn,?_⟩) he o
  .show spP X.K _ _ _ N Q E;rw[vk];exact⟨M,j,Q0,X0,U,rds,q,n.same T g3,d.same g3⟩
  .obtain⟨as,has,L⟩:=l _ s1 f h t i Y;exact zg1 has L hr hb .nil hx i r q1⟩
end
section
variable {P:Program}{w:World}{K:W.Frag}{mg:WmP}{base:Heap}{CX:CXT}{k np:Nat}{f c':Addr}{name qual:Str}{params:Arguments}{body:List Stmt}{scope:Scope}{clos:List (Str × Addr)}{doc pm ctv:Value}{oc:Obj}{vc:Array Value}{tq:Tok}{N ps:List Str}{cs:List Int}{b:Sm}
def z9U {G H:Hp}{a:List D}{vs:List V}(d:Same G H)(r:RDs K mg G a vs):AbS K mg H G G (a.map B.s++cs.map λt=>B.s (.int t)) (vs.map some++(cs.map V.int).map some) H:=by
 have g:RDs K mg G (cs.map D.int) (cs.map V.int):=by
  induction cs with
  | nil=>rfl
  | cons c cs f=>exact⟨_,_,rfl,by rw[RD],f⟩
 have b:=r.app g;have:=z6k (N:=List.replicate (a++cs.map D.int).length "") d b rfl (by rfl);have e  := b.len;unfold L2.z35 at this;rw[uo,e,Nat.sub_self,List.replicate_zero,vk,List.replicate_zero,vk,wA,wA,wP] at this;exact this
def cloN (y:base.get? f=some (W.fnMade name qual params body scope clos doc pm c' ctv))(u:base.get? c'=some oc)(x:oc.data = .fields vc)(C:vc[1]? = some (.str qual tq))(S:Cap base scope clos N ps (cs.map V.int))
  (t:∀A a s H,Room k (A.deeper (envQ qual scope clos f c' s))->QZs (cxQ P w K mg base N qual scope clos f c' A a s H) E0 body b) (z:autoParam (ps.length=np) jA1):
  FnOk P w K mg base CX (k+1) f (W.fnX name qual params body scope clos .none .none doc pm none (.ref c') ctv) ps (spP K mg (Fn.mkC np cs b)):=by
 refine zkC y u x C S (λvs H Q E ⟨G,r,Q0,o,l,rds,⟨i,j⟩,h,F⟩=>by rw[rds.len,i,z]) λA a s H vs Q E d ⟨G,r,Q0,o,l,rds,⟨i,j⟩,h,F⟩=>⟨_,(t A _ s H d).p,?_⟩
 refine⟨H,G,G,_,λ_=>Q0 _,Q0,λ_=>False,z9U l rds,j,λI J n m q e _ =>?_,h,Kx.no⟩;exact h _ _ m n q ⟨e.g0,e.nw⟩ e.g e.s0 (by rw[RD])
end
end Pu
namespace L2
open PySem PySem.Spec PyProof.Rows
section
variable {X:Cx}{pins:List (Addr × Obj)}{σ:List (Option V)}{H:Hp}{s:Shared}{b:Addr}{i:Nat}{x:Str}{v:V}
def Inv.nofr (I:Inv X pins σ H s)(d:b≠X.env.locals)(a:b ∉ X.fs):b ∉ frs X.stack:=λz=>by
 rcases wm.mp (I.stkSub b z) with e | e
 .exact d e
 .exact a e
def Inv.pin_wide (I:Inv X pins σ H s){p:Addr × Obj}(g:p∈X.pn){as:List Addr}(f:p.1∈as):(H p.1=none/\p.1 ∉ frs X.stack)/\(wide X.base s.heap as).get? p.1=some p.2:=by
 obtain⟨e,a,b,d,_⟩:=I.pin p (vD _ g);exact⟨⟨a,I.nofr b d⟩,z6c e (.inr f)⟩
def Inv.cell_of (I:Inv X pins σ H s)(g:X.N[i]? = some x)(b:σ[i]? = some (some v))(j:X.env.kindOf x=some .cell)(n:X.fs=[]):
  ∃c u,X.env.cells.lookup x=some c/\RelV v u/\(H c=none/\c ∉ frs X.stack)/\∀as:List Addr,c∈as->(wide X.base s.heap as).IsCell c (some u):=by
 obtain⟨m,a,L⟩:=id I.loc;obtain⟨u,p,l⟩:=L i x v g b (.inr (.inl j))
 rcases l with ⟨z,_⟩ | ⟨_,c,d,o,e,f⟩
 .grind
 .refine⟨c,u,d,p,⟨I.freeC x c d,I.nofr (λz =>?_) (by rw[n];simp)⟩,λas h=>⟨o,z6c e (.inr h),f⟩⟩;obtain⟨t,r,q,w,y,_⟩:=a
  grind
end
def Un.more {fs ex:List Addr}{H a:Hp}{h h':Heap}(u:Un fs [] H a h h'):Un fs ex H a h h':=
 ⟨λb o e n f _=>u.keep b o e n f (by simp),λb o e n f _=>u.slot b o e n f (by simp),λb o e n _=>u.free b o e n (by simp),λb o e _=>u.there b o e (by simp),u.tups,u.frzs,u.tbls⟩
@[reducible] def cxP (CX:CXT)(P:Program)(w:World)(K:W.Frag)(mg:WmP)(b:Heap)(N:List Str)(d:Str)(a:Scope)(f:Addr)(e:Value)(A:Around)(s:Shared)(H:Hp)(E:XK)(Pt:Addr):Cx:=
 { cxOf CX P w K mg b N d a f e A [] s H E with ex:=[Pt],pn:=[(Pt,W.tabObj #[])],xe:=λ_ _=>False }
def CEP (P:Program)(w:World)(H:Hp)(Pt:Addr)(s:Shared)(Q:VK)(u:Value)(s':Shared):Prop:=
 ∃v a,s'.os=s.os/\AllBare s'.gens/\Un [] [Pt] H a s.heap s'.heap/\HOk P w a s'.heap/\RelV v u/\Q v a/\∃ps,s'.heap.get? Pt=some (W.tabObj ps)
def zap {CX:CXT}{P:Program}{w:World}{K:W.Frag}{mg:WmP}{d:Heap}{N ps:List Str}{g:Str}{a:Scope}{f Pt:Addr}{i:Value}{A:Around}{s s1:Shared}{H:Hp}{E:XK}{us:List Value}{vs:List V}
  (S:z3h N ps a) (u:A.handled=none) (m:Env0 P w K mg d A [] s H) (F:vs.length=ps.length) (r:Vals vs us) (l:s.heap.get? Pt=some (W.tabObj #[])) (n:H Pt=none) (q:d.get? Pt=none)
  (x:InCallC s s.heap.objs.size (bindL (envOfC g a s.heap.objs.size f i).kindOf (ps.zip us) λ_=>none) (cellsFrom (s.heap.objs.size+1) a.names []) (bindC (envOfC g a s.heap.objs.size f i).kindOf (ps.zip us) λ_=>none) s1):
  Inv (cxP CX P w K mg d N g a f i A s H E Pt) [] (z35 N vs) H s1:=by
 have I:=z7O (CX:=CX) (E:=E) S u m F r x;have lt:=wu l;have one:∀{b:Addr},b∈[Pt]->b=Pt:=λh=>wg.mp h;refine⟨⟨I.ok.mod,I.ok.kind,I.ok.glob,I.ok.blt,I.ok.above,I.ok.inj,I.ok.has,I.ok.cab,I.ok.hd,I.ok.frames,I.ok.stk,λb j =>?_,I.ok.bs,I.ok.bsz,λb o e j =>?_,λb _ z=>absurd (show b∈([]) from z) (by simp),I.ok.funs,I.ok.frf,I.ok.tbs⟩,
  I.os,I.bare,I.base.more,I.loc,I.cell,I.free,I.freeC,λp G =>?_,I.hok,I.len⟩
 .cases one j
  refine⟨wJ lt,λy c t z =>?_⟩;have:=I.ok.cab y c rfl t;rw[z] at this;exact absurd lt (j5.mpr this)
 .cases one j
  cases q.symm.trans e
 .cases wg.mp G
  obtain⟨J,L,rfl,C⟩:=x.done;exact⟨C _ _ l,n,wJ lt,λz=>absurd (show Pt∈([]) from z) (by simp),λv z=>by cases z⟩
end L2
namespace Pu
open PySem PySem.Spec PyProof.Rows L2
def zh5 {CX:CXT}{P:Program}{w:World}{K:W.Frag}{mg:WmP}{h:Heap}{k nn:Nat}{f Pt:Addr}{name d:Str}{i:Arguments}{j:List Stmt}{a:Scope}{dV kV E pm l ct oc:Value}{an od:Option Addr}
  {Y:Array (Option Value)}{N ps:List Str}{b:Sm}(lk:K.lookup f=some ⟨oc,od,.func (W.fnOf name d i j a dV kV E pm an l ct),Y⟩) (T:W.codeIn K l d=true) (S:z3h N ps a) (hN:N.length=nn)
  {A:Around}{s:Shared}{H:Hp}{args:Args}{us:List Value}{vs:List V}{Q:VK}
  (z:Q0 (cxP CX P w K mg h N d a f l A s H E0 Pt) Pt E0 j b)
  (hr:Room (k+1) A) (F:Env0 P w K mg h A [] s H) (hP:s.heap.get? Pt=some (W.tabObj #[])) (hH:H Pt=none) (R:h.get? Pt=none) (hb:BindsTo s (W.fnOf name d i j a dV kV E pm an l ct) args (ps.zip us)) (r:Vals vs us) (hl:vs.length=ps.length)
  (X:spP K mg (Fn.mkN ps.length nn b) vs H Q E0):
  codeAny (model P w) A (.call (.ref f) args) (λr s'=>match r with | .ok (.ret u)=>CEP P w H Pt s Q u s' | _=>False) s:=by
 obtain⟨G,ds,Q1,X1,m,rds,⟨U,L⟩,hk,hx⟩:=X;have Z:K.In s.heap:=F.mod.kin.keeps λb o e=>(F.bs b o e).1;have lim:s.heap.NoLimit:=F.mod.nolimit.keeps λb o e=>(F.bs b o e).1;have C:∀y∈ps.zip us,a.names.lookup y.1=some .local\/(a.names.lookup y.1=some .cell/\((cellsFrom (s.heap.objs.size+1) a.names []).lookup y.1).isSome=true):=by
  rintro⟨n,v⟩ hy
  rcases S.par n (uP hy).1 with q | q
  .exact .inl q
  .exact .inr ⟨q,W.cellsFrom_some _ _ _ (.inl q)⟩
 refine codeAny_call_function hr.depth (Z _ _ lk) rfl S.co S.gen rfl (W.codeRec_of Z T) (hb _ _ _ _ ?_);refine wpAny_newFunctionEnv_cells S.kind C λa0 he s1 x =>?_;subst he;refine⟨lim.keeps x.toInCall.keep,codeAny_func ?_⟩;have I:Inv (cxP CX P w K mg h N d a f l A s H E0 Pt) [] (z35 N vs) H s1:=zap S hr.hd F hl r hP hH R x;refine vH (z.p s1 (z35 N vs) H { nx:=λ_ t=>Q .non t,rt:=Q } I ?_) (λfl s' m =>?_) λe s' m=>m.elim
 .refine⟨H,G,G,_,λ_=>Q1 .non,Q1,λ_=>False,z6k m rds U hN,L,λa1 M t G' q O _ =>?_,hk,Kx.no⟩;exact hk .non .non G' t q ⟨O.g0,O.nw⟩ O.g O.s0 (by rw[RD])
 obtain⟨m,ht⟩:=m
 cases fl with
 | ret u=>
  obtain⟨v,M,t,J,rv,q⟩:=m;exact⟨v,t,J.os,J.bare,J.base,J.hok,rv,q,ht⟩
 | next=>
  obtain⟨M,t,J,q⟩:=m;exact⟨.non,t,J.os,J.bare,J.base,J.hok,rfl,q,ht⟩
 | brk=>
  obtain⟨_,_,_,q⟩:=m;exact False.elim q
 | cont=>
  obtain⟨_,_,_,q⟩:=m;exact False.elim q
end Pu
namespace L2
open PySem PySem.Spec PyProof.Rows
def zc0 {P:Program}{w:World}{K:W.Frag}{mg mb:WmP}{k:Nat}{Q a c Pt:Addr}{s₁:Shared}{vs:List Value}{ns:List Int}
  (N:K.In s₁.heap) (Z:s₁.heap.Ns mainGlobals mg) (A:s₁.heap.Ns builtinsNs mb) (U:∀x:Str,x≠"__name__"->mb x=bootBuiltins x) (I:s₁.heap.NoLimit) (X:BmAt mg s₁.heap) (hg:s₁.gens = #[])
  (s:s₁.heap.get? a=some { cls :=.type "list",data :=.seq vs.toArray }) (hi:IntsAre vs ns) (hl:ns.length<=sizeLine) (hr:Room k callerA)
  (a1:tsOf K=[]) (hc:z9Q K c=some Pt) (j:s₁.heap.get? Pt=some (W.tabObj #[]))
  (F:∀l H,l.get? Pt=none->H Pt=none->Env0 P w K mg l callerA [] s₁ H->SqL K H a (ns.map V.int)->
   codeAny (model P w) callerA (.call (.ref Q) ⟨[.ref a],[]⟩) (λr s'=>match r with | .ok (.ret u)=>CEP P w H Pt s₁ (λv _=>v = .bl true) u s' | _=>False) s₁):
  codeAny (model P w) callerA (.call (.ref Q) ⟨[.ref a],[]⟩) (λr s'=>r = .ok (.ret (.bool true))/\OldK s₁.heap s'.heap/\s'.os=s₁.os/\AllBare s'.gens) s₁:=by
 have rv:=z74 hi;have M:=hi.length;obtain⟨T,oc,vc,c1,c2,c3,c4⟩:=z9P hc;have aP:a≠Pt:=λz=>by rw[z,j] at s;cases s
 have p:∀u:Option HO,SqL K (λb=>if b=a then u else none) a (ns.map V.int)->((u=none)\/(K.lookup a=none/\u=some (.frz { cls :=.type "list",data :=.seq vs.toArray } (.lst (ns.map V.int)))))->
   codeAny (model P w) callerA (.call (.ref Q) ⟨[.ref a],[]⟩) (λr s'=>r = .ok (.ret (.bool true))/\OldK s₁.heap s'.heap/\s'.os=s₁.os/\AllBare s'.gens) s₁:=by
  intro u hS f;generalize hH:(λb=>if b=a then u else none)=H at hS;have g:∀{b v},H b=some v->b=a/\u=some v:=λ{b v} e=>by
   rw[<- hH] at e
   by_cases A:b=a
   .exact⟨A,by rw[<- e];exact(if_pos A).symm⟩
   .have e':=(if_neg A).symm.trans e
    cases e'
  have a0:HOk P w H s₁.heap:=λb v e=>by
   obtain⟨rfl,z⟩:=g e
   rcases f with f | ⟨_,f⟩
   .rw[f] at z;cases z
   .rw[f] at z
    cases z
    exact⟨s,by rw[wd];exact hl,vs,_,rv,s⟩
  have a2:∀{b:Addr}{o:Obj}{E:Array DictEntry}{ep:Nat},s₁.heap.get? b=some o->o.data = .dict E ep->H b=none/\b≠Pt:=λ{b o E ep} e d=>by
   refine⟨?_,λz =>?_⟩
   .cases q:H b with
    | none=>rfl
    | some v=>
     obtain⟨rfl,_⟩:=g q;rw[s] at e;cases e;have y:Data.seq vs.toArray _=Data.dict E ep:=d
     cases y
   .rw[z,j] at e;cases e;have y:Data.fields _=Data.dict E ep:=d
    cases y
  have a3:∀{b:Addr}{o:Obj},s₁.heap.get? b=some o->o.data = .plain->H b=none/\b≠Pt:=λ{b o} e d=>by
   refine⟨?_,λz =>?_⟩
   .cases q:H b with
    | none=>rfl
    | some v=>
     obtain⟨rfl,_⟩:=g q;rw[s] at e;cases e;have y:Data.seq vs.toArray _=Data.plain:=d
     cases y
   .rw[z,j] at e;cases e;have y:Data.fields _=Data.plain:=d
    cases y
  have O:∀{b:Addr}{o:Obj},s₁.heap.get? b=some o->H b=none/\b≠Pt->(W.hideAll (hidT s₁.heap H) [Pt]).get? b=some o:=λ{b o} e n=>W.hideAll_get _ (zec e n.1) (by simpa using n.2);have C:∀{b:Addr}{m:WmP},s₁.heap.Ns b m->(W.hideAll (hidT s₁.heap H) [Pt]).Ns b m:=λ{b m} ⟨o,E,ep,e,d,r⟩=>⟨o,E,ep,O e (a2 e d),d,r⟩
  have S:∀{b:Addr}{o:Obj},K.lookup b=some o->H b=none/\b≠Pt:=λ{b o} e=>by
   refine⟨?_,λz=>by rw[z,T] at e;cases e⟩
   cases q:H b with
   | none=>rfl
   | some v=>
    obtain⟨rfl,z⟩:=g q
    rcases f with f | ⟨f,_⟩
    .rw[f] at z;cases z
    .rw[f] at e;cases e
  have R:K.In (W.hideAll (hidT s₁.heap H) [Pt]):=λb o e=>O (N b o e) (S e);have hM:Mod K mg (W.hideAll (hidT s₁.heap H) [Pt]):=⟨R,C Z,⟨mb,C A,U⟩,let ⟨mc,h1,h2⟩:=I;⟨mc,C h1,h2⟩,let ⟨bm,ob,b1,b2,b3,b4,b5,b6⟩:=X;⟨bm,ob,b1,b2,O b3 (a3 b3 b6),b4,b5,b6⟩⟩
  have HP:H Pt=none:=by
   rw[<- hH];exact if_neg λz=>aP z.symm
  have e0:Env0 P w K mg (W.hideAll (hidT s₁.heap H) [Pt]) callerA [] s₁ H:=⟨rfl,hM,λb o e=>zgR (W.of_hideAll _ e),Nat.le_of_eq ((W.hideAll_size _ _).trans (zc8 _ _)),trivial,λb A=>absurd (show b∈([]) from A) (by simp),λPt t e=>(by rw[a1] at e;cases e),a0,.of_eq hg⟩
  refine j7 (F _ H (W.hideAll_none _ (by simp)) HP e0 hS) λr s' h =>?_
  cases r with
  | error e=>exact False.elim h
  | ok fl=>
   cases fl with
   | next=>exact False.elim h
   | brk=>exact False.elim h
   | cont=>exact False.elim h
   | ret v0=>
    obtain⟨v,H',os,G,un,J,r',q,ps,L⟩:=h;have q':v = .bl true:=q;subst q';obtain rfl:v0=Value.bool true:=r';refine⟨rfl,⟨λb o e =>?_,λb o e =>?_⟩,os,G⟩
    .by_cases i:b=Pt
     .subst i;rw[j] at e
      cases e
      exact .inr (.inl ⟨⟨c,oc,vc,N _ _ c1,c2,c3,c4⟩,rfl, #[],ps,rfl,by rw[L];simp⟩)
     cases q:H b with
     | none=>exact .inl (un.keep b o e q (by intro z;exact absurd (show b∈([]) from z) (by simp)) (by simpa using i))
     | some v=>
      obtain⟨rfl,z⟩:=g q
      rcases f with f | ⟨_,f⟩
      .rw[f] at z;cases z
      .rw[f] at z
       cases z
       obtain⟨e2,_⟩:=J _ _ (un.frzs _ _ _ q);rw[s] at e
       cases e
       exact .inl e2
    .by_cases i:b=Pt
     .subst i;exact⟨_,L⟩
     .exact un.there b o e (by simpa using i)
 cases Y:K.lookup a with
 | some o=>
  have e:=N a o Y;rw[s] at e
  cases e
  exact p none (.inr ⟨_,vs.toArray,_,Y,rfl,rfl,rfl,by rw[wG,M];exact hl,by simpa using rv⟩) (.inl rfl)
 | none=>exact p _ (.inl (.inr ⟨_,if_pos rfl⟩)) (.inr ⟨Y,rfl⟩)
def zcN {l:W.OpenLaw}{n k:Nat}{q:Program}{p:List Str}{XP:(Str->Option Value)->Heap->Prop}{x:World->Heap->Prop}{d:DefRec}{K:Params->W.Frag}{c Pt:World->Addr}
  (R:l.most=some n) (A:n<=sizeLine) (y:d.params.defaults=[]) (S:Room k callerA)
  (M:∀w h,x w h->(K w.params).In h) (C:∀w:World,tsOf (K w.params)=[]) (N:∀w:World,z9Q (K w.params) (c w)=some (Pt w)) (I:∀w h,x w h->h.get? (Pt w)=some (W.tabObj #[]))
  (F:∀w mg t a e (ns:List Int),(K w.params).In e.heap->e.heap.Ns mainGlobals mg->mg d.name=some (.ref t)->ns.length<=n->e.heap.get? (Pt w)=some (W.tabObj #[])->
   ∀i H,i.get? (Pt w)=none->H (Pt w)=none->Env0 l.prog w (K w.params) mg i callerA [] e H->SqL (K w.params) H a (ns.map V.int)->
    codeAny (model l.prog w) callerA (.call (.ref t) ⟨[.ref a],[]⟩) (λr s'=>match r with | .ok (.ret u)=>CEP l.prog w H (Pt w) e (λv _=>v = .bl true) u s' | _=>False) e):
  W.WalkO q p XP x l.row.toRowW d [] (λf vs=>PySem.call f vs):=by
 refine Att.z8T R y λw J e mg mb t o pm U L a vs ns G Y Z X O z s m j Q =>?_;have E:=M w _ Y;exact zc0 E G.T.g G.T.b G.T.builtins G.T.nolimit G.T.bmain Q s m (wO j A) S (C w) (N w) (I w _ Y) (F w mg t a _ ns E G.T.g z j (I w _ Y))
end L2
namespace Pu
open PySem PySem.Spec PyProof.Rows L2
structure Sc (N ps:List Str)(sc:Scope):Prop where
 fs:z3h N ps sc
 nm:∀x∈N,Nm sc x
def Sc.of {N ps:List Str}{sc:Scope}(h:(sc.kind = .function/\sc.isCoroutine=false/\sc.isGenerator=false)/\N.Nodup/\N.take ps.length=ps/\(∀y∈sc.names,y.2 ≠ .free)/\∀x∈N,(sc.names.lookup x=some .local\/sc.names.lookup x=some .cell)/\dB x/\(x == ("__classdict__"))=false):Sc N ps sc:=
 ⟨⟨h.1.1,h.1.2.1,h.1.2.2,h.2.1,h.2.2.1,λx a=>(h.2.2.2.2 x (vE (by rw[h.2.2.1];exact a))).1,h.2.2.2.1⟩,λx a=>⟨(h.2.2.2.2 x a).1,(h.2.2.2.2 x a).2.1,(h.2.2.2.2 x a).2.2⟩⟩
section
variable {X:Cx}{ps:List Str}{x:Str}{pos pos2:Pos}{e:Expr}{te:TE}{i:Nat}
def vx (S:Sc X.N ps X.env.scope)(a:X.N[i]? = some x):QE X (.Name x pos) (tVar i):=
 have m:=S.nm x (ww a)
 ⟨zf8 a m.vis m.hd m.hcd⟩
def nx (S:Sc X.N ps X.env.scope)(a:X.N[i]? = some x)(b:X.fn x=true):QG X (.Name x pos) (z2S i):=⟨zbv S.fs.nd a (S.nm x (ww a)).loc (.inl b)⟩
def ax (S:Sc X.N ps X.env.scope)(a:X.N[i]? = some x)(d:X.fn x=true)(b:QE X e te)(f:swapsWith e (some (.Name x pos2)) pos.line X.env=pure false):QS X (.Assign [.Name x pos2] e pos) (tAsg te (z2S i)):=⟨zj6 S.fs.nd a (S.nm x (ww a)).loc b.p f (.inl d)⟩
end
def zlo {op:BoolOp}{a:Pos}(h:QXW X E (.BoolOp op es a) x):QXT X E (.BoolOp op es a) x:=QW.pt h
noncomputable def tgN:Expr->List Str
 | .Name x _=>[x]
 | .Tuple a _ _=>a.filterMap fun | .Name x _=>some x | _=>none
 | _=>[]
def z1E (b:Expr)(a:List Nat)(N:List Str):List Str:=tgN b++a.map λj=>N.getD j ""
section
variable {X:Cx}{E:XK}{N ps:List Str}{sc scope:Scope}{target iter elt c:Expr}{src x y:Ex}{nt iy:Nat}{js:List Nat}{tg:Tg}{pos py spos:Pos}{z:Str}
def zdA (S:Sc N ps sc)(f:X.N=N)(b:X.env.scope=sc)(g:X.calm=true)(j:QXI X E target iter src)(l:scope.kind = .function)(d:z5B (z1E target js N) N nt js scope.names sc.names=true/\(z1E target js N).Nodup)(e:tg.slots.all (· < nt)=true)
  (i:∀C s H a,(z1E target js N).Nodup->QG (X.compG scope (z1E target js N) C s H a) target (tgt X.K tg))
  (h:∀C s H a,(z1E target js N).Nodup->QX (X.compG scope (z1E target js N) C s H a) E0 elt x) (m:fI iter X):QF X E (.ListComp elt [⟨target,iter,[],0⟩] scope pos) (.comp nt js tg src none x):=
 zbi (ct:=none) g j l (z5B.ok f b d.1) e (λC s H a=>i C s H a d.2) trivial (λC s H a=>h C s H a d.2) m
def zdz (S:Sc N ps sc)(f:X.N=N)(b:X.env.scope=sc)(g:X.calm=true)(j:QXI X E target iter src)(l:scope.kind = .function)(d:z5B (z1E target js N) N nt js scope.names sc.names=true/\(z1E target js N).Nodup)(e:tg.slots.all (· < nt)=true)
  (i:∀C s H a,(z1E target js N).Nodup->QG (X.compG scope (z1E target js N) C s H a) target (tgt X.K tg))
  (n:∀C s H a,(z1E target js N).Nodup->QXT (X.compG scope (z1E target js N) C s H a) E0 c y)
  (h:∀C s H a,(z1E target js N).Nodup->QX (X.compG scope (z1E target js N) C s H a) E0 elt x) (m:fI iter X):QF X E (.ListComp elt [⟨target,iter,[c],0⟩] scope pos) (.comp nt js tg src (some y) x):=
 zbi (ct:=some c) g j l (z5B.ok f b d.1) e (λC s H a=>i C s H a d.2) (λC s H a=>n C s H a d.2) (λC s H a=>h C s H a d.2) m
def zdw (S:Sc N ps sc)(d:X.N=N)(b:X.env.scope=sc)(m:N[iy]? = some z)(o:sc.names.lookup z=some .local)(h:X.calm=true)(l:QXI X E target iter src)(n:scope.kind = .function)(e:z5B (z1E target js N) N nt js scope.names sc.names=true/\(z1E target js N).Nodup)(g:tg.slots.all (· < nt)=true)
  (j:∀C s H a,(z1E target js N).Nodup->QG (X.compG scope (z1E target js N) C s H a) target (tgt X.K tg))
  (i:∀C s H a,(z1E target js N).Nodup->QX (X.compG scope (z1E target js N) C s H a) E0 elt x) (f:swapsWith (.ListComp elt [⟨target,iter,[],0⟩] scope pos) (some (.Name z py)) spos.line X.env=pure true) (p:fI iter X):
  QS X (.Assign [.Name z py] (.ListComp elt [⟨target,iter,[],0⟩] scope pos) spos) (tAsg (tf X.K X.mg E (.comp nt js tg src none x)) (z2S iy)):=
 zbh (ct:=none) (by rw[d];exact S.fs.nd) (by simp_all) (by simp_all) h l n (z5B.ok d b e.1) g (λC s H a=>j C s H a e.2) trivial (λC s H a=>i C s H a e.2) f p
def zdv (S:Sc N ps sc)(d:X.N=N)(b:X.env.scope=sc)(m:N[iy]? = some z)(o:sc.names.lookup z=some .local)(h:X.calm=true)(l:QXI X E target iter src)(n:scope.kind = .function)(e:z5B (z1E target js N) N nt js scope.names sc.names=true/\(z1E target js N).Nodup)(g:tg.slots.all (· < nt)=true)
  (j:∀C s H a,(z1E target js N).Nodup->QG (X.compG scope (z1E target js N) C s H a) target (tgt X.K tg))
  (q:∀C s H a,(z1E target js N).Nodup->QXT (X.compG scope (z1E target js N) C s H a) E0 c y)
  (i:∀C s H a,(z1E target js N).Nodup->QX (X.compG scope (z1E target js N) C s H a) E0 elt x) (f:swapsWith (.ListComp elt [⟨target,iter,[c],0⟩] scope pos) (some (.Name z py)) spos.line X.env=pure true) (p:fI iter X):
  QS X (.Assign [.Name z py] (.ListComp elt [⟨target,iter,[c],0⟩] scope pos) spos) (tAsg (tf X.K X.mg E (.comp nt js tg src (some y) x)) (z2S iy)):=
 zbh (ct:=some c) (by rw[d];exact S.fs.nd) (by simp_all) (by simp_all) h l n (z5B.ok d b e.1) g (λC s H a=>j C s H a e.2) (λC s H a=>q C s H a e.2) (λC s H a=>i C s H a e.2) f p
end
structure Te where
 k:Nat
 x:Str
 i:Nat
 np:Nat
 N:List Str
 F:Fn
abbrev Te.ps (t:Te):List Str:=t.N.take t.np
structure Gx where
 P:Program
 w:World
 K:W.Frag
 mg:Str->Option Value
 base:Heap
abbrev Ct (G:Gx)(t:Te):Prop:=Cal G.P G.w G.K G.mg G.base (CXe G.P G.w) t.k t.x t.ps (spP G.K G.mg t.F)
abbrev Ft (G:Gx)(t:Te)(f:Addr)(fd:FuncData):Prop:=FnOk G.P G.w G.K G.mg G.base (CXe G.P G.w) t.k f fd t.ps (spP G.K G.mg t.F)
section
variable {P:Program}{w:World}{K:W.Frag}{mg:WmP}{base:Heap}{f:Addr}{fd:FuncData}{N ps:List Str}{qual x:Str}{st:Stmt}{k np nn:Nat}{b:Sm}
def fnQ (F:Fun K x qual st f fd)(S:Sc N ps (z07 st))
  (g:∀a A d s H E,Sc N ps (z07 st)->Room k (A.deeper (envOfC qual (z07 st) s.heap.objs.size f a))->(A.deeper (envOfC qual (z07 st) s.heap.objs.size f a)).units+64<cLine->QZs ((cxOf (CXe P w) P w K mg base N qual (z07 st) f a A d s H E).wish λ_ _=>False) E0 (z0N st) b) (h:autoParam (ps.length=np) jA1) (e:autoParam (N.length=nn) jA1):
  FnOk P w K mg base (CXe P w) (k+1) f fd ps (spP K mg (Fn.mkN np nn b)):=fnM F S.fs (λa A d s H E i j=>g a A _ s H E S i j) h e
end
section
variable {G:Gx}{t:Te}{f:Addr}{fd:FuncData}{st:Stmt}{k np nn:Nat}{b:Sm}
def fnT (F:Fun G.K t.x t.x st f fd)(S:Sc t.N t.ps (z07 st))(e:t.F=Fn.mkN np nn b)(i:t.k=k+1)
  (h:∀a A d s H E,Sc t.N t.ps (z07 st)->Room k (A.deeper (envOfC t.x (z07 st) s.heap.objs.size f a))->(A.deeper (envOfC t.x (z07 st) s.heap.objs.size f a)).units+64<cLine->QZs ((cxOf (CXe G.P G.w) G.P G.w G.K G.mg G.base t.N t.x (z07 st) f a A d s H E).wish λ_ _=>False) E0 (z0N st) b) (j:autoParam (t.ps.length=np) jA1) (g:autoParam (t.N.length=nn) jA1):Ft G t f fd:=by
 show FnOk _ _ _ _ _ _ t.k _ _ _ _;rw[e,i];exact fnQ F S h j g
end
structure Cf (G:Gx)(F:Fn)(t:Te):Prop where
 c:Ct G t
 e:t.F=F
def ziD {a n:Pos}{t:Te}(C:Cf G F t)(h:Ct G t->Cal X.prog X.w X.K X.mg X.base (CXe G.P G.w) t.k f t.ps (spP X.K X.mg t.F))(l:Room t.k X.A)(m:z2E (CXe G.P G.w) X E)(g:QXA X E (e::es) xs)(j:Gl X f)
  (b:dB f) (i:sE e es X) (d:bT a es X):QX X E (.Call (.Name f n) (e::es) [] a) (.op F xs):=by
 have q:=h C.c;rw[C.e] at q;exact zlk q l m g j b i d
def us_s {P:List Value->Prop}(h:∀a us,us.length=n->P (a::us))(us:List Value)(e:us.length=n+1):P us:=by
 cases us with
 | nil=>cases e
 | cons a us=>exact h a us (Nat.succ.inj e)
def us1 {P:List Value->Prop}(h:∀b,P [b]):∀us,us.length=1->P us:=us_s λa us e=>by
 grind
def us2 {P:List Value->Prop}(h:∀b d,P [b,d]):∀us,us.length=2->P us:=us_s λa=>us1 (h a)
def us3 {P:List Value->Prop}(h:∀b d e,P [b,d,e]):∀us,us.length=3->P us:=us_s λa=>us2 (h a)
def us4 {P:List Value->Prop}(h:∀b d e f,P [b,d,e,f]):∀us,us.length=4->P us:=us_s λa=>us3 (h a)
def Gx.of (P:Program)(w:World)(K:W.Frag)(mg:WmP)(base:Heap):∃G:Gx,G.P=P/\G.w=w/\G.K=K/\G.mg=mg/\G.base=base:=⟨⟨P,w,K,mg,base⟩,rfl,rfl,rfl,rfl,rfl⟩
def ctG {G:Gx}{h:Heap}(X:G.K.In h)(g:h.Ns mainGlobals G.mg)(t:Te){st:Stmt}{f:Addr}(d:Std G.K t.x st f)(ok:∀b,Fun G.K t.x t.x st f b->Ft G t f b)
  (m:∀kV j o e i ct us,us.length=t.ps.length->bindArgs (W.fnOf t.x t.x (z1J st) (z0N st) (z07 st) .none kV j o e i ct) ⟨us,[]⟩=pure (t.ps.zip us):=by walk_at "c"):Cf G t.F t:=⟨zkI X g d m ok,rfl⟩
end Pu
namespace L2
open PySem PySem.Spec PyProof.Rows
def zhu {a:Heap}{sc:Scope}{p x:Str}{c:Addr}{t:Int}{u:Value}(h:(sc.kind = .function/\sc.isCoroutine=false/\sc.isGenerator=false)/\p≠x/\sc.names.lookup p=some .local/\sc.names.lookup x=some .free/\∀y∈sc.names,y.2 ≠ .cell/\(y.2 = .free->y.1=x))
  (r:RelV (.int t) u) (C:a.IsCell c (some u)):Cap a sc [(x,c)] [p,x] [p] [.int t]:=by
 obtain⟨⟨m,n,o⟩,s,w,A,g⟩:=h;have f:∀{y d},([(x,c)]).lookup y=some d->y=x/\d=c:=λ{y d} e=>by
  rw[vP] at e
  cases q:y == x with
  | true=>simp_all
  | false=>rw[q] at e;cases e
 refine⟨m,n,o,by simpa using s,rfl,rfl,λy b =>?_,λy b=>(g y b).1,λy b =>?_,λy z d j l=>(f j).1.trans (f l).1.symm,λy d e =>?_,λi y e E =>?_⟩
 .rw[wg.mp b];exact w
 .have e:y=x:=(g _ (ul b)).2 rfl;exact⟨c,by rw[e];simp⟩
 .obtain⟨rfl,rfl⟩:=f e;exact⟨1,_,u,rfl,wt _,rfl,r,C⟩
 .match i,e,E with
  | 1,e,_=>cases e;exact A
def zhv {a:Heap}{sc:Scope}{p:Str}(h:(sc.kind = .function/\sc.isCoroutine=false/\sc.isGenerator=false)/\sc.names.lookup p=some .local/\∀y∈sc.names,y.2 ≠ .cell/\y.2 ≠ .free):Cap a sc [] [p] [p] []:=by
 obtain⟨⟨j,l,m⟩,n,f⟩:=h;have no:∀{y d},([]:List (Str × Addr)).lookup y=some d->False:=λe=>by simp at e
 refine⟨j,l,m,by simp,rfl,rfl,λy b =>?_,λy b=>(f y b).1,λy b=>absurd rfl (f _ (ul b)).2,λy z d g _=>(no g).elim,λy d e=>(no e).elim,λi y e o =>?_⟩
 .simp_all
 grind
end L2
namespace Pu
open PySem PySem.Spec PyProof.Rows L2
abbrev FpG (G:Gx)(k:Nat)(a:Addr)(F:Fn):Prop:=∃oc od fd sl ps,G.base.get? a=some ⟨oc,od,.func fd,sl⟩/\FnOk G.P G.w G.K G.mg G.base (CXe G.P G.w) k a fd ps (spP G.K G.mg F)/\z3y G.K fd ps []
end Pu
end
set_option Elab.async false
set_option linter.all false
set_option maxRecDepth 100000
set_option maxHeartbeats 4000000
namespace My
open PySem PySem.Spec PyProof.Rows L2 Pu
def top (i:Nat):Stmt:=PySem.Challenge.pw_closehaul_k34_whole_greater_and_mirrored.main.body.getD i (.Pass ⟨0,0,0,0⟩)
abbrev Fu (G:Gx)(t:Te)(f:Addr)(fd:FuncData):Prop:=Fun G.K t.x t.x (top t.i) f fd
local macro_rules | `(tactic| walk_at "c") => `(tactic| first | exact λ_ _ _ _ _ _=>us1 λ_=>rfl | exact λ_ _ _ _ _ _=>us2 λ_ _=>rfl | exact λ_ _ _ _ _ _=>us3 λ_ _ _=>rfl | exact λ_ _ _ _ _ _=>us4 λ_ _ _ _=>rfl)
noncomputable abbrev BL:List Str:=["abs","int","isinstance","len","list","max","min","range","reversed","set","sorted","sum","tuple","zip"]
structure Txt (K:W.Frag)(mg:WmP):Prop where
 nb:∀b∈BL,mg b=none
 g_EVERY_WAY:zkR K mg "EVERY_WAY" z2Q
def zmw:bootBuiltins "abs"=some (.builtin "abs"):=by rfl
def zmv:bootBuiltins "int"=some (.type "int"):=by rfl
def zmu:bootBuiltins "len"=some (.builtin "len"):=by rfl
def zkL:bootBuiltins "list"=some (.type "list"):=by rfl
def zmt:bootBuiltins "max"=some (.builtin "max"):=by rfl
def zms:bootBuiltins "min"=some (.builtin "min"):=by rfl
def zeD:bootBuiltins "sorted"=some (.builtin "sorted"):=by rfl
def zmr:bootBuiltins "sum"=some (.builtin "sum"):=by rfl
def zhx:bootBuiltins "tuple"=some (.type "tuple"):=by rfl
set_option hygiene false in
local macro_rules
 | `(tactic| walk_at "q2") => do let ha0←sh "QE:___" (←`(tactic|walk_at "e"));let ab0←al "zmw zmv zmu zkL zmt zms zeD zmr zhx";let ac0←al "zdm??? zg9";let hd0←sh "QA:___" ac0;let ae0←al "z7i? z6s?? ziu";let hf0←sh "QSs:___" ae0;let hg0←sh "QS:___" (←`(tactic|walk_at "s"));let ah0←al "ziM?#??? zge?";let hi0←sh "QT:___" (←`(tactic|first | $ah0:tactic | with_reducible refine zlo ?_ | with_reducible refine zgf ?_ ?_));let aj0←al "zdr? zgb? zgc?? ziH??";let hk0←sh "QW:___" aj0;let al0←al "za5???? zdx????? qi_x?";let hm0←sh "QI:____" al0;`(tactic| first | $ha0:tactic | ((with_reducible show _=_);first | $ab0:tactic | exact rfl) | $hd0:tactic | $hf0:tactic | $hg0:tactic | $hi0:tactic | $hk0:tactic | $hm0:tactic | walk_at "o")
 | `(tactic| walk_at "e") => do let ba0←al "vx!= qv*" false;let ab0←al "ziC ziG?#?? zlj??? ziy? ziF?#???";let rc0:=#[←rl "ziD:Gt?????????" 2 (←`(tactic|(assumption;with_unfolding_all exact λh=>h)))];`(tactic| first | ((with_reducible refine qx_v ?_);$ba0:tactic) | $ab0:tactic $[|$rc0]* | walk_at "g")
 | `(tactic| walk_at "g") => do let aa0←al "qx_v? zln ziz ziA zlh?%? zli??? zdA!?????????? zdz!??????????? ziU? za6????????? z4m???????? ziB??????????? zgo zdo???????? z7k????????? za4???????? za3????????";let rb0:=#[←rl "zdp:ck???????" 2 (←`(tactic|with_unfolding_all exact tb)),←rl "zf2:0ckps????" 6 (←`(tactic|with_unfolding_all exact (‹Cf G z3e _›).c)),←rl "zf2:2ckps????" 6 (←`(tactic|with_unfolding_all exact (‹Cf G z0v _›).c))];let rc0:=#[←rl "zdq:ck???????" 2 (←`(tactic|with_unfolding_all exact hp))];let rd0:=#[←rl "zll:i?n????????" 1 (←`(tactic|walk_at "h")),←rl "ziE:i?n????????" 1 (←`(tactic|first | exact zkz | exact zeu)),←rl "zlr:i?????????" 1 (←`(tactic|walk_at "h"))];let be0←al "vx!= qv*" false;`(tactic| first | $aa0:tactic $[|$rb0]* | with_reducible refine zlm (d:=z2Q) ?_ ?_ ?_ $[|$rc0]* | (with_reducible refine zdn ?_ ?_ ?_ ?_ ?_ ?_) $[|$rd0]* | with_reducible refine QF.qx ?_ | $be0:tactic | refine zgr rfl (T.nb _ (by decide)) ?_ rfl (by decide) (by decide))
 | `(tactic| walk_at "s") => do let aa0←al "zf1? ziq? zlg??? zit? zg8? zix???????? ziw???????? zis???? zdi??? ziv?????? zdl????????? zdk zir????? zdj???? zdw!????????????? zdv!?????????????? zg7?????";let bb0←al "ax!==?= QS.sh?" false;`(tactic| first | ((with_reducible refine zf1 ?_);refine ax S rfl rfl ?_ rfl) | $aa0:tactic | $bb0:tactic)
 | `(tactic| walk_at "o") => do let aa0←al "zjI zjK zjG zjJ zgS zjH zlT? zlO? zlP? zlS? zlQ? zlR zdZ zjv zgk zgj?";let bb0←al "nx!== ziS~== ziT~== zdy??= zgn ziR=? hr.mono^ zf9 hu PassesOwn.never zjZ* rfl T.nb*^" false;`(tactic| first | $aa0:tactic | $bb0:tactic | assumption | (intro _;rfl) | (intro _ _;rfl) | (intro _ _ _ _ n1) | decide | exact S.fs.nd | decide +kernel | (intro _ _ he hg;exact ziP he hg) | (intro _ he;exact ax S rfl rfl he rfl) | exact T.g_EVERY_WAY)
 | `(tactic| walk_at "h") => do let ba0←al "zkF zkH zkE$ zhs$" false;let bb0←al "zhq$ zhp$ zho$ zex" false;`(tactic| first | $ba0:tactic | (refine zhr ?_ ?_;with_unfolding_all rfl;with_unfolding_all exact hu) | $bb0:tactic)
local macro_rules | `(tactic| walk_at "q") => `(tactic| walk_at "q2" <;> walk_at "q")
set_option hygiene false in
local macro_rules | `(tactic| walk_at "f") => `(tactic| (refine fnT F (Sc.of (by decide +kernel)) rfl rfl (λcdv A outer s H E S hr hu =>?_);first | refine z7i ?_ | refine z6s ?_ ?_) <;> walk_at "q")
def z0Y:Te:=⟨1,"_law_cell_at",52,2,["_law_script","_law_k"],z05⟩
def z1f:Te:=⟨1,"_law_free_vector",55,2,["_law_cell","_law_far","_law_wide"],z0f⟩
def z16:Te:=⟨2,"_law_free_watches",56,1,["_law_script","_law_far","_law_watches_here","_law_at","_law_size_here","_law_first","_law_wind"],z0r⟩
def z0y:Te:=⟨1,"_law_draw",53,3,["_law_cell","_law_k","_law_many","_law_prime","_law_mixed"],z00⟩
def z2j:Te:=⟨2,"_law_vector",54,3,["_law_cell","_law_far","_law_line","_law_times"],z0K⟩
def z1z:Te:=⟨3,"_law_watches",57,1,["_law_script","_law_base","_law_far","_law_line","_law_most","_law_watches_here","_law_at","_law_size_here","_law_wind","_law_stream"],z0o⟩
def z0p:Te:=⟨1,"_law_lowest",58,1,["_law_row","_law_least","_law_number","_law_one","_law_rest"],z01⟩
def z2I:Te:=⟨2,"_law_short",67,2,["_law_course_here","_law_cell","_law_first","_law_bottom","_law_part","_law_last"],z0U⟩
def z34:Te:=⟨2,"_law_add",62,3,["_law_place","_law_vector_here","_law_share","_law_top","_law_x","_law_y"],z0z⟩
def z3O:Te:=⟨2,"_law_sum",59,2,["_law_one","_law_other"],z1D⟩
def z32:Te:=⟨3,"_law_end",63,2,["_law_watches_here","_law_course_here","_law_place","_law_k","_law_total","_law_j","_law_share"],z0V⟩
def z12:Te:=⟨2,"_law_free_place",64,2,["_law_cell","_law_far","_law_wide","_law_x","_law_y"],z0i⟩
def z2J:Te:=⟨2,"_law_parts",60,3,["_law_cell","_law_many","_law_bottom","_law_cut","_law_one","_law_two","_law_three","_law_rest","_law_tops"],z1k⟩
def z1T:Te:=⟨3,"_law_course",61,2,["_law_watches_here","_law_cell","_law_course_here","_law_k","_law_bottom","_law_tops"],z0s⟩
def z3k:Te:=⟨4,"_law_goal",65,3,["_law_watches_here","_law_cell","_law_far","_law_place","_law_way","_law_size_here","_law_step"],z1v⟩
def z33:Te:=⟨5,"_law_aim",68,3,["_law_watches_here","_law_cell","_law_far","_law_short_here","_law_place"],z0W⟩
def z2v:Te:=⟨1,"turn_of",2,2,["one","other"],z1q⟩
def z1y:Te:=⟨1,"step_of",5,2,["start","end"],z0v⟩
def z3M:Te:=⟨2,"turn_by",8,3,["start","middle","end"],z3e⟩
def z3m:Te:=⟨3,"chain_of",9,2,["spots","turn","kept","spot"],z2D⟩
def z22:Te:=⟨4,"least_round",10,2,["rising","turn","there","back"],z26⟩
def z0t:Te:=⟨5,"least_headings",11,1,["wind"],z09⟩
def z1n:Te:=⟨1,"vector_added",4,2,["one","other"],z0M⟩
def z2A:Te:=⟨6,"drift_of",27,1,["watch"],z29⟩
def z2x:Te:=⟨1,"right_of",6,1,["step"],z27⟩
def z1s:Te:=⟨3,"bearings_round",12,2,["corners","step_between","found","number","corner","step"],z1w⟩
def z2m:Te:=⟨1,"dot_of",3,2,["one","other"],z10⟩
def z2w:Te:=⟨6,"sides_of",13,1,["wind","sides"],z1I⟩
def z3l:Te:=⟨2,"farthest",7,2,["wind","bearing"],z28⟩
def z2H:Te:=⟨7,"limits_of",44,3,["ahead","drift","place","limits","bearing","most","gap"],z2U⟩
def z0u:Te:=⟨1,"longest_from_begin",45,1,["limits","found","limit"],z0k⟩
def z1r:Te:=⟨1,"longest_to_end",46,1,["limits","found","limit"],z1u⟩
def z1K:Te:=⟨2,"watch_barred",47,1,["limits","bearing","gap","gain","first","last"],z1Q⟩
def z2l:Te:=⟨2,"goes_first",24,2,["one","other","one_rises","other_rises"],z2r⟩
def z1L:Te:=⟨3,"steps_merged",25,2,["ones","others","steps","taken","other"],z1R⟩
def z1Z:Te:=⟨3,"steps_round",23,2,["corners","step_between","behind"],z1C⟩
def z3P:Te:=⟨6,"joined",26,2,["one","other","ones","others","heading","headings","step"],z3v⟩
def z0C:Te:=⟨1,"common_divisor",18,2,["one","other","great","small","rest"],z0e⟩
def z3j:Te:=⟨2,"lowest",19,2,["top","bottom","divisor"],z24⟩
def z2g:Te:=⟨1,"wind_times",48,2,["wind","number"],z1W⟩
def z21:Te:=⟨1,"lies_beyond",32,3,["place","bearing","most"],z25⟩
def z1g:Te:=⟨7,"barring_bearing",33,2,["headings","place","bearing","most"],z1l⟩
def z3L:Te:=⟨1,"way_to",34,2,["vector","place"],z3u⟩
def z2i:Te:=⟨2,"line_parts",35,2,["corners","place","step","whole","second"],z2p⟩
def z11:Te:=⟨2,"triangle_parts",36,2,["corners","place","one","other","way","whole","second","third"],z0F⟩
def z1b:Te:=⟨3,"triangle_around",37,2,["headings","place","number","corners"],z1h⟩
def z1d:Te:=⟨3,"shares_of_parts",38,3,["wind","corners","parts","whole","shares"],z0T⟩
def z2G:Te:=⟨8,"shares_to",39,2,["wind","place","headings","bearing","corners","parts"],z2T⟩
def z2k:Te:=⟨2,"heading_at",41,2,["wind","step","side","ways"],z2q⟩
def z55:Te:=⟨2,"added",20,2,["one","other","shared","one_times","other_times","top","rest"],z4y⟩
def z1e:Te:=⟨3,"shares_in_watch",42,3,["wind","reach","shares","found","number","share","heading"],z1j⟩
def z1M:Te:=⟨2,"lowest_place",29,3,["x","y","bottom","divisor"],z1S⟩
def z20:Te:=⟨3,"place_times",30,2,["place","fraction"],z23⟩
def z2h:Te:=⟨3,"multiplied",21,2,["one","other"],z2o⟩
def z1c:Te:=⟨9,"short_course_to",49,4,["watches","ahead","part","place","drift","reach","shares","course","last"],z1i⟩
def z3N:Te:=⟨10,"soonest",50,2,["watches","place","bars","ahead","number","drift","limits","barred","limit","part","course"],z4c⟩
def z2y:Te:=⟨11,"_law_word",70,2,["_law_watches_here","_law_place","_law_found"],z0a⟩
def z2z:Te:=⟨2,"_law_size",66,1,["_law_script"],z0m⟩
abbrev LN:List Str:=["_law_script","_law_watches_here","_law_times","_law_doubled","_law_cell","_law_place","_law_due","_law_much","_law_short_here","_law_greater","_law_mirrored"]
def clo (j:Nat):Stmt:=(z0N (top 71)).getD j (.Pass ⟨0,0,0,0⟩)
structure Tn (G:Gx)(f:Addr)(fd:FuncData):Prop where
 m:G.mg "_law_turned"=some (.ref f)
 k:W.keepIn G.K (.ref f)=true
 F:Fun G.K "_law_turned" "_law_turned" (top 69) f fd
 b:z3y G.K fd ["_law_watches_here","_law_change"] []
def z8c (X:Cx)(a:Addr)(F:Int->Fn)(it:Nat):Prop:=∃g e,∃ps:List Str,X.mg "_law_turned"=some (.ref g)/\W.keepIn X.K (.ref g)=true/\z3y X.K e ps []/\∀(b:List (Addr × Obj)) (s:Shared) (f:L2.St) (H:Hp) (t:Int),Inv X b f H s->f[it]? = some (some (.int t))->∃d,(∀a∈d,H a=none/\a ∉ frs X.stack)/\FnOk X.prog X.w X.K X.mg (wide X.base s.heap d) (CXe X.prog X.w) 2 g e ps (spP X.K X.mg (z0h a (F t)))
def zdn {X:Cx}{e:Expr}{es:List Expr}{b p:Pos}{a:Addr}{F:Int->Fn}{i f it:Nat}(h:z8c X a F it)(s:Room 2 X.A)(o:QXA X E0 (e::es) [.v i,.v f])
  (q:sE e es X) (d:bT b es X) (r:Gl X "_law_turned"):QX X E0 (.Call (.Name "_law_turned" p) (e::es) [] b) (.turn a F i f it):=by
 obtain⟨g,t,ps,j,l,m,n⟩:=h;exact zga s zf9 j l m n o r (by decide) q d
section
variable {G:Gx}{f:Addr}{fd:FuncData}(T:Txt G.K G.mg)
include T
theorem z5M (F:Fu G z0Y f fd):Ft G z0Y f fd:=by walk_at "f"
theorem z46 (F:Fu G z1f f fd):Ft G z1f f fd:=by walk_at "f"
theorem z3G (F:Fu G z16 f fd)(_:Cf G z0f z1f):Ft G z16 f fd:=by walk_at "f"
theorem z8w (F:Fu G z0y f fd):Ft G z0y f fd:=by walk_at "f"
theorem z6B (F:Fu G z2j f fd)(_:Cf G z00 z0y):Ft G z2j f fd:=by walk_at "f"
theorem z5L (F:Fu G z1z f fd)(_:Cf G z05 z0Y)(_:Cf G z00 z0y)(_:Cf G z0K z2j)(_:Cf G z0r z16):Ft G z1z f fd:=by walk_at "f"
theorem z6C (F:Fu G z0p f fd):Ft G z0p f fd:=by walk_at "f"
theorem z7x (F:Fu G z2I f fd)(_:Cf G z00 z0y)(_:Cf G z01 z0p):Ft G z2I f fd:=by walk_at "f"
theorem zaj (F:Fu G z34 f fd)(_:Cf G z01 z0p):Ft G z34 f fd:=by walk_at "f"
theorem zag (F:Fu G z3O f fd)(_:Cf G z01 z0p):Ft G z3O f fd:=by walk_at "f"
theorem zah (F:Fu G z32 f fd)(_:Cf G z1D z3O)(_:Cf G z0z z34):Ft G z32 f fd:=by walk_at "f"
theorem z4q (F:Fu G z12 f fd)(_:Cf G z01 z0p):Ft G z12 f fd:=by walk_at "f"
theorem z7y (F:Fu G z2J f fd)(_:Cf G z00 z0y):Ft G z2J f fd:=by walk_at "f"
theorem z6D (F:Fu G z1T f fd)(_:Cf G z00 z0y)(_:Cf G z01 z0p)(_:Cf G z1k z2J):Ft G z1T f fd:=by walk_at "f"
theorem z8v (F:Fu G z3k f fd)(_:Cf G z00 z0y)(_:Cf G z01 z0p)(_:Cf G z0s z1T)(_:Cf G z0z z34)(_:Cf G z0V z32)(_:Cf G z0i z12):Ft G z3k f fd:=by walk_at "f"
theorem zai (F:Fu G z33 f fd)(_:Cf G z00 z0y)(_:Cf G z0s z1T)(_:Cf G z0V z32)(_:Cf G z0i z12)(_:Cf G z1v z3k)(_:Cf G z0U z2I):Ft G z33 f fd:=by walk_at "f"
theorem zac (F:Fu G z2v f fd):Ft G z2v f fd:=by walk_at "f"
theorem zae (F:Fu G z1y f fd):Ft G z1y f fd:=by walk_at "f"
theorem zad (F:Fu G z3M f fd)(_:Cf G z1q z2v)(_:Cf G z0v z1y):Ft G z3M f fd:=by walk_at "f"
theorem z8z (F:Fu G z3m f fd)(tb:FTab G.P G.w G.K G.mg G.base (CXe G.P G.w) 2 z8J):Ft G z3m f fd:=by walk_at "f"
theorem z5K (F:Fu G z22 f fd)(_:Cf G z2D z3m):Ft G z22 f fd:=by walk_at "f"
theorem z4p (F:Fu G z0t f fd)(_:Cf G z3e z3M)(_:Cf G z26 z22):Ft G z0t f fd:=by walk_at "f"
theorem z5g (F:Fu G z1n f fd):Ft G z1n f fd:=by walk_at "f"
theorem z8y (F:Fu G z2A f fd)(_:Cf G z0M z1n)(_:Cf G z09 z0t):Ft G z2A f fd:=by walk_at "f"
theorem z8s (F:Fu G z2x f fd):Ft G z2x f fd:=by walk_at "f"
theorem z4s (F:Fu G z1s f fd)(_:Cf G z27 z2x)(tb:FTab G.P G.w G.K G.mg G.base (CXe G.P G.w) 2 z8J):Ft G z1s f fd:=by walk_at "f"
theorem zbF (F:Fu G z2m f fd):Ft G z2m f fd:=by walk_at "f"
theorem z8r (F:Fu G z2w f fd)(_:Cf G z10 z2m)(_:Cf G z0v z1y)(_:Cf G z09 z0t)(_:Cf G z1w z1s):Ft G z2w f fd:=by walk_at "f"
theorem z8x (F:Fu G z3l f fd)(_:Cf G z10 z2m):Ft G z3l f fd:=by walk_at "f"
theorem z7w (F:Fu G z2H f fd)(_:Cf G z10 z2m)(_:Cf G z28 z3l)(_:Cf G z1I z2w):Ft G z2H f fd:=by walk_at "f"
theorem z3b (F:Fu G z0u f fd):Ft G z0u f fd:=by walk_at "f"
theorem z4o (F:Fu G z1r f fd):Ft G z1r f fd:=by walk_at "f"
theorem z5f (F:Fu G z1K f fd)(_:Cf G z0k z0u)(_:Cf G z1u z1r):Ft G z1K f fd:=by walk_at "f"
theorem z6F (F:Fu G z2l f fd)(_:Cf G z1q z2v):Ft G z2l f fd:=by walk_at "f"
theorem z5h (F:Fu G z1L f fd)(_:Cf G z2r z2l):Ft G z1L f fd:=by walk_at "f"
theorem z5H (F:Fu G z1Z f fd)(tb:FTab G.P G.w G.K G.mg G.base (CXe G.P G.w) 2 z8J):Ft G z1Z f fd:=by walk_at "f"
theorem zbE (F:Fu G z3P f fd)(_:Cf G z0M z1n)(_:Cf G z0v z1y)(_:Cf G z09 z0t)(_:Cf G z1C z1Z)(_:Cf G z1R z1L):Ft G z3P f fd:=by walk_at "f"
theorem z4r (F:Fu G z0C f fd):Ft G z0C f fd:=by walk_at "f"
theorem zbD (F:Fu G z3j f fd)(_:Cf G z0e z0C):Ft G z3j f fd:=by walk_at "f"
theorem z6y (F:Fu G z2g f fd):Ft G z2g f fd:=by walk_at "f"
theorem z5J (F:Fu G z21 f fd):Ft G z21 f fd:=by walk_at "f"
theorem z47 (F:Fu G z1g f fd)(_:Cf G z1I z2w)(_:Cf G z25 z21):Ft G z1g f fd:=by walk_at "f"
theorem zbC (F:Fu G z3L f fd):Ft G z3L f fd:=by walk_at "f"
theorem z6A (F:Fu G z2i f fd)(_:Cf G z10 z2m)(_:Cf G z0v z1y)(_:Cf G z3u z3L):Ft G z2i f fd:=by walk_at "f"
theorem z4n (F:Fu G z11 f fd)(_:Cf G z1q z2v)(_:Cf G z0v z1y)(_:Cf G z3u z3L):Ft G z11 f fd:=by walk_at "f"
theorem z41 (F:Fu G z1b f fd)(_:Cf G z0F z11):Ft G z1b f fd:=by walk_at "f"
theorem z43 (F:Fu G z1d f fd)(_:Cf G z24 z3j):Ft G z1d f fd:=by walk_at "f"
theorem z7u (F:Fu G z2G f fd)(_:Cf G z09 z0t)(_:Cf G z1l z1g)(_:Cf G z2p z2i)(_:Cf G z0F z11)(_:Cf G z1h z1b)(_:Cf G z0T z1d):Ft G z2G f fd:=by walk_at "f"
theorem z6E (F:Fu G z2k f fd)(_:Cf G z10 z2m)(_:Cf G z27 z2x):Ft G z2k f fd:=by walk_at "f"
theorem zdX (F:Fu G z55 f fd)(_:Cf G z0e z0C):Ft G z55 f fd:=by walk_at "f"
theorem z44 (F:Fu G z1e f fd)(_:Cf G z0v z1y)(_:Cf G z4y z55)(_:Cf G z2q z2k):Ft G z1e f fd:=by walk_at "f"
theorem z5i (F:Fu G z1M f fd)(_:Cf G z0e z0C):Ft G z1M f fd:=by walk_at "f"
theorem z5I (F:Fu G z20 f fd)(_:Cf G z1S z1M):Ft G z20 f fd:=by walk_at "f"
theorem z6z (F:Fu G z2h f fd)(_:Cf G z24 z3j):Ft G z2h f fd:=by walk_at "f"
theorem z42 (F:Fu G z1c f fd)(_:Cf G z2o z2h)(_:Cf G z3v z3P)(_:Cf G z29 z2A)(_:Cf G z23 z20)(_:Cf G z2T z2G)(_:Cf G z1j z1e)(_:Cf G z1W z2g):Ft G z1c f fd:=by walk_at "f"
theorem zaf (F:Fu G z3N f fd)(_:Cf G z24 z3j)(_:Cf G z4y z55)(_:Cf G z3v z3P)(_:Cf G z29 z2A)(_:Cf G z2U z2H)(_:Cf G z0k z0u)(_:Cf G z1Q z1K)(_:Cf G z1i z1c):Ft G z3N f fd:=by walk_at "f"
theorem z8t (F:Fu G z2y f fd)(_:Cf G z4c z3N):Ft G z2y f fd:=by walk_at "f"
theorem z8u (F:Fu G z2z f fd)(_:Cf G z05 z0Y)(_:Cf G z00 z0y):Ft G z2z f fd:=by walk_at "f"
end
def zkJ (a b:Addr):Sm:=(.seq (.set 3 (.op z0Q [(.comp 1 [] (.nm 0) (.v 1) none (.op pTup [(.op pAdd [(.sl (.op pIx [(.v 0),(.c (.int 0))]) none (some (.c (.int 10)))),(.sl (.op pIx [(.v 0),(.c (.int 0))]) none (some (.c (.int 2))))]),(.op pIx [(.v 0),(.c (.int 1))])]))]))
 (.seq (.for_ [] (.nm 4) (.sl (.op pAdd [(.op pLst [(.c (.int 0))]),(.v 0)]) (some (.op pNeg [(.c (.int 3))])) none) (.seq (.set 5 (.op z0W [(.v 1),(.v 4),(.op z0m [(.v 0)])]))
 (.seq (.set 6 (.op z0a [(.v 1),(.v 5)]))
 (.seq (.set 7 (.op z01 [(.op pLst [(.op z0d [(.op pIx [(.v 5),(.c (.int 0))]),(.v 2)]),(.op z0d [(.op pIx [(.v 5),(.c (.int 1))]),(.v 2)]),(.op pIx [(.v 5),(.c (.int 2))])])]))
 (.seq (.ifs (.or (.op pIs [(.v 6),(.c .non)]) (.op pNe [(.op z0a [(.turn a fGr 1 9 2),(.v 7)]),(.v 6)])) (.ret (.c (.bl false))) .skip)
 (.seq (.ifs (.op pNe [(.op z0a [(.turn b (λ_=>fMi) 1 10 2),(.op pTup [(.op pIx [(.v 5),(.c (.int 1))]),(.op pIx [(.v 5),(.c (.int 0))]),(.op pIx [(.v 5),(.c (.int 2))])])]),(.v 6)]) (.ret (.c (.bl false))) .skip)
 (.seq (.set 8 (.op z0Q [(.comp 1 [] (.nm 0) (.v 1) (some (.op pLe [(.op pLen [(.op pIx [(.v 0),(.c (.int 0))])]),(.c (.int 10))])) (.v 0))]))
 (.ifs (.and (.op pEq [(.op pLen [(.v 8)]),(.op pLen [(.v 1)])]) (.op pNe [(.op z0a [(.v 3),(.v 5)]),(.v 6)])) (.ret (.c (.bl false))) .skip))))))))
 (.ret (.c (.bl true)))))
section
variable {G:Gx}{f:Addr}{fd:FuncData}(T:Txt G.K G.mg)
include T
theorem z45 {a:Addr}{b:Fn}(hp:FpG G 1 a b)(F:Fun G.K "_law_turned" "_law_turned" (top 69) f fd):FnOk G.P G.w G.K G.mg G.base (CXe G.P G.w) 2 f fd ["_law_watches_here","_law_change"] (spP G.K G.mg (z0h a b)):=by
 refine fnQ (k:=1) (N:=["_law_watches_here","_law_change","_law_found","_law_wind","_law_stream"]) F (Sc.of (by decide +kernel)) (λcdv A outer s H E S hr hu =>?_);refine z6s ?_ ?_ <;> walk_at "q"
end
section
variable {G:Gx}{f c':Addr}{clos:List (Str × Addr)}{qual:Str}{doc pm ctv:Value}{oc:Obj}{vc:Array Value}{tq:Tok}{t:Int}
def zlN {c:Addr}{u:Value}(e:G.base.get? f=some (W.fnMade "_law_greater" qual (z1J (clo 2)) (z0N (clo 2)) (z07 (clo 2)) [("_law_times",c)] doc pm c' ctv))(g:G.base.get? c'=some oc)(i:oc.data = .fields vc)(j:vc[1]? = some (.str qual tq))(r:RelV (.int t) u)(b:G.base.IsCell c (some u)):FpG G 1 f (fGr t):=
 ⟨_,_,_,_,["_law_vector_here"],e,cloN (k:=0) (cs:=[t]) (N:=["_law_vector_here","_law_times"]) e g i j (zhu (by decide +kernel) r b) (λA outer s H hr=>by
  refine z7i ?_
  repeat' (first | walk_at "q2" | exact vq (by decide +kernel))),.all (us1 λ_=>rfl)⟩
def zlM (b:G.base.get? f=some (W.fnMade "_law_mirrored" qual (z1J (clo 3)) (z0N (clo 3)) (z07 (clo 3)) [] doc pm c' ctv))(e:G.base.get? c'=some oc)(g:oc.data = .fields vc)(i:vc[1]? = some (.str qual tq)):FpG G 1 f fMi:=
 ⟨_,_,_,_,["_law_vector_here"],b,cloN (k:=0) (cs:=[]) (N:=["_law_vector_here"]) b e g i (zhv (by decide +kernel)) (λA outer s H hr=>by
  refine z7i ?_
  repeat' (first | walk_at "q2" | exact vq (by decide +kernel))),.all (us1 λ_=>rfl)⟩
end
abbrev sc:Scope:=z07 (top 71)
abbrev Xl (G:Gx)(f c Pt:Addr)(A:Around)(s:Shared)(H:Hp):Cx:=cxP (CXe G.P G.w) G.P G.w G.K G.mg G.base LN "law" sc f (.ref c) A s H E0 Pt
def zhw {G:Gx}(T:Txt G.K G.mg)(_:Cf G z05 z0Y)(_:Cf G z00 z0y)(_:Cf G z0o z1z)(_:Cf G z01 z0p)(_:Cf G z0m z2z)(_:Cf G z0W z33)(_:Cf G z0a z2y){f c Pt a b:Addr}{A:Around}{s:Shared}{H:Hp}(S:Sc LN ["_law_script"] sc)(hr:Room 11 (A.deeper (envOfC "law" sc s.heap.objs.size f (.ref c))))(hu:(A.deeper (envOfC "law" sc s.heap.objs.size f (.ref c))).units+64<cLine){l:List (Addr × Obj)}
  (e:z8c ((Xl G f c Pt A s H).repin l) a fGr 2) (g:z8c ((Xl G f c Pt A s H).repin l) b (λ_=>fMi) 2):QZs ((Xl G f c Pt A s H).repin l) E0 ((z0N (top 71)).drop 4) (zkJ a b):=by
 first | refine z7i ?_ | refine z6s ?_ ?_
 all_goals walk_at "q"
def zfH {G:Gx}(T:Txt G.K G.mg){g:Addr}{y:FuncData}(tn:Tn G g y){f c Pt n j:Addr}{A:Around}{s:Shared}{H:Hp}{l:List (Addr × Obj)}{h:Str}{p Y o:Value}{C:Obj}{M:Array Value}{tq:Tok}{d:List (Str × Addr)}(q:d=[(("_law_times":Str),s.heap.objs.size+1)])
  (U:(n,W.fnMade "_law_greater" h (z1J (clo 2)) (z0N (clo 2)) (z07 (clo 2)) d p Y j o)∈l) (X:(j,C)∈l) (R:C.data = .fields M) (S:M[1]? = some (.str h tq)):z8c ((Xl G f c Pt A s H).repin l) n fGr 2:=by
 refine⟨g,y,_,tn.m,tn.k,tn.b,λL s' σ H' t I r =>?_⟩;obtain⟨cc,u,Q,Z,N,O⟩:=I.cell_of (i:=2) (x:="_law_times") rfl r rfl rfl;have e:cc=s.heap.objs.size+1:=by
  have:(some (s.heap.objs.size+1):Option Addr)=some cc:=Q
  cases this;rfl
 subst q;subst e;have E:=I.pin_wide (as:=[n,j,s.heap.objs.size+1]) U (by simp);have J:=I.pin_wide (as:=[n,j,s.heap.objs.size+1]) X (by simp);refine⟨[n,j,s.heap.objs.size+1],λa z =>?_,?_⟩
 .simp only[wm,wz,vK] at z
  rcases z with rfl | rfl | rfl
  .exact E.1
  .exact J.1
  .exact N
 .exact z45 (G:=⟨G.P,G.w,G.K,G.mg,wide G.base s'.heap _⟩) ⟨T.nb,T.g_EVERY_WAY⟩ (zlN E.2 J.2 R S Z (O _ (by simp))) tn.F
def zfG {G:Gx}(T:Txt G.K G.mg){g:Addr}{p:FuncData}(tn:Tn G g p){f c Pt i h:Addr}{A:Around}{s:Shared}{H:Hp}{l:List (Addr × Obj)}{e:Str}{n N j:Value}{r:Obj}{z:Array Value}{Q:Tok}{d:List (Str × Addr)}(o:d=[])
  (L:(i,W.fnMade "_law_mirrored" e (z1J (clo 3)) (z0N (clo 3)) (z07 (clo 3)) d n N h j)∈l) (M:(h,r)∈l) (C:r.data = .fields z) (E:z[1]? = some (.str e Q)):z8c ((Xl G f c Pt A s H).repin l) i (λ_=>fMi) 2:=by
 refine⟨g,p,_,tn.m,tn.k,tn.b,λy O S R t I J =>?_⟩;subst o;have u:=I.pin_wide (as:=[i,h]) L (by simp);have x:=I.pin_wide (as:=[i,h]) M (by simp);refine⟨[i,h],λa q =>?_,?_⟩
 .simp only[wm,wz,vK] at q
  rcases q with rfl | rfl
  .exact u.1
  .exact x.1
 .exact z45 (G:=⟨G.P,G.w,G.K,G.mg,wide G.base O.heap _⟩) ⟨T.nb,T.g_EVERY_WAY⟩ (zlM u.2 x.2 C E) tn.F
def zkK:Sm:=(.seq (.set 1 (.sl (.op z0o [(.v 0)]) none (some (.c (.int 5)))))
 (.seq (.set 2 (.op pIx [(.op pLst [(.op pAdd [(.c (.int 2)),(.op z00 [(.op z05 [(.v 0),(.c (.int 0))]),(.c (.int 96)),(.c (.int 8))])]),(.c (.int 1))]),(.op pInt [(.op pGt [(.op z0m [(.v 0)]),(.c (.int 12))])])]))
 (.mkf 9 λa =>.mkf 10 λb=>zkJ a b)))
def zly {G:Gx}(T:Txt G.K G.mg)(_:Cf G z05 z0Y)(_:Cf G z00 z0y)(_:Cf G z0o z1z)(_:Cf G z01 z0p)(_:Cf G z0m z2z)(_:Cf G z0W z33)(_:Cf G z0a z2y){g:Addr}{o:FuncData}(tn:Tn G g o){f c Pt:Addr}{A:Around}{s:Shared}{H:Hp}(hr:Room 11 (A.deeper (envOfC "law" sc s.heap.objs.size f (.ref c))))(b:W.codeHdIn G.K c Pt=true):Q0 (Xl G f c Pt A s H) Pt E0 (z0N (top 71)) zkK:=by
 have S:Sc LN ["_law_script"] sc:=Sc.of (by decide +kernel);have hu:=hr.units;show Q0 ((Xl G f c Pt A s H).repin ((Pt,W.tabObj #[])::[])) Pt E0 _ _;refine zaC ?_ (zaC ?_ (zeI S.fs.nd rfl (S.nm _ (by decide)).loc rfl rfl b (wg.2 rfl) (by simp) (by exact trivial) rfl (λ_ _ _ _=>rfl) rfl rfl rfl λy r M w O R C e j n1 q=>zeI S.fs.nd rfl (S.nm _ (by decide)).loc rfl rfl b (wg.2 rfl) ?_ ?_ ?_ (λ_ _ _ _=>rfl) rfl rfl rfl λz u N x Q U I i m L J=>zkT (zhw T ‹_› ‹_› ‹_› ‹_› ‹_› ‹_› ‹_› S hr hu (zfH T tn rfl (.tail _ (.tail _ (.tail _ (.head _)))) (.tail _ (.tail _ (.tail _ (.tail _ (.head _))))) e j) (zfG T tn rfl (.tail _ (.head _)) (.tail _ (.tail _ (.head _))) i m))))
 .walk_at "q"
 .walk_at "q"
 .intro p hp;simp only[wm,wz,vK] at hp
  rcases hp with rfl | rfl
  .exact n1
  .exact q
 .exact trivial
 .rfl
def zkN {l:W.OpenLaw}{w:World}{K:W.Frag}{mg:WmP}{s₁:Shared}{ns:List Int}{q:Heap}{H:Hp}{fa a c Pt ft fl f0 f1 f2 f3 f4 f5 f6 f7 f8 f9 e8 e9 g0 g4 g5 g6 g7 g8 g9 h0 h1 h2 h3 h4 h5 h6 h7 h8 h9 i0 i1 i2 i3 i4 i5 i6 i7 i8 i9 j8 j9 k0 k1 k2 k3 k4 k5 k6 k7 k8 k9 l0 l1 l2 l3 l4 l5 l6:Addr}{oc:Value}{od an:Option Addr}{l8:Array (Option Value)}{kV dc pm C:Value}(X:K.In s₁.heap)(g:s₁.heap.Ns mainGlobals mg)(l7:mg "law"=some (.ref fa))(hl:ns.length<=63)(hP:s₁.heap.get? Pt=some (W.tabObj #[]))(hb:q.get? Pt=none)(hH:H Pt=none)(e0:Env0 l.prog w K mg q callerA [] s₁ H)(hS:SqL K H a (ns.map V.int))
  (la:W.nsIn K mainGlobals "law"=some (some (.ref fl))) (ll:K.lookup fl=some ⟨oc,od,.func (W.fnOf "law" "law" (z1J (top 71)) (z0N (top 71)) (z07 (top 71)) .none kV dc pm an (.ref c) C),l8⟩) (lc:W.codeIn K (.ref c) "law"=true) (ld:W.codeHdIn K c Pt=true)
  (dt:Std K "_law_turned" (top 69) ft)
  (d0:Std K "_law_cell_at" (top 52) f0)
  (d1:Std K "_law_free_vector" (top 55) f1)
  (d2:Std K "_law_free_watches" (top 56) f2)
  (d3:Std K "_law_draw" (top 53) f3)
  (d4:Std K "_law_vector" (top 54) f4)
  (d5:Std K "_law_watches" (top 57) f5)
  (d6:Std K "_law_lowest" (top 58) f6)
  (d7:Std K "_law_short" (top 67) f7)
  (d8:Std K "_law_add" (top 62) f8)
  (d9:Std K "_law_sum" (top 59) f9)
  (E:Std K "_law_end" (top 63) e8)
  (I:Std K "_law_free_place" (top 64) e9)
  (J:Std K "_law_parts" (top 60) g0)
  (L:Std K "_law_course" (top 61) g4)
  (M:Std K "_law_goal" (top 65) g5)
  (O:Std K "_law_aim" (top 68) g6)
  (Q:Std K "turn_of" (top 2) g7)
  (R:Std K "step_of" (top 5) g8)
  (U:Std K "turn_by" (top 8) g9)
  (Y:Std K "chain_of" (top 9) h0)
  (Z:Std K "least_round" (top 10) h1)
  (a0:Std K "least_headings" (top 11) h2)
  (a1:Std K "vector_added" (top 4) h3)
  (a2:Std K "drift_of" (top 27) h4)
  (a3:Std K "right_of" (top 6) h5)
  (a4:Std K "bearings_round" (top 12) h6)
  (a5:Std K "dot_of" (top 3) h7)
  (a6:Std K "sides_of" (top 13) h8)
  (a7:Std K "farthest" (top 7) h9)
  (a8:Std K "limits_of" (top 44) i0)
  (a9:Std K "longest_from_begin" (top 45) i1)
  (b0:Std K "longest_to_end" (top 46) i2)
  (b1:Std K "watch_barred" (top 47) i3)
  (b2:Std K "goes_first" (top 24) i4)
  (b3:Std K "steps_merged" (top 25) i5)
  (b4:Std K "steps_round" (top 23) i6)
  (b5:Std K "joined" (top 26) i7)
  (b6:Std K "common_divisor" (top 18) i8)
  (b7:Std K "lowest" (top 19) i9)
  (b8:Std K "wind_times" (top 48) j8)
  (b9:Std K "lies_beyond" (top 32) j9)
  (c0:Std K "barring_bearing" (top 33) k0)
  (c1:Std K "way_to" (top 34) k1)
  (c2:Std K "line_parts" (top 35) k2)
  (c3:Std K "triangle_parts" (top 36) k3)
  (c4:Std K "triangle_around" (top 37) k4)
  (c5:Std K "shares_of_parts" (top 38) k5)
  (c6:Std K "shares_to" (top 39) k6)
  (c7:Std K "heading_at" (top 41) k7)
  (c8:Std K "added" (top 20) k8)
  (c9:Std K "shares_in_watch" (top 42) k9)
  (e1:Std K "lowest_place" (top 29) l0)
  (e2:Std K "place_times" (top 30) l1)
  (e3:Std K "multiplied" (top 21) l2)
  (e4:Std K "short_course_to" (top 49) l3)
  (e5:Std K "soonest" (top 50) l4)
  (e6:Std K "_law_word" (top 70) l5)
  (e7:Std K "_law_size" (top 66) l6)
  (zb:∀b∈BL,W.nsIn K mainGlobals b=some none)
  (m:W.nsIn K mainGlobals "turn_among"=some none)
  (j:W.nsIn K mainGlobals "step_among"=some none)
  (z:W.nsIn K mainGlobals ""=some none)
  {i:Addr}(p:W.nsIn K mainGlobals "EVERY_WAY"=some (some (.ref i))) (o:z7K K z2Q (.ref i)=true)
  : codeAny (model l.prog w) callerA (.call (.ref fa) ⟨[.ref a],[]⟩) (λr s'=>match r with | .ok (.ret u)=>CEP l.prog w H Pt s₁ (λv _=>v = .bl true) u s' | _=>False) s₁:=by
 cases l7.symm.trans (W.mg_of X g la)
 generalize l.prog=P at*;obtain⟨G,rfl,rfl,rfl,rfl,rfl⟩:=Gx.of P w K mg q;have T:Txt G.K G.mg:=⟨λb hb=>j3 X g (zb b hb),⟨_,W.mg_of X g p,o⟩⟩
 have h := @ctG G s₁.heap X g;have q0:=h z0Y d0 λ_ F=>z5M T F;have q1:=h z1f d1 λ_ F=>z46 T F;have q3:=h z16 d2 λ_ F=>z3G T F q1;have s:=h z0y d3 λ_ F=>z8w T F;have q5:=h z2j d4 λ_ F=>z6B T F s;have q6:=h z1z d5 λ_ F=>z5L T F q0 s q5 q3;have t:=h z0p d6 λ_ F=>z6C T F;have q8:=h z2I d7 λ_ F=>z7x T F s t;have q9:=h z34 d8 λ_ F=>zaj T F t;have qa:=h z3O d9 λ_ F=>zag T F t;have qb:=h z32 E λ_ F=>zah T F qa q9;have qc:=h z12 I λ_ F=>z4q T F t;have qd:=h z2J J λ_ F=>z7y T F s;have qe:=h z1T L λ_ F=>z6D T F s t qd;have qf:=h z3k M λ_ F=>z8v T F s t qe q9 qb qc;have qg:=h z33 O λ_ F=>zai T F s qe qb qc qf q8;have qh:=h z2v Q λ_ F=>zac T F;have x:=h z1y R λ_ F=>zae T F;have qj:=h z3M U λ_ F=>zad T F qh x;have tb:FTab G.P G.w G.K G.mg G.base (CXe G.P G.w) 2 z8J:=FTab.mk (j3 X g z) λn hn f e=>by
  match n,hn with
  | 0,_=>exact qj.c.tab (by decide) f e
  | 1,_=>rw[show z5v 1="turn_among" from rfl,j3 X g m] at e;cases e
  | 2,_=>exact x.c.tab (by decide) f e
  | 3,_=>rw[show z5v 3="step_among" from rfl,j3 X g j] at e;cases e
 have qk:=h z3m Y λ_ F=>z8z T F tb;have ql:=h z22 Z λ_ F=>z5K T F qk;have A:=h z0t a0 λ_ F=>z4p T F qj ql;have qn:=h z1n a1 λ_ F=>z5g T F;have qo:=h z2A a2 λ_ F=>z8y T F qn A;have qp:=h z2x a3 λ_ F=>z8s T F;have qq:=h z1s a4 λ_ F=>z4s T F qp tb;have y:=h z2m a5 λ_ F=>zbF T F;have qs:=h z2w a6 λ_ F=>z8r T F y x A qq;have qt:=h z3l a7 λ_ F=>z8x T F y;have qu:=h z2H a8 λ_ F=>z7w T F y qt qs;have qw:=h z0u a9 λ_ F=>z3b T F;have qy:=h z1r b0 λ_ F=>z4o T F;have qz:=h z1K b1 λ_ F=>z5f T F qw qy;have qA:=h z2l b2 λ_ F=>z6F T F qh;have qB:=h z1L b3 λ_ F=>z5h T F qA;have qC:=h z1Z b4 λ_ F=>z5H T F tb;have qD:=h z3P b5 λ_ F=>zbE T F qn x A qC qB;have qE:=h z0C b6 λ_ F=>z4r T F;have qF:=h z3j b7 λ_ F=>zbD T F qE;have qG:=h z2g b8 λ_ F=>z6y T F;have qH:=h z21 b9 λ_ F=>z5J T F;have qI:=h z1g c0 λ_ F=>z47 T F qs qH;have qJ:=h z3L c1 λ_ F=>zbC T F;have qK:=h z2i c2 λ_ F=>z6A T F y x qJ;have qL:=h z11 c3 λ_ F=>z4n T F qh x qJ;have qM:=h z1b c4 λ_ F=>z41 T F qL;have qN:=h z1d c5 λ_ F=>z43 T F qF;have qO:=h z2G c6 λ_ F=>z7u T F A qI qK qL qM qN;have qP:=h z2k c7 λ_ F=>z6E T F y qp;have qQ:=h z55 c8 λ_ F=>zdX T F qE;have qR:=h z1e c9 λ_ F=>z44 T F x qQ qP
 have qS:=h z1M e1 λ_ F=>z5i T F qE;have qT:=h z20 e2 λ_ F=>z5I T F qS;have qU:=h z2h e3 λ_ F=>z6z T F qF;have qV:=h z1c e4 λ_ F=>z42 T F qU qD qo qT qO qR qG;have qW:=h z3N e5 λ_ F=>zaf T F qF qQ qD qo qu qw qz qV;have qX:=h z2y e6 λ_ F=>z8t T F qW;have qY:=h z2z e7 λ_ F=>z8u T F q0 s;have tn:∃fd,Tn G ft fd:=by
  obtain⟨oc,od,sl,kV,dc,pm,an,cd,h,a,l,c,kk⟩:=dt;have F:=zfq (st:=top 69) l c kk;exact⟨_,W.mg_of X g a,kk,F,F.binds λ_ _ _ _ _ _=>us2 λ_ _=>rfl⟩
 obtain⟨fd,tn⟩:=tn;have hr:Room 12 callerA:=⟨rfl,by decide,by decide⟩
 have S:Sc LN ["_law_script"] sc:=Sc.of (by decide +kernel);refine zh5 (k:=11) (N:=LN) (ps:=["_law_script"]) (b:=zkK) (us:=[.ref a]) (vs:=[.ref a]) ll lc S.fs rfl (zly T q0 s q6 t qY qg qX tn (hr.deeper _) ld) hr e0 hP hH hb (.of_eq rfl) (.cons rfl .nil) rfl ?_;exact⟨H,[.lst (ns.map .int)],_,_,Same.refl',RDs.cons (RD.ofL hS (z4X ns)) RDs.nil,zh6 ns hl,λd v G' H' e g1 g2 g3 rd=>by
  subst e;exact z7h rd,Kx.no⟩
def walk {l:W.OpenLaw}{q:Program}{g:List Str}{XP:(Str->Option Value)->Heap->Prop}{j:World->Heap->Prop}{d:DefRec}{K:Params->W.Frag}{c Pt:Addr}(L:l.most=some 63)(m:d.params.defaults=[])
  (I:∀(w:World) (h:Heap),j w h->(K w.params).In h) (o:∀w:World,tsOf (K w.params)=[]) (J:∀w:World,z9Q (K w.params) c=some Pt) (G:∀(w:World) (h:Heap),j w h->h.get? Pt=some (W.tabObj #[]))
  (F:∀(w:World) (mg:WmP) (i a:Addr) (b:Shared) (ns:List Int) (e:Heap) (H:Hp),(K w.params).In b.heap->b.heap.Ns mainGlobals mg->mg d.name=some (.ref i)->ns.length<=63->b.heap.get? Pt=some (W.tabObj #[])->e.get? Pt=none->H Pt=none->Env0 l.prog w (K w.params) mg e callerA [] b H->SqL (K w.params) H a (ns.map V.int)->
   codeAny (model l.prog w) callerA (.call (.ref i) ⟨[.ref a],[]⟩) (λr s'=>match r with | .ok (.ret u)=>CEP l.prog w H Pt b (λv _=>v = .bl true) u s' | _=>False) b):
  W.WalkO q g XP j l.row.toRowW d [] (λf vs=>PySem.call f vs):=
 L2.zcN (n:=63) (k:=12) (c:=λ_=>c) (Pt:=λ_=>Pt) L (by decide) m ⟨rfl,by decide,by decide⟩ I o J G λw mg i a b ns p s t x y e H z A C E=>F w mg i a b ns e H p s t x y z A C E
end My
open PySem PySem.W PyProof.Rows
local macro_rules | `(tactic| walk_at "ks") => `(tactic| (refine' Pu.Std.mk ?a ?l ?c ?k;(case a=>k_is);(case l=>k_is);(case c=>k_is);(case k=>k_is)))
set_option maxRecDepth 100000 in
set_option maxHeartbeats 0 in
theorem PySem.Challenge.cw_closehaul_k34_whole_greater_and_mirrored_holds : PySem.Challenge.rw_closehaul_k34_whole_greater_and_mirrored.Holds := by
 w_on;o_law;k_head;(case hw=>w_witness2)
 k_fill
 refine My.walk (l:=PySem.Challenge.rw_closehaul_k34_whole_greater_and_mirrored) (c:=429) (Pt:=427) rfl rfl (λw h Y=>W.km_in_of Y) (λw=>by kernel_rfl) (λw=>by kernel_rfl) (λw h Y=>W.km_tabs_of Y _ (by decide)) ?F
 case F=>
  intro w mg r a f u e H g G b q m p j i o;refine' My.zkN g G b q m p j i o ?_ ?_ ?_ ?_ ?_ ?_ ?_ ?_ ?_ ?_ ?_ ?_ ?_ ?_ ?_ ?_ ?_ ?_ ?_ ?_ ?_ ?_ ?_ ?_ ?_ ?_ ?_ ?_ ?_ ?_ ?_ ?_ ?_ ?_ ?_ ?_ ?_ ?_ ?_ ?_ ?_ ?_ ?_ ?_ ?_ ?_ ?_ ?_ ?_ ?_ ?_ ?_ ?_ ?_ ?_ ?_ ?_ ?_ ?_ ?_ ?_ ?_ ?_ ?_ ?_ ?_ ?_ ?_ ?_
  all_goals first | walk_at "ks" | k_is | kernel_rfl | ((repeat refine List.forall_mem_cons.2 ⟨by k_is,?_⟩);intro _ h;cases h) | skip
